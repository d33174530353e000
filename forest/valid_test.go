package forest_test

import (
	"math"
	"math/rand"
	"slices"
	"testing"

	"multikernel/api"
	"multikernel/captype"
)

// P13.1: Valid

// Each list of entries of a valid forest, in their order, is a valid forest: ancestors need not be there.
func TestValidOfSublists(t *testing.T) {
	checkValid(t, nil, true)
	checkValid(t, []api.Entry{}, true)
	all := sample()
	for set := range 1 << len(all) {
		var l []api.Entry
		for i, e := range all {
			if set>>i&1 == 1 {
				l = append(l, e)
			}
		}
		checkValid(t, l, true)
	}
}

func TestValidOfPlaces(t *testing.T) {
	for _, core := range []int{0, 1, 30, 31} {
		for _, slot := range []int{0, 1, 62, 63} {
			checkValid(t, []api.Entry{entry(core, slot, id(0, 1), untyped(0, 12))}, true)
		}
	}
	for _, odd := range []int{math.MinInt, -1 << 32, -64, -1, 64, 65, 256, 1 << 32, 1<<32 + 1, math.MaxInt} {
		checkValid(t, []api.Entry{entry(odd, 0, id(0, 1), untyped(0, 12))}, false)
		checkValid(t, []api.Entry{entry(0, odd, id(0, 1), untyped(0, 12))}, false)
		checkValid(t, []api.Entry{entry(odd, odd, id(0, 1), untyped(0, 12))}, false)
	}
	checkValid(t, []api.Entry{entry(32, 0, id(0, 1), untyped(0, 12))}, false)
	checkValid(t, []api.Entry{entry(32, 63, id(0, 1), untyped(0, 12))}, false)
}

// Any two entries differ in their slots, also those that are not neighbours.
func TestValidOfEqualPlaces(t *testing.T) {
	for i := range sample() {
		for k := range i {
			l := sample()
			l[i].Core, l[i].Slot = l[k].Core, l[k].Slot
			checkValid(t, l, false)
			l[i].Slot = 30
			checkValid(t, l, true)
		}
	}
}

func TestValidOfOrder(t *testing.T) {
	for i := range sample() {
		for k := range i {
			l := sample()
			l[i], l[k] = l[k], l[i]
			checkValid(t, l, false)
		}
	}
	for _, c := range []struct {
		a, b api.Id
		want bool
	}{
		{id(0, 1), id(0, 2), true},
		{id(0, 9), id(1, 1), true},
		{api.Id{Core: 3, Op: 4, Part: 5}, api.Id{Core: 3, Op: 4, Part: 6}, true},
		{api.Id{Core: 3, Op: 4, Part: 7}, api.Id{Core: 3, Op: 5, Part: 0}, true},
		{id(0, 1), id(0, 1), false},
		{id(0, 2), id(0, 1), false},
		{id(1, 1), id(0, 9), false},
		{api.Id{Core: 3, Op: 4, Part: 6}, api.Id{Core: 3, Op: 4, Part: 5}, false},
	} {
		checkValid(t, []api.Entry{entry(0, 0, c.a, frame(0, 12)), entry(0, 1, c.b, frame(4096, 12))}, c.want)
	}
}

// A node that is not valid: its Id, its capability or its path.
func TestValidOfOddNodes(t *testing.T) {
	for i := range sample() {
		for _, c := range append(oddCaps(), with(8, frame(4096, 12)), table(0, 32, 2), device(object(api.CapEndpoint, 0, 6))) {
			l := sample()
			l[i].Node.Cap = c
			checkValid(t, l, false)
			checkValid(t, l[i:i+1], false)
		}
		for _, own := range []api.Id{{}, id(-1, 1), id(32, 1), id(0, 1<<30+1), {Core: 0, Op: 1, Part: 8}} {
			alone := entry(0, 0, own, untyped(0, 12))
			checkValid(t, []api.Entry{alone}, false)
			l := sample()
			l[i].Node.Path = append(l[i].Node.Path, own)
			checkValid(t, l, false)
			checkValid(t, l[i:i+1], false)
		}
		l := sample()
		l[i].Node.Path = append(l[i].Node.Path, l[i].Node.Id)
		checkValid(t, l[i:i+1], false)
		for op := 50; len(l[i].Node.Path) < 9; op++ {
			l[i].Node.Path = append(l[i].Node.Path, id(9, op))
		}
		checkValid(t, l[i:i+1], false)
	}
}

// Three and four objects without ancestors, in all orders of their Ids: any two of them must coexist.
func TestValidOfObjects(t *testing.T) {
	caps := []api.Cap{
		untyped(0, 6), untyped(64, 6), untyped(0, 12), device(untyped(0, 12)), untyped(0, 13), untyped(4096, 12), with(0, untyped(0, 13)),
		frame(0, 12), with(1, frame(0, 12)), device(frame(0, 12)), frame(4096, 12), frame(0, 13),
		table(0, 32, 0), table(0, 32, 1), table(0, 39, 0), with(2, table(0, 39, 0)),
		object(api.CapEndpoint, 0, 6), with(3, object(api.CapEndpoint, 0, 6)), object(api.CapEndpoint, 4096, 6), object(api.CapDispatcher, 0, 10), object(api.CapKernel, 0, 16),
	}
	valid := 0
	for _, a := range caps {
		for _, b := range caps {
			for _, c := range caps {
				for _, d := range caps {
					l := []api.Entry{entry(0, 0, id(0, 1), a), entry(0, 1, id(0, 2), b), entry(0, 2, id(0, 3), c), entry(0, 3, id(0, 4), d)}
					want := allCoexist(a, b, c, d)
					if want {
						valid++
					}
					checkValid(t, l, want)
				}
			}
		}
	}
	if valid < 5000 || valid > 150000 {
		t.Error(valid, "valid ones")
	}
}

func allCoexist(caps ...api.Cap) bool {
	for i, a := range caps {
		for _, b := range caps[:i] {
			if !captype.Coexist(a, b) {
				return false
			}
		}
	}
	return true
}

// A node and an ancestor: the path of the ancestor, its range and its kind.
func TestValidOfAncestors(t *testing.T) {
	a, b, c := id(0, 1), id(0, 2), id(0, 3)
	for _, x := range []struct {
		above api.Cap
		path  []api.Id
		below api.Cap
		want  []api.Id
		valid bool
	}{
		{untyped(0, 13), nil, untyped(0, 12), []api.Id{b}, true},
		{untyped(0, 13), nil, untyped(0, 13), []api.Id{b}, true},
		{untyped(0, 12), nil, frame(0, 12), []api.Id{b}, true},
		{untyped(0, 12), nil, device(untyped(0, 12)), []api.Id{b}, true},
		{untyped(0, 13), []api.Id{a}, frame(4096, 12), []api.Id{a, b}, true},
		{untyped(0, 13), []api.Id{a, id(7, 7)}, frame(4096, 12), []api.Id{a, id(7, 7), b, id(8, 8)}, true},
		{frame(0, 12), nil, with(1, frame(0, 12)), []api.Id{b}, true},
		{with(1, frame(0, 12)), nil, frame(0, 12), []api.Id{b}, true},
		{table(0, 39, 1), []api.Id{a}, table(0, 39, 1), []api.Id{a, b}, true},
		{untyped(0, 13), nil, frame(8192, 12), []api.Id{b}, false},
		{untyped(0, 12), nil, untyped(0, 13), []api.Id{b}, false},
		{frame(0, 12), nil, untyped(0, 12), []api.Id{b}, false},
		{frame(0, 12), nil, untyped(0, 13), []api.Id{b}, false},
		{frame(0, 12), nil, frame(4096, 12), []api.Id{b}, false},
		{device(frame(0, 12)), nil, device(frame(4096, 12)), []api.Id{b}, false},
		{untyped(0, 13), nil, frame(0, 12), []api.Id{a, b}, false},
		{untyped(0, 13), []api.Id{a}, frame(0, 12), []api.Id{b}, false},
		{untyped(0, 13), []api.Id{a}, frame(0, 12), []api.Id{b, a}, false},
		{untyped(0, 13), []api.Id{a}, frame(0, 12), []api.Id{id(7, 7), b}, false},
		{untyped(0, 13), []api.Id{a, id(7, 7)}, frame(0, 12), []api.Id{id(7, 7), a, b}, false},
		{untyped(0, 13), []api.Id{a, id(7, 7)}, frame(0, 12), []api.Id{a, b, id(7, 7)}, false},
		{untyped(0, 13), []api.Id{a, id(7, 7)}, frame(0, 12), []api.Id{a, id(7, 8), b}, false},
		{untyped(0, 13), []api.Id{c}, untyped(0, 13), []api.Id{b}, false},
	} {
		checkValid(t, []api.Entry{entry(0, 0, b, x.above, x.path...), entry(0, 1, c, x.below, x.want...)}, x.valid)
	}
}

// The Id of a node may be less than those of its ancestors.
func TestValidOfLaterAncestors(t *testing.T) {
	l := []api.Entry{entry(0, 0, id(1, 1), frame(0, 12), id(3, 1), id(2, 1)), entry(0, 1, id(2, 1), untyped(0, 12), id(3, 1)), entry(0, 2, id(3, 1), untyped(0, 13))}
	checkValid(t, l, true)
	l[1].Node.Path = nil
	checkValid(t, l, false)
	checkValid(t, l[:2], false)
	checkValid(t, l[1:], true)
}

// Forests of the greatest depth and size.
func TestValidOfGreatForests(t *testing.T) {
	var chain, full []api.Entry
	var path []api.Id
	for i := range 9 {
		chain = append(chain, entry(0, i, id(0, i+1), untyped(0, 20-i), path...))
		path = append(slices.Clone(path), id(0, i+1))
	}
	checkValid(t, chain, true)
	checkValid(t, append(slices.Clone(chain), entry(0, 9, id(0, 10), untyped(0, 6), path...)), false)
	for i := range chain {
		for k := range i {
			// Nothing depends on the youngest ancestor of the youngest node.
			l := copied(chain)
			l[i].Node.Path[k] = id(5, 5)
			checkValid(t, l, i == 8 && k == 7)
		}
	}
	for core := range 32 {
		for slot := range 64 {
			full = append(full, entry(core, slot, id(core, slot+1), with(slot%8, frame(core<<20, 20))))
		}
	}
	checkValid(t, full, true)
	checkValid(t, append(slices.Clone(full), entry(31, 63, id(31, 65), frame(1<<39, 12))), false)
	for _, i := range []int{0, 1, 1000, 2047} {
		l := slices.Clone(full)
		l[i].Node.Cap = frame(33<<20, 20)
		checkValid(t, l, true)
		l[i].Node.Cap = frame((i/64^1)<<20, 19)
		checkValid(t, l, false)
	}
	checkValid(t, make([]api.Entry, 1<<20), false)
	checkValid(t, slices.Repeat(full, 1<<8), false)
}

func TestValidAgainstReference(t *testing.T) {
	r := rand.New(rand.NewSource(1))
	valid, total, entries := 0, 60000, 0
	for range total {
		l := randomForest(r)
		entries += len(l)
		checkValid(t, l, true)
		if !referenceValid(l) {
			t.Fatalf("the generator made %+v", l)
		}
		for k := r.Intn(3); k >= 0 && len(l) > 0; k-- {
			l = spoil(r, l)
		}
		want := referenceValid(l)
		if want {
			valid++
		}
		checkValid(t, l, want)
	}
	if valid < total/10 || valid > total/2 || entries < 5*total {
		t.Error(valid, "valid ones,", entries, "entries")
	}
}

// Lists of a few entries whose fields are chosen from a few numbers.
func TestValidOfFewNumbers(t *testing.T) {
	r := rand.New(rand.NewSource(2))
	caps := []api.Cap{untyped(0, 13), untyped(0, 12), frame(0, 12), with(1, frame(0, 12)), frame(4096, 12), untyped(4096, 12)}
	valid := 0
	for range 300000 {
		var l []api.Entry
		for i := range 2 + r.Intn(3) {
			e := entry(r.Intn(4), r.Intn(4), id(0, i+1+r.Intn(2)), pick(r, caps))
			for range r.Intn(3) {
				e.Node.Path = append(e.Node.Path, id(0, 1+r.Intn(6)))
			}
			l = append(l, e)
		}
		want := referenceValid(l)
		if want {
			valid++
		}
		checkValid(t, l, want)
	}
	if valid < 15000 || valid > 200000 {
		t.Error(valid, "valid ones")
	}
}
