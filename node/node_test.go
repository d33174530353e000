package node_test

import (
	"math"
	"math/rand"
	"slices"
	"testing"

	"multikernel/api"
	"multikernel/node"
)

// P12.1

func TestValidId(t *testing.T) {
	for _, id := range goodIds() {
		if !node.ValidId(id) {
			t.Errorf("%v is not valid", id)
		}
	}
	for _, id := range oddIds() {
		if node.ValidId(id) {
			t.Errorf("%v is valid", id)
		}
	}
	for core := -2; core <= 40; core++ {
		for _, op := range []int{-1, 0, 1, 1000, 1 << 30, 1<<30 + 1} {
			for part := -2; part <= 16; part++ {
				if got := node.ValidId(id(core, op, part)); got != referenceValidId(id(core, op, part)) {
					t.Errorf("ValidId({%d %d %d}) = %v", core, op, part, got)
				}
			}
		}
	}
}

// All pairs of an ascending list. Differences of the extreme numbers do not fit into an int.
func TestLess(t *testing.T) {
	numbers := []int{math.MinInt, math.MinInt + 1, -1, 0, 1, 7, 8, 1 << 30, 1 << 32, math.MaxInt - 1, math.MaxInt}
	var ascending []api.Id
	for _, core := range numbers {
		for _, op := range numbers {
			for _, part := range numbers {
				ascending = append(ascending, id(core, op, part))
			}
		}
	}
	for i, a := range ascending {
		for k, b := range ascending {
			if node.Less(a, b) != (i < k) {
				t.Errorf("Less(%v, %v) is not %v", a, b, i < k)
			}
		}
	}
}

func TestLessOfIds(t *testing.T) {
	for _, c := range []struct {
		a, b api.Id
		want bool
	}{
		{id(0, 9, 9), id(1, 0, 0), true},
		{id(0, 1, 9), id(0, 2, 0), true},
		{id(0, 1, 1), id(0, 1, 2), true},
		{id(1, 1, 1), id(1, 1, 1), false},
		{id(1, 0, 0), id(0, 9, 9), false},
		{id(0, 2, 0), id(0, 1, 9), false},
		{id(0, 1, 2), id(0, 1, 1), false},
		{id(2, 1, 3), id(2, 3, 1), true},
		{id(3, 2, 1), id(1, 2, 3), false},
		{api.Id{}, api.Id{}, false},
	} {
		if got := node.Less(c.a, c.b); got != c.want {
			t.Errorf("Less(%v, %v) = %v", c.a, c.b, got)
		}
	}
}

func TestValid(t *testing.T) {
	for _, n := range goodNodes() {
		if !node.Valid(n) {
			t.Errorf("%+v is not valid", n)
		}
	}
	for _, n := range oddNodes() {
		if node.Valid(n) {
			t.Errorf("%+v is valid", n)
		}
	}
}

// Ids that agree in two fields are distinct.
func TestValidOfSimilarIds(t *testing.T) {
	n := api.Node{Id: id(1, 2, 3), Path: []api.Id{id(0, 2, 3), id(1, 1, 3), id(1, 2, 2), id(2, 2, 3), id(1, 3, 3), id(1, 2, 4), id(3, 2, 1), id(2, 1, 3)}, Cap: frame(0)}
	if !node.Valid(n) {
		t.Errorf("%+v is not valid", n)
	}
}

func TestValidAgainstReference(t *testing.T) {
	r := rand.New(rand.NewSource(1))
	valid := 0
	for range 100000 {
		n := randomNode(r)
		if !node.Valid(n) {
			t.Errorf("%+v is not valid", n)
		}
		n = spoil(r, n)
		if got := node.Valid(n); got != referenceValid(n) {
			t.Errorf("Valid(%+v) = %v", n, got)
		} else if got {
			valid++
		}
	}
	if valid < 20000 || valid > 80000 {
		t.Error(valid, "valid ones")
	}
}

func checkEqual(t *testing.T, a, b api.Node, want bool) {
	t.Helper()
	if node.Equal(a, b) != want || node.Equal(b, a) != want {
		t.Errorf("Equal of %+v and %+v is not %v", a, b, want)
	}
}

func TestEqual(t *testing.T) {
	none, empty := chain(0), chain(0)
	none.Path, empty.Path = nil, []api.Id{}
	checkEqual(t, none, empty, true)
	checkEqual(t, api.Node{}, api.Node{Path: []api.Id{}}, true)
	for _, n := range append(goodNodes()[:81], oddNodes()[:40]...) {
		checkEqual(t, n, n, true)
		checkEqual(t, n, copied(n), true)
		longer := copied(n)
		longer.Path = append(longer.Path, api.Id{})
		checkEqual(t, n, longer, false)
		for _, own := range differentIds(n.Id) {
			other := copied(n)
			other.Id = own
			checkEqual(t, n, other, false)
		}
		for _, c := range differentCaps(n.Cap) {
			other := copied(n)
			other.Cap = c
			checkEqual(t, n, other, false)
		}
		for i := range n.Path {
			shorter := copied(n)
			shorter.Path = slices.Delete(shorter.Path, i, i+1)
			checkEqual(t, n, shorter, false)
			for _, p := range differentIds(n.Path[i]) {
				other := copied(n)
				other.Path[i] = p
				checkEqual(t, n, other, false)
			}
		}
	}
	turned := chain(5)
	slices.Reverse(turned.Path)
	checkEqual(t, chain(5), turned, false)
}

// differentIds returns Ids that differ from an Id in one field.
func differentIds(id api.Id) []api.Id {
	core, op, part := id, id, id
	core.Core += 1 << 32
	op.Op--
	part.Part++
	return []api.Id{core, op, part}
}

// differentCaps returns capabilities that differ from c in one field.
func differentCaps(c api.Cap) []api.Cap {
	kind, base, bits, rights, width, level, device := c, c, c, c, c, c, c
	kind.Kind++
	base.Base += 1 << 40
	bits.Bits--
	rights.Rights ^= 2
	width.Width++
	level.Level++
	device.Device = !device.Device
	return []api.Cap{kind, base, bits, rights, width, level, device}
}

// P12.2

func TestBelow(t *testing.T) {
	for n := range 9 {
		made := chain(n)
		for _, p := range made.Path {
			if !node.Below(made, p) {
				t.Errorf("%+v is not below %v", made, p)
			}
			for _, other := range differentIds(p) {
				if node.Below(made, other) {
					t.Errorf("%+v is below %v", made, other)
				}
			}
		}
		for _, other := range []api.Id{made.Id, {}, id(30, 30, 0)} {
			if node.Below(made, other) {
				t.Errorf("%+v is below %v", made, other)
			}
		}
	}
}

// All that counts is the path, also that of a node that is not valid.
func TestBelowOfOddNodes(t *testing.T) {
	odd := api.Node{Id: id(1, 1, 1), Path: []api.Id{{}, id(1, 1, 1), id(-1, 0, 99), {}}}
	for _, p := range []api.Id{{}, odd.Id, id(-1, 0, 99)} {
		if !node.Below(odd, p) {
			t.Errorf("not below %v", p)
		}
	}
	if node.Below(odd, id(-1, 0, 9)) || node.Below(api.Node{}, api.Id{}) {
		t.Error("below an Id that is not in the path")
	}
	long := chain(1000)
	long.Path[999] = id(31, 5, 5)
	if !node.Below(long, id(31, 5, 5)) || node.Below(long, id(31, 5, 6)) {
		t.Error("a path of 1000 Ids")
	}
}

func TestParent(t *testing.T) {
	n := chain(5)
	p := n.Path
	checkParent(t, n, p, p[4], true)
	checkParent(t, n, p[:4], p[3], true)
	checkParent(t, n, []api.Id{p[4], p[3], p[2], p[1], p[0]}, p[4], true)
	checkParent(t, n, []api.Id{p[2], p[0], p[2], p[1]}, p[2], true)
	checkParent(t, n, []api.Id{p[0], n.Id, {}, id(30, 30, 0)}, p[0], true)
	checkParent(t, n, []api.Id{n.Id, {}, id(30, 30, 0)}, api.Id{}, false)
	checkParent(t, n, nil, api.Id{}, false)
	checkParent(t, n, []api.Id{}, api.Id{}, false)
	checkParent(t, chain(0), append(goodIds(), n.Id, api.Id{}), api.Id{}, false)
	for i := range p {
		checkParent(t, n, p[i:i+1], p[i], true)
		checkParent(t, n, differentIds(p[i]), api.Id{}, false)
		checkParent(t, n, append(differentIds(p[4]), p[i]), p[i], true)
	}
}

func TestParentOfOddNodes(t *testing.T) {
	odd := api.Node{Id: id(1, 1, 1), Path: []api.Id{id(0, 1, 0), {}, id(1, 1, 1), id(0, 1, 0), id(-1, 0, 99)}}
	checkParent(t, odd, []api.Id{{}}, api.Id{}, true)
	checkParent(t, odd, []api.Id{{}, id(0, 1, 0)}, id(0, 1, 0), true)
	checkParent(t, odd, []api.Id{{}, odd.Id}, odd.Id, true)
	checkParent(t, odd, []api.Id{id(0, 1, 0), id(-1, 0, 99)}, id(-1, 0, 99), true)
	checkParent(t, api.Node{}, []api.Id{{}}, api.Id{}, false)
	long := chain(1000)
	long.Path[0] = id(31, 5, 5)
	checkParent(t, long, []api.Id{id(31, 5, 5)}, id(31, 5, 5), true)
}

// Every set of live ancestors of a node.
func TestParentOfAllSets(t *testing.T) {
	n := chain(8)
	for set := range 1 << 8 {
		live := []api.Id{n.Id}
		for i := 7; i >= 0; i-- {
			if set>>i&1 == 1 {
				live = append(live, n.Path[i])
			}
		}
		want, ok := referenceParent(n, live)
		checkParent(t, n, live, want, ok)
		slices.Reverse(live)
		checkParent(t, n, live, want, ok)
	}
}

// P12.3

func TestChild(t *testing.T) {
	want := api.Node{Id: id(7, 70, 2), Path: []api.Id{id(3, 300, 1)}, Cap: frame(8192)}
	checkChild(t, chain(0), id(7, 70, 2), frame(8192), want, api.OK)
	for n := range 8 {
		src := chain(n)
		for _, c := range goodCaps() {
			want := api.Node{Id: id(7, 70, 2), Cap: c}
			want.Path = append(append(want.Path, src.Path...), src.Id)
			checkChild(t, src, id(7, 70, 2), c, want, api.OK)
		}
		for _, own := range goodIds() {
			want := api.Node{Id: own, Path: append(slices.Clone(src.Path), src.Id), Cap: src.Cap}
			checkChild(t, src, own, src.Cap, want, api.OK)
		}
	}
}

// A family of nodes: each is the child of the one before it, until the path is full.
func TestChildOfChild(t *testing.T) {
	n := api.Node{Id: id(0, 1, 0), Cap: frame(0)}
	for depth := 1; depth <= 8; depth++ {
		next, err := node.Child(n, id(depth, 1, 0), frame(0))
		if err != api.OK || !node.Valid(next) || len(next.Path) != depth || next.Path[depth-1] != n.Id || !slices.Equal(next.Path[:depth-1], n.Path) {
			t.Fatalf("child of %+v: %+v, error %d", n, next, err)
		}
		n = next
	}
	checkChild(t, n, id(9, 1, 0), frame(0), api.Node{}, api.ErrDepth)
}

func TestChildErrors(t *testing.T) {
	fresh := id(7, 70, 2)
	for n := range 10 {
		src := chain(n)
		if n == 8 {
			checkChild(t, src, fresh, frame(0), api.Node{}, api.ErrDepth)
		}
		for _, odd := range oddIds() {
			checkChild(t, src, odd, frame(0), api.Node{}, api.ErrInvalid)
		}
		for _, c := range oddCaps() {
			checkChild(t, src, fresh, c, api.Node{}, api.ErrInvalid)
		}
		for _, p := range append(src.Path, src.Id) {
			checkChild(t, src, p, frame(0), api.Node{}, api.ErrInvalid)
		}
	}
	for _, odd := range oddNodes() {
		checkChild(t, odd, fresh, frame(0), api.Node{}, api.ErrInvalid)
	}
}

func TestChildAgainstReference(t *testing.T) {
	r := rand.New(rand.NewSource(2))
	seen := map[api.Errno]int{}
	for range 50000 {
		src := randomNode(r)
		if r.Intn(8) == 0 {
			src = spoil(r, src)
		}
		own, c := randomId(r), pick(r, goodCaps())
		if r.Intn(8) == 0 {
			own, c = pick(r, append(oddIds(), own)), pick(r, append(oddCaps(), c))
		}
		want, err := referenceChild(src, own, c)
		checkChild(t, src, own, c, want, err)
		seen[err]++
	}
	for _, err := range []api.Errno{api.OK, api.ErrInvalid, api.ErrDepth} {
		if seen[err] < 1000 {
			t.Error("error", err, "occurs", seen[err], "times")
		}
	}
}
