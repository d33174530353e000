package forest_test

import (
	"math"
	"math/rand"
	"slices"
	"testing"

	"multikernel/api"
	"multikernel/forest"
)

func checkFind(t *testing.T, l []api.Entry, own api.Id, want int, wanted bool) {
	t.Helper()
	if got, ok := forest.Find(l, own); got != want || ok != wanted {
		t.Errorf("Find(%+v, %v) = %d, %v", l, own, got, ok)
	}
}

func checkAt(t *testing.T, l []api.Entry, core, slot, want int, wanted bool) {
	t.Helper()
	if got, ok := forest.At(l, core, slot); got != want || ok != wanted {
		t.Errorf("At(%+v, %d, %d) = %d, %v", l, core, slot, got, ok)
	}
}

func checkEvict(t *testing.T, l []api.Entry, core int, want []api.Entry) {
	t.Helper()
	if got := forest.Evict(l, core); !sameEntries(got, want) {
		t.Errorf("Evict(%+v, %d) = %+v", l, core, got)
	}
}

func checkFree(t *testing.T, l []api.Entry, r api.Range, want ...api.Range) {
	t.Helper()
	if got := forest.Free(l, r); !slices.Equal(got, want) {
		t.Errorf("Free(%+v, %+v) = %+v, want %+v", l, r, got, want)
	}
}

// differentIds returns Ids that differ from an Id in one field.
func differentIds(own api.Id) []api.Id {
	core, op, part := own, own, own
	core.Core += 1 << 32
	op.Op--
	part.Part++
	return []api.Id{core, op, part}
}

// P13.1: Find and At

func TestFind(t *testing.T) {
	l := sample()
	twice := append(sample(), sample()...)
	for i, e := range l {
		checkFind(t, l, e.Node.Id, i, true)
		checkFind(t, twice, e.Node.Id, i, true)
		checkFind(t, l[i+1:], e.Node.Id, 0, false)
		for _, other := range differentIds(e.Node.Id) {
			checkFind(t, l[i:i+1], other, 0, false)
		}
		checkAt(t, l, e.Core, e.Slot, i, true)
		checkAt(t, twice, e.Core, e.Slot, i, true)
		checkAt(t, l[i+1:], e.Core, e.Slot, 0, false)
		checkAt(t, l, e.Core+1<<32, e.Slot, 0, false)
		checkAt(t, l, e.Core, e.Slot+1<<32, 0, false)
		checkAt(t, l[i:i+1], e.Core, e.Slot-1, 0, false)
		checkAt(t, l[i:i+1], e.Core+1, e.Slot, 0, false)
	}
	checkFind(t, nil, api.Id{}, 0, false)
	checkFind(t, l, api.Id{}, 0, false)
	checkAt(t, nil, 0, 0, 0, false)
	checkAt(t, l, 63, 0, 0, false)
	checkAt(t, l, -1, -1, 0, false)
}

// Find does not look at the paths, nor at the order or validity of the entries.
func TestFindInAnyList(t *testing.T) {
	l := []api.Entry{entry(-1, 1<<40, id(9, 9), api.Cap{}, id(1, 1), api.Id{}), {}, entry(math.MinInt, math.MaxInt, id(-1, -1), api.Cap{}), entry(0, 0, id(9, 9), api.Cap{})}
	checkFind(t, l, id(1, 1), 0, false)
	checkFind(t, l, id(9, 9), 0, true)
	checkFind(t, l, api.Id{}, 1, true)
	checkFind(t, l, id(-1, -1), 2, true)
	checkAt(t, l, -1, 1<<40, 0, true)
	checkAt(t, l, 0, 0, 1, true)
	checkAt(t, l, math.MinInt, math.MaxInt, 2, true)
}

// P13.2

func TestInsert(t *testing.T) {
	for i, e := range sample() {
		checkInsert(t, slices.Delete(sample(), i, i+1), e, sample(), true)
		checkInsert(t, sample(), e, nil, false)
		moved := e
		moved.Core = 20
		checkInsert(t, sample(), moved, nil, false)
		renamed := e
		renamed.Node.Id = id(20, 20)
		checkInsert(t, sample(), renamed, nil, false)
		renamed.Slot += 16
		checkInsert(t, sample(), renamed, slices.Insert(sample(), 12, renamed), true)
	}
	first, last := entry(20, 0, id(-1, 0), api.Cap{}), entry(20, 0, id(99, 0), api.Cap{})
	checkInsert(t, sample(), first, slices.Insert(sample(), 0, first), true)
	checkInsert(t, sample(), last, append(sample(), last), true)
	checkInsert(t, nil, last, []api.Entry{last}, true)
	checkInsert(t, []api.Entry{}, api.Entry{}, []api.Entry{{}}, true)
	checkInsert(t, []api.Entry{{}}, api.Entry{}, nil, false)
}

// A slot number that is taken at one core is not taken at another one, and the order is that of Core, Op and Part.
func TestInsertBetween(t *testing.T) {
	l := []api.Entry{entry(1, 2, api.Id{Core: 1, Op: 2, Part: 3}, api.Cap{}), entry(2, 1, api.Id{Core: 1, Op: 2, Part: 5}, api.Cap{}), entry(2, 2, api.Id{Core: 3, Op: 1, Part: 0}, api.Cap{})}
	for i, ids := range [][]api.Id{
		{{Core: 0, Op: 9, Part: 9}, {Core: 1, Op: 1, Part: 9}, {Core: 1, Op: 2, Part: 2}},
		{{Core: 1, Op: 2, Part: 4}},
		{{Core: 1, Op: 2, Part: 6}, {Core: 1, Op: 3, Part: 0}, {Core: 2, Op: 9, Part: 9}, {Core: 3, Op: 0, Part: 9}},
		{{Core: 3, Op: 1, Part: 1}, {Core: 3, Op: 2, Part: 0}, {Core: 4, Op: 0, Part: 0}},
	} {
		for _, own := range ids {
			e := entry(1, 1, own, api.Cap{}, id(1, 1))
			checkInsert(t, l, e, slices.Insert(slices.Clone(l), i, e), true)
		}
	}
}

// In a list without order, what counts is the first entry with a greater Id.
func TestInsertInAnyOrder(t *testing.T) {
	l := []api.Entry{entry(0, 0, id(0, 5), api.Cap{}), entry(0, 1, id(0, 2), api.Cap{}), entry(0, 2, id(0, 8), api.Cap{}), entry(0, 3, id(0, 1), api.Cap{})}
	for op, at := range map[int]int{0: 0, 3: 0, 4: 0, 6: 2, 7: 2, 9: 4} {
		e := entry(0, 4, id(0, op), api.Cap{})
		checkInsert(t, l, e, slices.Insert(slices.Clone(l), at, e), true)
	}
	for _, op := range []int{1, 2, 5, 8} {
		checkInsert(t, l, entry(0, 4, id(0, op), api.Cap{}), nil, false)
	}
	for slot := range 4 {
		checkInsert(t, l, entry(0, slot, id(0, 4), api.Cap{}), nil, false)
	}
}

func TestRemove(t *testing.T) {
	for i, e := range sample() {
		checkRemove(t, sample(), e.Node.Id, slices.Delete(sample(), i, i+1), true)
		checkRemove(t, append(sample(), sample()...), e.Node.Id, append(slices.Delete(sample(), i, i+1), sample()...), true)
		checkRemove(t, sample()[i:i+1], e.Node.Id, nil, true)
		for _, other := range differentIds(e.Node.Id) {
			checkRemove(t, sample()[i:i+1], other, nil, false)
		}
	}
	checkRemove(t, sample(), api.Id{}, nil, false)
	checkRemove(t, sample(), id(9, 9), nil, false)
	checkRemove(t, nil, api.Id{}, nil, false)
	checkRemove(t, []api.Entry{{}, {}, {}}, api.Id{}, []api.Entry{{}, {}}, true)
	// Only the node itself is removed, neither its descendants nor what lies in the same slot.
	l := []api.Entry{entry(0, 0, id(0, 2), api.Cap{}, id(0, 1)), entry(0, 0, id(0, 1), api.Cap{}), entry(0, 0, id(0, 3), api.Cap{}, id(0, 1))}
	checkRemove(t, l, id(0, 1), []api.Entry{l[0], l[2]}, true)
}

// P13.3

func TestDescendants(t *testing.T) {
	for i, below := range [][]int{{1, 2, 3, 4, 5, 6, 7, 8}, {2, 3, 4, 5, 6}, {3, 4}, {4}, 4: nil, 7: {8}, 9: {10}, 12: nil} {
		l := sample()
		var ids []api.Id
		for _, k := range below {
			ids = append(ids, l[k].Node.Id)
		}
		if got := forest.Descendants(l, l[i].Node.Id); !slices.Equal(got, ids) {
			t.Errorf("Descendants of entry %d = %v, want %v", i, got, ids)
		}
		rest := slices.DeleteFunc(sample(), func(e api.Entry) bool { return slices.Contains(ids, e.Node.Id) })
		if got := forest.Prune(l, l[i].Node.Id); !sameEntries(got, rest) {
			t.Errorf("Prune below entry %d = %+v", i, got)
		}
		checkBelow(t, l[1:], l[i].Node.Id)
		checkBelow(t, append(l, l...), l[i].Node.Id)
	}
}

// The node itself need not be there, and it may be in its own path. A path may be long, or have an Id twice.
func TestDescendantsInAnyList(t *testing.T) {
	a, b, c := id(0, 3), id(0, 2), id(0, 1)
	l := []api.Entry{entry(0, 0, a, api.Cap{}, a), entry(0, 0, b, api.Cap{}, a, a), entry(0, 0, c, api.Cap{}, b, c), entry(0, 0, a, api.Cap{}), entry(0, 0, a, api.Cap{}, append(make([]api.Id, 1000), a)...)}
	for own, below := range map[api.Id][]api.Id{a: {a, b, a}, b: {c}, c: {c}, {}: {a}, id(9, 9): nil} {
		if got := forest.Descendants(l, own); !slices.Equal(got, below) {
			t.Errorf("Descendants of %v = %v", own, got)
		}
		checkBelow(t, l, own)
		for _, other := range differentIds(own) {
			checkBelow(t, l, other)
		}
	}
	checkBelow(t, nil, a)
	checkBelow(t, []api.Entry{{}}, api.Id{})
}

func TestEvict(t *testing.T) {
	l := sample()
	checkEvict(t, l, 0, l[2:])
	checkEvict(t, l, 1, slices.Delete(sample(), 3, 5))
	checkEvict(t, l, 31, append(slices.Delete(sample(), 9, 10)[:2], slices.Delete(sample(), 9, 10)[3:]...))
	for _, none := range []int{-1, 7, 30, 32, 63, 1 << 32, 1<<32 + 1, math.MaxInt, math.MinInt} {
		checkEvict(t, l, none, l)
	}
	checkEvict(t, nil, 0, nil)
	checkEvict(t, []api.Entry{{}, {}}, 0, nil)
	odd := []api.Entry{entry(-5, 1, id(1, 1), api.Cap{}), entry(1, -5, id(-5, 1), api.Cap{}), entry(-5, 2, api.Id{}, api.Cap{})}
	checkEvict(t, odd, -5, odd[1:2])
}

func TestParent(t *testing.T) {
	l := sample()
	for i, e := range l {
		path := e.Node.Path
		if len(path) == 0 {
			checkParent(t, l, e.Node.Id, api.Id{}, false)
			continue
		}
		checkParent(t, l, e.Node.Id, path[len(path)-1], true)
		checkParent(t, l[i:], e.Node.Id, api.Id{}, false)
		for live := range path {
			var few []api.Entry
			for _, other := range l {
				if at := slices.Index(path, other.Node.Id); at <= live {
					few = append(few, other)
				}
			}
			checkParent(t, few, e.Node.Id, path[live], true)
			slices.Reverse(few)
			checkParent(t, few, e.Node.Id, path[live], true)
		}
	}
	checkParent(t, l, id(9, 9), api.Id{}, false)
	checkParent(t, l, api.Id{}, api.Id{}, false)
	checkParent(t, nil, api.Id{}, api.Id{}, false)
}

// The path of the first entry with the Id counts, whatever is in it. The zero Id is an Id like others.
func TestParentInAnyList(t *testing.T) {
	a, b, c := id(0, 3), id(0, 2), id(0, 1)
	l := []api.Entry{entry(0, 0, a, api.Cap{}, b, c, id(9, 9)), entry(0, 0, a, api.Cap{}, b), entry(0, 0, c, api.Cap{}, a, c), entry(0, 0, b, api.Cap{}, api.Id{}, a, api.Id{})}
	checkParent(t, l, a, c, true)
	checkParent(t, l[1:], a, b, true)
	checkParent(t, l, c, c, true)
	checkParent(t, l, b, a, true)
	checkParent(t, append(l, api.Entry{}), b, api.Id{}, true)
	checkParent(t, []api.Entry{entry(0, 0, api.Id{}, api.Cap{}, api.Id{})}, api.Id{}, api.Id{}, true)
	checkParent(t, []api.Entry{{}}, api.Id{}, api.Id{}, false)
}

// P13.4

func TestConflictWithoutSource(t *testing.T) {
	l := sample()
	for _, src := range []api.Id{{}, id(9, 9), id(0, 1<<30)} {
		checkConflict(t, l, src, nil, false)
		checkConflict(t, l, src, []api.Cap{untyped(0, 6)}, true)
		checkConflict(t, l, src, []api.Cap{untyped(49152, 14)}, true)
		checkConflict(t, l, src, []api.Cap{untyped(0, 20)}, true)
		checkConflict(t, l, src, []api.Cap{untyped(0, 40)}, true)
		checkConflict(t, l, src, []api.Cap{untyped(65536, 16), frame(1<<19, 19)}, false)
		checkConflict(t, l, src, []api.Cap{untyped(65536, 16), frame(1<<19, 19), untyped(1<<30, 6)}, true)
		checkConflict(t, l, src, []api.Cap{untyped(1<<39, 39)}, true)
		checkConflict(t, nil, src, []api.Cap{untyped(0, 40)}, false)
	}
}

// What is made of a source may lie in untyped memory that contains the source, but not in other untyped memory.
func TestConflictOfSources(t *testing.T) {
	root, part, page, again := id(0, 1), id(0, 2), id(0, 3), id(3, 1)
	for _, c := range []struct {
		src  api.Id
		caps []api.Cap
		want bool
	}{
		{root, []api.Cap{frame(16384, 14)}, false},
		{root, []api.Cap{frame(16384, 14), untyped(49152, 14)}, false},
		{root, []api.Cap{frame(16384, 14), frame(0, 12)}, true},
		{root, []api.Cap{untyped(32768, 6)}, true},
		{root, []api.Cap{untyped(32768, 15)}, true},
		{root, []api.Cap{untyped(32768+64, 6)}, false},
		{again, []api.Cap{frame(16384, 14)}, false},
		{again, []api.Cap{frame(0, 12)}, true},
		{part, []api.Cap{frame(0, 12)}, false},
		{part, []api.Cap{frame(0, 12), frame(4096, 12)}, true},
		{part, []api.Cap{frame(8192, 13)}, true},
		{part, []api.Cap{frame(0, 13)}, true},
		{part, []api.Cap{untyped(0, 14)}, true},
		{part, []api.Cap{frame(16384, 14)}, false},
		{page, []api.Cap{frame(4096, 12)}, true},
		{page, []api.Cap{frame(0, 12)}, false},
		{page, []api.Cap{frame(16384, 14)}, false},
		{id(31, 1), []api.Cap{frame(16384, 14)}, true},
		{id(31, 1), []api.Cap{frame(1<<39, 12), untyped(1<<39+4096, 12)}, false},
		{id(4, 1), []api.Cap{device(frame(1<<20+1<<14, 14))}, false},
		{id(4, 1), []api.Cap{frame(1<<20, 12)}, true},
		{id(5, 1<<30), []api.Cap{object(api.CapEndpoint, 1<<30, 6)}, true},
	} {
		checkConflict(t, sample(), c.src, c.caps, c.want)
	}
	// The source need not be untyped, and neither it nor the others need be related.
	l := []api.Entry{entry(0, 0, root, frame(0, 13)), entry(0, 1, part, untyped(0, 13)), entry(0, 2, page, untyped(0, 12)), entry(0, 3, again, untyped(0, 40))}
	checkConflict(t, l[1:2], part, []api.Cap{untyped(0, 40)}, false)
	checkConflict(t, l, root, []api.Cap{untyped(1<<39, 39)}, false)
	checkConflict(t, l, root, []api.Cap{frame(4096, 12)}, true)
	checkConflict(t, l[1:], root, []api.Cap{frame(4096, 12)}, true)
	checkConflict(t, l[1:], part, []api.Cap{frame(4096, 12)}, false)
	checkConflict(t, l[1:], part, []api.Cap{frame(0, 12)}, true)
	checkConflict(t, l[1:], page, []api.Cap{frame(0, 12)}, false)
	checkConflict(t, l[1:], again, []api.Cap{frame(0, 12)}, true)
	checkConflict(t, l[1:], again, []api.Cap{frame(16384, 12)}, false)
}

// Of two entries with the Id of the source, the first one counts.
func TestConflictOfEqualSources(t *testing.T) {
	l := []api.Entry{entry(0, 0, id(0, 1), untyped(0, 12)), entry(0, 1, id(0, 2), untyped(0, 13)), entry(0, 2, id(0, 1), untyped(0, 14))}
	checkConflict(t, l[:2], id(0, 1), []api.Cap{frame(0, 12)}, false)
	checkConflict(t, l, id(0, 1), []api.Cap{frame(0, 12)}, false)
	checkConflict(t, l[1:], id(0, 1), []api.Cap{frame(0, 12)}, true)
	checkConflict(t, l[1:], id(0, 1), []api.Cap{frame(8192, 13)}, false)
}

// Ranges that are not valid overlap nothing and contain nothing. Otherwise capabilities that are not valid count.
func TestConflictOfOddCaps(t *testing.T) {
	for _, odd := range oddCaps() {
		checkConflict(t, sample(), api.Id{}, []api.Cap{odd}, false)
		checkConflict(t, sample(), id(0, 1), []api.Cap{odd, odd}, false)
		checkConflict(t, sample(), id(0, 1), []api.Cap{odd, frame(0, 12)}, true)
		l := append(sample(), entry(9, 9, id(31, 9), odd))
		checkConflict(t, l, id(31, 9), []api.Cap{untyped(1<<41, 12)}, false)
		checkConflict(t, l, id(31, 9), []api.Cap{frame(16384, 12)}, true)
		checkConflict(t, l[13:], id(31, 9), []api.Cap{untyped(0, 40)}, false)
		checkConflict(t, l[13:], api.Id{}, []api.Cap{untyped(0, 40)}, false)
	}
	nothing := api.Cap{Kind: 99, Bits: 12, Rights: 99}
	checkConflict(t, []api.Entry{entry(0, 0, api.Id{}, nothing)}, id(1, 1), []api.Cap{frame(0, 12)}, true)
	checkConflict(t, []api.Entry{entry(0, 0, id(1, 1), untyped(0, 13))}, id(9, 9), []api.Cap{nothing}, true)
	checkConflict(t, []api.Entry{entry(0, 0, api.Id{}, untyped(0, 13))}, api.Id{}, []api.Cap{nothing}, false)
	checkConflict(t, []api.Entry{entry(0, 0, id(1, 1), with(99, untyped(0, 13)))}, id(1, 1), []api.Cap{nothing}, false)
}

// P13.5

func TestFree(t *testing.T) {
	l := []api.Entry{entry(0, 0, id(0, 2), frame(4096, 12)), entry(-1, 99, api.Id{}, object(api.CapEndpoint, 0, 6)), entry(0, 0, id(0, 2), frame(4096, 12))}
	checkFree(t, l, api.Range{Bits: 13}, api.Range{Base: 64, Bits: 6}, api.Range{Base: 128, Bits: 7}, api.Range{Base: 256, Bits: 8}, api.Range{Base: 512, Bits: 9}, api.Range{Base: 1024, Bits: 10}, api.Range{Base: 2048, Bits: 11})
	checkFree(t, l, api.Range{Base: 8192, Bits: 13}, api.Range{Base: 8192, Bits: 13})
	checkFree(t, l, api.Range{Base: 4096, Bits: 12})
	checkFree(t, l, api.Range{Base: 4096 + 64, Bits: 6})
	checkFree(t, nil, api.Range{Bits: 40}, api.Range{Bits: 40})
	checkFree(t, l, api.Range{Base: 1, Bits: 12})
	checkFree(t, nil, api.Range{})
	checkFree(t, []api.Entry{{}, entry(0, 0, id(0, 1), frame(2048, 12))}, api.Range{Bits: 12}, api.Range{Bits: 12})
	checkFree(t, sample(), api.Range{Bits: 40},
		api.Range{Base: 1 << 16, Bits: 16}, api.Range{Base: 1 << 17, Bits: 17}, api.Range{Base: 1 << 18, Bits: 18}, api.Range{Base: 1 << 19, Bits: 19},
		api.Range{Base: 1 << 21, Bits: 21}, api.Range{Base: 1 << 22, Bits: 22}, api.Range{Base: 1 << 23, Bits: 23}, api.Range{Base: 1 << 24, Bits: 24},
		api.Range{Base: 1 << 25, Bits: 25}, api.Range{Base: 1 << 26, Bits: 26}, api.Range{Base: 1 << 27, Bits: 27}, api.Range{Base: 1 << 28, Bits: 28}, api.Range{Base: 1 << 29, Bits: 29},
		api.Range{Base: 1<<30 + 1<<16, Bits: 16}, api.Range{Base: 1<<30 + 1<<17, Bits: 17}, api.Range{Base: 1<<30 + 1<<18, Bits: 18}, api.Range{Base: 1<<30 + 1<<19, Bits: 19},
		api.Range{Base: 1<<30 + 1<<20, Bits: 20}, api.Range{Base: 1<<30 + 1<<21, Bits: 21}, api.Range{Base: 1<<30 + 1<<22, Bits: 22}, api.Range{Base: 1<<30 + 1<<23, Bits: 23},
		api.Range{Base: 1<<30 + 1<<24, Bits: 24}, api.Range{Base: 1<<30 + 1<<25, Bits: 25}, api.Range{Base: 1<<30 + 1<<26, Bits: 26}, api.Range{Base: 1<<30 + 1<<27, Bits: 27},
		api.Range{Base: 1<<30 + 1<<28, Bits: 28}, api.Range{Base: 1<<30 + 1<<29, Bits: 29},
		api.Range{Base: 1 << 31, Bits: 31}, api.Range{Base: 1 << 32, Bits: 32}, api.Range{Base: 1 << 33, Bits: 33}, api.Range{Base: 1 << 34, Bits: 34},
		api.Range{Base: 1 << 35, Bits: 35}, api.Range{Base: 1 << 36, Bits: 36}, api.Range{Base: 1 << 37, Bits: 37}, api.Range{Base: 1 << 38, Bits: 38})
}

// Each 64 bytes of a range lie in a free range or in an entry, and not in both.
func TestFreeOfRandomForests(t *testing.T) {
	r := rand.New(rand.NewSource(3))
	for range 2000 {
		l := randomForest(r)
		used := map[int]bool{}
		for _, m := range memoryOf(l) {
			for b := m.Base; b < m.Base+1<<m.Bits; b += 64 {
				used[b] = true
			}
		}
		all := api.Range{Base: r.Intn(4) << 14, Bits: 14}
		for _, f := range forest.Free(l, all) {
			for b := f.Base; b < f.Base+1<<f.Bits; b += 64 {
				if used[b] {
					t.Errorf("Free(%+v, %+v) has %d", l, all, b)
				}
				used[b] = true
			}
		}
		for b := all.Base; b < all.Base+1<<all.Bits; b += 64 {
			if !used[b] {
				t.Errorf("Free(%+v, %+v) lacks %d", l, all, b)
			}
		}
	}
}
