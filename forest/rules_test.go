package forest_test

import (
	"math"
	"math/rand"
	"slices"
	"sync"
	"testing"

	"multikernel/api"
	"multikernel/forest"
	"multikernel/memrange"
)

func anyNumber(r *rand.Rand) int {
	if r.Intn(3) > 0 {
		return r.Intn(4)
	}
	return pick(r, []int{math.MinInt, math.MinInt + 1, -1 << 32, -1, 6, 7, 12, 31, 32, 63, 64, 1 << 30, 1<<30 + 1, 1 << 32, 1 << 62, math.MaxInt - 1, math.MaxInt})
}

func anyId(r *rand.Rand) api.Id {
	if r.Intn(8) > 0 {
		return id(r.Intn(2), r.Intn(5))
	}
	return api.Id{Core: anyNumber(r), Op: anyNumber(r), Part: anyNumber(r)}
}

func anyCap(r *rand.Rand) api.Cap {
	if r.Intn(4) > 0 {
		return randomCap(r)
	}
	return api.Cap{Kind: anyNumber(r), Base: anyNumber(r), Bits: anyNumber(r), Rights: anyNumber(r), Width: anyNumber(r), Level: anyNumber(r), Device: r.Intn(2) == 0}
}

func anyEntry(r *rand.Rand) api.Entry {
	e := entry(anyNumber(r), anyNumber(r), anyId(r), anyCap(r))
	for range r.Intn(6) {
		e.Node.Path = append(e.Node.Path, anyId(r))
	}
	return e
}

// anyList returns a list of any entries, or one that is a valid forest, or nearly so, or a valid one in another order.
func anyList(r *rand.Rand) []api.Entry {
	l := randomForest(r)
	switch r.Intn(4) {
	case 0:
		l = nil
		for range r.Intn(10) {
			l = append(l, anyEntry(r))
		}
	case 1:
		if len(l) > 0 {
			l = spoil(r, l)
		}
	case 2:
		r.Shuffle(len(l), func(i, k int) { l[i], l[k] = l[k], l[i] })
	}
	return l
}

// R1 and R3: all functions return, whatever the arguments are.
func TestAnyArguments(t *testing.T) {
	r := rand.New(rand.NewSource(9))
	for range 60000 {
		l, e := anyList(r), anyEntry(r)
		own := pick(r, append(idsOf(l), append(slices.Clone(e.Node.Path), e.Node.Id)...))
		place := pick(r, append(slices.Clone(l), e))
		caps := []api.Cap{anyCap(r), anyCap(r)}[:r.Intn(3)]
		checkAll(t, l, e, own, place, caps)
		all := api.Range{Base: anyNumber(r) * 64, Bits: anyNumber(r)}
		checkFree(t, l, all, memrange.Free(all, memoryOf(l))...)
	}
}

// checkAll compares the functions with the reference.
func checkAll(t *testing.T, l []api.Entry, e api.Entry, own api.Id, place api.Entry, caps []api.Cap) {
	t.Helper()
	checkValid(t, l, referenceValid(l))
	i, ok := referenceFind(l, own)
	checkFind(t, l, own, i, ok)
	i, ok = referenceAt(l, place.Core, place.Slot)
	checkAt(t, l, place.Core, place.Slot, i, ok)
	made, ok := referenceInsert(l, e)
	checkInsert(t, l, e, made, ok)
	made, ok = referenceRemove(l, own)
	checkRemove(t, l, own, made, ok)
	checkBelow(t, l, own)
	checkEvict(t, l, place.Core, referenceEvict(l, place.Core))
	parent, ok := referenceParent(l, own)
	checkParent(t, l, own, parent, ok)
	checkConflict(t, l, own, caps, referenceConflict(l, own, caps))
}

// spread returns the entries of a list such that they, and their paths, are parts of longer lists, which it returns too.
func spread(l []api.Entry) (list, long []api.Entry, ids []api.Id) {
	for _, e := range l {
		ids = append(ids, e.Node.Path...)
	}
	ids = append(ids, id(8, 8), id(8, 9))
	at := 0
	for _, e := range l {
		n := len(e.Node.Path)
		e.Node.Path = ids[at : at+n]
		at += n
		long = append(long, e)
	}
	long = append(long, entry(7, 7, id(7, 7), api.Cap{}), entry(7, 8, id(7, 8), api.Cap{}))
	return long[:len(l)], long, ids
}

// R4: a call writes nothing into an argument, not even beyond the end of a list.
func TestArgumentsAreKept(t *testing.T) {
	r := rand.New(rand.NewSource(10))
	for range 5000 {
		l, long, ids := spread(anyList(r))
		writtenLong, writtenIds := copied(long), slices.Clone(ids)
		e, own, core := anyEntry(r), anyId(r), r.Intn(4)
		path := slices.Clone(e.Node.Path)
		caps := []api.Cap{anyCap(r), anyCap(r), anyCap(r)}
		writtenCaps := slices.Clone(caps)
		for _, made := range listsOf(l, e, own, core) {
			overwrite(made)
		}
		forest.Valid(l)
		forest.Find(l, own)
		forest.At(l, core, core)
		forest.Parent(l, own)
		forest.Conflict(l, own, caps[:2])
		ranges, below := forest.Free(l, api.Range{Bits: 14}), forest.Descendants(l, own)
		clear(ranges[:cap(ranges)])
		clear(below[:cap(below)])
		if !sameEntries(long, writtenLong) || !slices.Equal(ids, writtenIds) || !slices.Equal(e.Node.Path, path) || !slices.Equal(caps, writtenCaps) {
			t.Errorf("%+v: an argument is changed", writtenLong)
		}
	}
}

// listsOf returns what the functions make of l.
func listsOf(l []api.Entry, e api.Entry, own api.Id, core int) [][]api.Entry {
	inserted, _ := forest.Insert(l, e)
	removed, _ := forest.Remove(l, own)
	return [][]api.Entry{inserted, removed, forest.Prune(l, own), forest.Evict(l, core)}
}

// overwrite clears all memory that a list has, its paths first.
func overwrite(l []api.Entry) {
	for _, e := range l {
		clear(e.Node.Path[:cap(e.Node.Path)])
	}
	clear(l[:cap(l)])
}

// R4: a result shares no memory with an argument, and no path of it shares memory with another one.
func TestResultsAreNewMemory(t *testing.T) {
	r := rand.New(rand.NewSource(11))
	for range 5000 {
		l, long, ids := spread(anyList(r))
		e, own, core := anyEntry(r), anyId(r), r.Intn(4)
		lists := listsOf(l, e, own, core)
		var written [][]api.Entry
		for _, made := range lists {
			written = append(written, copied(made))
		}
		clear(ids)
		clear(long)
		clear(e.Node.Path)
		for i, made := range lists {
			if !sameEntries(made, written[i]) {
				t.Errorf("list %d is changed: %+v, was %+v", i, made, written[i])
			}
			for k, x := range made {
				clear(x.Node.Path[:cap(x.Node.Path)])
				if !sameEntries(made[k+1:], written[i][k+1:]) {
					t.Errorf("list %d: a path of %+v is changed with another one", i, written[i])
				}
			}
		}
	}
}

// R5: calls at the same time are not visible.
func TestCallsAtTheSameTime(t *testing.T) {
	r := rand.New(rand.NewSource(12))
	for range 300 {
		l, e := anyList(r), anyEntry(r)
		own := pick(r, append(idsOf(l), e.Node.Id))
		caps := []api.Cap{randomCap(r), randomCap(r)}
		var group sync.WaitGroup
		for range 4 {
			group.Go(func() {
				for range 3 {
					checkAll(t, l, e, own, e, caps)
				}
			})
		}
		group.Wait()
	}
}
