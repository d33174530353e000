package cspace_test

import (
	"math"
	"math/rand"
	"slices"
	"sync"
	"testing"

	"multikernel/api"
	"multikernel/cspace"
)

func anyNumber(r *rand.Rand) int {
	if r.Intn(3) > 0 {
		return r.Intn(4)
	}
	return pick(r, []int{math.MinInt, math.MinInt + 1, -1 << 32, -1, 7, 8, 31, 32, 63, 64, 1 << 30, 1<<30 + 1, 1 << 32, 1 << 62, math.MaxInt - 1, math.MaxInt})
}

func anyId(r *rand.Rand) api.Id {
	switch r.Intn(8) {
	case 0:
		return api.Id{Core: anyNumber(r), Op: anyNumber(r), Part: anyNumber(r)}
	case 1:
		return api.Id{}
	}
	return api.Id{Core: r.Intn(2), Op: 1 + r.Intn(4), Part: r.Intn(2)}
}

// anyLock returns an Id that mostly can be a lock.
func anyLock(r *rand.Rand) api.Id {
	if r.Intn(8) == 0 {
		return anyId(r)
	}
	return pick(r, []api.Id{{}, id(0, 1), id(1, 1), remote})
}

// anyNode returns a node that mostly is valid.
func anyNode(r *rand.Rand) api.Node {
	n := made(anyId(r), frame(r.Intn(4)<<12))
	if r.Intn(8) == 0 {
		n.Cap = api.Cap{Kind: anyNumber(r), Base: anyNumber(r), Bits: anyNumber(r), Rights: anyNumber(r)}
	}
	for range r.Intn(4) {
		if own := anyId(r); r.Intn(8) == 0 || own != n.Id && own != (api.Id{}) && !slices.Contains(n.Path, own) {
			n.Path = append(n.Path, own)
		}
	}
	return n
}

func anySlot(r *rand.Rand) api.Slot {
	s := api.Slot{Op: r.Intn(3)}
	if r.Intn(3) > 0 {
		s.Node, s.Lock = anyNode(r), anyLock(r)
	}
	if r.Intn(16) == 0 {
		s.Op, s.Lock = anyNumber(r), anyId(r)
	}
	return s
}

// anyList returns a list of any slots, which often is valid.
func anyList(r *rand.Rand) []api.Slot {
	var l []api.Slot
	for range r.Intn(10) {
		s := anySlot(r)
		if _, again := referenceFind(l, s.Node.Id); !again || r.Intn(8) == 0 {
			l = append(l, s)
		}
	}
	return l
}

// arguments are those of all functions.
type arguments struct {
	l        []api.Slot
	slots    []int
	op, at   int
	n        api.Node
	ids      []api.Id
	own, by  api.Id
	core     int
	spareIds []api.Id   // what lies behind the paths and the Ids
	spare    []api.Slot // the list with what lies behind it
}

func anyArguments(r *rand.Rand) arguments {
	a := arguments{l: anyList(r), op: anyNumber(r), at: r.Intn(10), n: anyNode(r), own: anyId(r), by: anyLock(r), core: anyNumber(r)}
	for range r.Intn(4) {
		a.slots = append(a.slots, r.Intn(len(a.l)+1))
	}
	if r.Intn(8) == 0 {
		a.at = anyNumber(r)
		a.slots = append(a.slots, anyNumber(r))
	}
	for range r.Intn(4) {
		a.ids = append(a.ids, anyId(r))
	}
	return a
}

// checkAll compares the functions with the reference.
func checkAll(t *testing.T, a arguments) {
	t.Helper()
	checkValid(t, a.l, referenceValid(a.l))
	for _, s := range a.l {
		checkSlot(t, s, referenceEmpty(s), referenceBusy(s))
	}
	i, ok := referenceFind(a.l, a.own)
	checkFind(t, a.l, a.own, i, ok)
	want, err := referenceReserve(a.l, a.slots, a.op)
	checkReserve(t, a.l, a.slots, a.op, want, err)
	checkRelease(t, a.l, a.op, referenceRelease(a.l, a.op))
	want, err = referencePut(a.l, a.at, a.n)
	checkPut(t, a.l, a.at, a.n, want, err)
	want, n, ok := referenceTake(a.l, a.at)
	checkTake(t, a.l, a.at, want, n, ok)
	checkLock(t, a.l, a.ids, a.by, referenceLock(a.l, a.ids, a.by))
	checkUnlock(t, a.l, a.by, referenceUnlock(a.l, a.by))
	want, ids := referenceSweep(a.l, a.by)
	checkSweep(t, a.l, a.by, want, ids)
	checkEntries(t, a.l, a.core, referenceEntries(a.l, a.core))
}

// R1 and R3: all functions return, whatever the arguments are.
func TestAnyArguments(t *testing.T) {
	r := rand.New(rand.NewSource(14))
	valid, reserved, put, taken, swept := 0, 0, 0, 0, 0
	for range 60000 {
		a := anyArguments(r)
		checkAll(t, a)
		count(&valid, referenceValid(a.l))
		_, err := referenceReserve(a.l, a.slots, a.op)
		count(&reserved, err == api.OK)
		_, err = referencePut(a.l, a.at, a.n)
		count(&put, err == api.OK)
		_, _, ok := referenceTake(a.l, a.at)
		count(&taken, ok)
		_, ids := referenceSweep(a.l, a.by)
		count(&swept, len(ids) > 1)
	}
	if min(valid, reserved, put, taken, swept) < 1000 {
		t.Errorf("too few ordinary arguments: %d valid, %d reserved, %d put, %d taken, %d swept", valid, reserved, put, taken, swept)
	}
}

func count(n *int, ok bool) {
	if ok {
		*n++
	}
}

// A capability space stays valid, whatever is done with it by operations, nodes and revocations that are valid.
func TestValidStaysValid(t *testing.T) {
	r := rand.New(rand.NewSource(15))
	for range 200 {
		l := make([]api.Slot, r.Intn(65))
		for range 200 {
			op, by := 1+r.Intn(4), id(r.Intn(2), 1+r.Intn(4))
			l = step(r, l, op, by)
			checkValid(t, l, true)
		}
	}
}

// step returns what one function makes of l, or l if there is an error.
func step(r *rand.Rand, l []api.Slot, op int, by api.Id) []api.Slot {
	next, err, ok := l, api.OK, true
	switch r.Intn(7) {
	case 0:
		next, err = cspace.Reserve(l, []int{r.Intn(65), r.Intn(65)}, op)
	case 1:
		next = cspace.Release(l, op)
	case 2, 3:
		next, err = cspace.Put(l, r.Intn(65), anyNode(r))
	case 4:
		next, _, ok = cspace.Take(l, r.Intn(65))
	case 5:
		next = cspace.Lock(l, []api.Id{anyId(r), anyId(r)}, by)
	case 6:
		next = cspace.Unlock(l, by)
		if r.Intn(2) == 0 {
			next, _ = cspace.Sweep(l, by)
		}
	}
	if err != api.OK || !ok {
		return l
	}
	return next
}

// spread returns the arguments such that the list, its paths, the node's path and the Ids are parts of longer lists.
func spread(a arguments) arguments {
	paths := []*[]api.Id{&a.n.Path, &a.ids}
	a.spare = append(slices.Clone(a.l), slot(id(8, 8)), slot(id(8, 9)))
	a.l = a.spare[:len(a.l)]
	for i := range a.l {
		paths = append(paths, &a.l[i].Node.Path)
	}
	for _, path := range paths {
		a.spareIds = append(a.spareIds, *path...)
	}
	a.spareIds = append(a.spareIds, id(8, 8), id(8, 9))
	at := 0
	for _, path := range paths {
		*path = a.spareIds[at : at+len(*path)]
		at += len(*path)
	}
	a.slots = append(a.slots, -5, -6)[:len(a.slots)]
	return a
}

// results are all lists that the functions return.
type results struct {
	slots   [][]api.Slot
	entries []api.Entry
	taken   api.Node
	swept   []api.Id
}

func resultsOf(a arguments) results {
	reserved, _ := cspace.Reserve(a.l, a.slots, max(1, min(a.op, api.MaxOp)))
	put, _ := cspace.Put(a.l, a.at, a.n)
	rest, taken, _ := cspace.Take(a.l, a.at)
	left, swept := cspace.Sweep(a.l, a.by)
	slots := [][]api.Slot{reserved, cspace.Release(a.l, a.op), put, rest, cspace.Lock(a.l, a.ids, a.by), cspace.Unlock(a.l, a.by), left}
	return results{slots, cspace.Entries(a.l, a.core), taken, swept}
}

// paths returns the path of each node of a result.
func (x results) paths() [][]api.Id {
	out := [][]api.Id{x.taken.Path, x.swept}
	for _, l := range x.slots {
		for _, s := range l {
			out = append(out, s.Node.Path)
		}
	}
	for _, e := range x.entries {
		out = append(out, e.Node.Path)
	}
	return out
}

// R4: a call writes nothing into an argument, not even beyond the end of a list, and what it returns is not a part of one.
func TestArgumentsAreKept(t *testing.T) {
	r := rand.New(rand.NewSource(16))
	for range 5000 {
		a := spread(anyArguments(r))
		spare, spareIds, slots := copied(a.spare), slices.Clone(a.spareIds), slices.Clone(a.slots[:cap(a.slots)])
		cspace.Valid(a.l)
		cspace.Find(a.l, a.own)
		x := resultsOf(a)
		for _, path := range x.paths() {
			clear(path[:cap(path)])
		}
		clear(x.entries[:cap(x.entries)])
		for _, l := range x.slots {
			clear(l[:cap(l)])
		}
		if !sameSlots(a.spare, spare) || !slices.Equal(a.spareIds, spareIds) || !slices.Equal(a.slots[:cap(a.slots)], slots) {
			t.Errorf("%+v: an argument is changed", spare)
		}
	}
}

// R4: a result does not change with an argument, and no list of it changes with another one.
func TestResultsAreNewMemory(t *testing.T) {
	r := rand.New(rand.NewSource(17))
	for range 5000 {
		a := spread(anyArguments(r))
		paths := resultsOf(a).paths()
		var written [][]api.Id
		for _, path := range paths {
			written = append(written, slices.Clone(path))
		}
		clear(a.spareIds)
		clear(a.spare)
		for i, path := range paths {
			if !slices.Equal(path, written[i]) {
				t.Errorf("list %d is changed with an argument: %v, was %v", i, path, written[i])
			}
			clear(path[:cap(path)])
			clear(written[i])
			for k, other := range paths {
				if !slices.Equal(other, written[k]) {
					t.Errorf("list %d is changed with list %d", k, i)
				}
			}
		}
	}
}

// R5: calls at the same time are not visible.
func TestCallsAtTheSameTime(t *testing.T) {
	r := rand.New(rand.NewSource(18))
	for range 300 {
		a := anyArguments(r)
		var group sync.WaitGroup
		for range 4 {
			group.Go(func() {
				for range 3 {
					checkAll(t, a)
				}
			})
		}
		group.Wait()
	}
}
