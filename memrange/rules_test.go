package memrange_test

import (
	"math"
	"math/rand"
	"slices"
	"sync"
	"testing"

	"multikernel/api"
	"multikernel/memrange"
)

// results are those of one call of each function.
type results struct {
	valid, contains, overlaps, halved, ok bool
	end, covered                          int
	low, high, found                      api.Range
	free                                  []api.Range
}

func callAll(r api.Range, used []api.Range, bits int) results {
	s := results{valid: memrange.Valid(r), end: memrange.End(r), covered: memrange.Covered(used)}
	for _, u := range used {
		s.contains = s.contains || memrange.Contains(u, r)
		s.overlaps = s.overlaps || memrange.Overlaps(r, u)
	}
	s.low, s.high, s.halved = memrange.Halves(r)
	s.free = memrange.Free(r, used)
	s.found, s.ok = memrange.Find(r, used, bits)
	return s
}

func sameResults(a, b results) bool {
	if !slices.Equal(a.free, b.free) {
		return false
	}
	return a.valid == b.valid && a.contains == b.contains && a.overlaps == b.overlaps && a.halved == b.halved && a.ok == b.ok &&
		a.end == b.end && a.covered == b.covered && a.low == b.low && a.high == b.high && a.found == b.found
}

// R1 and R3: all functions return, whatever the arguments are, and no sum wraps around.
func TestAnyArguments(t *testing.T) {
	r := rand.New(rand.NewSource(8))
	bases := []int{math.MinInt, math.MinInt + 64, -1 << 40, -64, -1, 0, 1, 32, 64, 128, top / 2, top - 64, top, 1 << 62, math.MaxInt - 63, math.MaxInt}
	bits := []int{math.MinInt, -64, -1, 0, 5, 6, 7, 8, 39, 40, 41, 63, 64, 128, 1 << 32, math.MaxInt}
	odd := func() api.Range { return at(pick(r, bases), pick(r, bits)) }
	for range 50000 {
		x := odd()
		used := make([]api.Range, r.Intn(5))
		for i := range used {
			used[i] = odd()
		}
		s := callAll(x, used, pick(r, bits))
		valid := referenceEnd(x) > 0
		if s.valid != valid || s.end != referenceEnd(x) || s.halved != (valid && x.Bits > 6) {
			t.Error(x, s)
		}
		if !valid && (len(s.free) != 0 || s.contains || s.overlaps || s.ok) || valid && !s.overlaps && !slices.Equal(s.free, []api.Range{x}) {
			t.Error(x, used, s)
		}
	}
}

// R1: long lists, the free ranges of which are many, or few behind many used ones.
func TestLongLists(t *testing.T) {
	const n = 1 << 17
	var used, want, nested []api.Range
	for i := range n {
		used = append(used, at(i*128, 6))
		want = append(want, at(i*128+64, 6))
		nested = append(nested, at(0, 6+i%25))
	}
	whole := at(0, 24)
	checkFree(t, whole, used, want...)
	checkFind(t, whole, used, 6, want[0])
	checkNotFound(t, whole, used, 7)
	checkCovered(t, used, n*64)
	checkFree(t, at(0, 31), nested, at(1<<30, 30))
	checkFind(t, at(0, 31), nested, 6, at(1<<30, 6))
	checkCovered(t, nested, 1<<30)
	checkFree(t, at(1<<30, 30), nested, at(1<<30, 30))
}

// R4: a call writes nothing into an argument, not even beyond the end of a list, and a result that is overwritten changes
// neither an argument nor a later result.
func TestResultsAreNewMemory(t *testing.T) {
	r := rand.New(rand.NewSource(9))
	for range 5000 {
		block := randomIn(r, at(0, 12))
		all := randomList(r, block, 12)
		used, copied, bits := all[:r.Intn(10)], slices.Clone(all), 6+r.Intn(4)
		want, spoiled := callAll(block, used, bits), callAll(block, used, bits)
		clear(spoiled.free[:cap(spoiled.free)])
		if !slices.Equal(all, copied) {
			t.Error("an argument is changed")
		}
		if !sameResults(callAll(block, used, bits), want) {
			t.Error("a result is changed")
		}
	}
}

// R5: the order of a list, and calls at the same time, are not visible.
func TestResultsDependOnArgumentsOnly(t *testing.T) {
	r := rand.New(rand.NewSource(10))
	for range 200 {
		block := randomIn(r, at(0, 14))
		used, bits := randomList(r, block, r.Intn(30)), 6+r.Intn(4)
		want := callAll(block, used, bits)
		var group sync.WaitGroup
		for range 4 {
			group.Go(func() {
				for range 5 {
					if !sameResults(callAll(block, used, bits), want) {
						t.Error("another result")
					}
				}
			})
		}
		group.Wait()
		r.Shuffle(len(used), func(i, j int) { used[i], used[j] = used[j], used[i] })
		if !sameResults(callAll(block, used, bits), want) {
			t.Error("another result")
		}
	}
}

// R6: nil and an empty list are the same.
func TestEmptyLists(t *testing.T) {
	for _, empty := range [][]api.Range{nil, {}} {
		checkFree(t, at(64, 6), empty, at(64, 6))
		checkFind(t, at(64, 6), empty, 6, at(64, 6))
		checkCovered(t, empty, 0)
	}
}
