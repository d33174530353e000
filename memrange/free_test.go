package memrange_test

import (
	"math"
	"math/rand"
	"slices"
	"testing"

	"multikernel/api"
	"multikernel/memrange"
)

// P10.4

func TestFree(t *testing.T) {
	block := at(256, 8)
	checkFree(t, at(0, 8), []api.Range{at(64, 6)}, at(0, 6), at(128, 7))
	checkFree(t, block, nil, block)
	checkFree(t, block, []api.Range{block})
	checkFree(t, block, []api.Range{at(0, 9)})
	checkFree(t, block, []api.Range{at(0, 40)})
	checkFree(t, block, []api.Range{at(256, 6)}, at(320, 6), at(384, 7))
	checkFree(t, block, []api.Range{at(448, 6)}, at(256, 7), at(384, 6))
	checkFree(t, block, []api.Range{at(320, 6), at(384, 6)}, at(256, 6), at(448, 6))
	checkFree(t, block, []api.Range{at(256, 7), at(384, 7)})
	checkFree(t, block, []api.Range{at(256, 7)}, at(384, 7))
	checkFree(t, at(64, 6), nil, at(64, 6))
	checkFree(t, at(64, 6), []api.Range{at(0, 6), at(128, 6)}, at(64, 6))
	checkFree(t, at(64, 6), []api.Range{at(0, 7)})
	checkFree(t, at(64, 6), []api.Range{at(64, 6)})
}

// Two free ranges side by side are one only if they are the halves of one.
func TestFreeRangesSideBySide(t *testing.T) {
	checkFree(t, at(0, 8), []api.Range{at(0, 6), at(192, 6)}, at(64, 6), at(128, 6))
	checkFree(t, at(0, 9), []api.Range{at(0, 6), at(448, 6)}, at(64, 6), at(128, 7), at(256, 7), at(384, 6))
	checkFree(t, at(0, 9), []api.Range{at(0, 7), at(384, 7)}, at(128, 7), at(256, 7))
}

// The elements of used in any order, more than once, in one another and around r.
func TestFreeWithOddLists(t *testing.T) {
	block, used := at(1024, 10), []api.Range{at(1536, 6), at(1216, 6), at(1088, 6)}
	want := []api.Range{at(1024, 6), at(1152, 6), at(1280, 8), at(1600, 6), at(1664, 7), at(1792, 8)}
	checkFree(t, block, used, want...)
	slices.Reverse(used)
	checkFree(t, block, used, want...)
	checkFree(t, block, slices.Repeat(used, 3), want...)
	checkFree(t, block, slices.Concat(used, oddRanges()), want...)
	checkFree(t, block, slices.Concat(oddRanges(), used), want...)
	checkFree(t, block, append(used, at(0, 10), at(960, 6), at(2048, 11), at(2048, 6), at(top-64, 6)), want...)
	checkFree(t, block, append(used, at(1280, 8), at(1344, 6), at(1280, 6), at(1472, 6)), slices.Delete(slices.Clone(want), 2, 3)...)
	checkFree(t, block, append(used, at(0, 11), at(1280, 8)))
	checkFree(t, block, append(used, at(1024, 10)))
	checkFree(t, block, append(used, at(1024, 9)), want[3:]...)
	checkFree(t, block, append(used, at(1536, 9)), want[:3]...)
}

func TestFreeOfOddRanges(t *testing.T) {
	for _, odd := range oddRanges() {
		checkFree(t, odd, nil)
		checkFree(t, odd, []api.Range{at(64, 6)})
		checkFree(t, odd, []api.Range{odd})
	}
	for _, r := range []api.Range{at(0, 6), at(0, 8), at(64, 6), at(0, 40), at(top-64, 6)} {
		checkFree(t, r, oddRanges(), r)
	}
}

// Around a small range in the whole memory there is one free range of each size.
func TestFreeInAllMemory(t *testing.T) {
	checkFree(t, at(0, 40), nil, at(0, 40))
	checkFree(t, at(0, 40), []api.Range{at(0, 39)}, at(top/2, 39))
	checkFree(t, at(0, 40), []api.Range{at(top/2, 39)}, at(0, 39))
	var up, down []api.Range
	for bits := 6; bits < 40; bits++ {
		up = append(up, at(1<<bits, bits))
		down = slices.Insert(down, 0, at(top-2<<bits, bits))
	}
	checkFree(t, at(0, 40), []api.Range{at(0, 6)}, up...)
	checkFree(t, at(0, 40), []api.Range{at(top-64, 6)}, down...)
	checkFree(t, at(0, 40), []api.Range{at(top/2-64, 6), at(top/2, 6)}, slices.Concat(moved(down[1:], -top/2), moved(up[:33], top/2))...)
}

func moved(l []api.Range, by int) []api.Range {
	l = slices.Clone(l)
	for i := range l {
		l[i].Base += by
	}
	return l
}

// All sets of ranges in a small block.
func TestFreeAgainstReference(t *testing.T) {
	for _, block := range []api.Range{at(0, 8), at(256, 8), at(top-256, 8), at(512, 9)} {
		all := inside(block)
		for set := range 1 << len(all) {
			var used []api.Range
			for i, u := range all {
				if set>>i&1 == 1 {
					used = append(used, u)
				}
			}
			checkFree(t, block, used, referenceFree(block, used)...)
		}
	}
}

func TestFreeOfRandomListsAgainstReference(t *testing.T) {
	r := rand.New(rand.NewSource(3))
	for range 2000 {
		block := randomIn(r, at(pick(r, []int{0, 4096, top - 4096}), 12))
		used := randomList(r, block, r.Intn(8))
		checkFree(t, block, used, referenceFree(block, used)...)
	}
}

// What P10.4 says of each free range, and that they are all of them, for blocks and lists of all sizes.
func TestFreeOfGreatBlocks(t *testing.T) {
	r := rand.New(rand.NewSource(4))
	for range 5000 {
		block := randomIn(r, at(0, 40))
		used := randomList(r, block, r.Intn(20))
		overlapsUsed := func(x api.Range) bool {
			return slices.ContainsFunc(used, func(u api.Range) bool { return memrange.Overlaps(x, u) })
		}
		end, sum := block.Base, 0
		for _, x := range memrange.Free(block, used) {
			twice := at(x.Base>>(x.Bits+1)<<(x.Bits+1), x.Bits+1)
			if !memrange.Contains(block, x) || overlapsUsed(x) || x.Base < end || x != block && !overlapsUsed(twice) {
				t.Errorf("Free(%v, %v) has %v", block, used, x)
			}
			end = x.Base + 1<<x.Bits
			sum += 1 << x.Bits
		}
		if taken := memrange.Covered(cut(used, block)); sum+taken != 1<<block.Bits {
			t.Errorf("Free(%v, %v) has %d bytes, and %d are used", block, used, sum, taken)
		}
	}
}

// cut returns the parts of the ranges that lie in a block.
func cut(l []api.Range, block api.Range) []api.Range {
	var parts []api.Range
	for _, u := range l {
		if memrange.Contains(u, block) {
			parts = append(parts, block)
		} else if memrange.Contains(block, u) {
			parts = append(parts, u)
		}
	}
	return parts
}

// P10.5

func TestFind(t *testing.T) {
	checkFind(t, at(0, 8), []api.Range{at(64, 6)}, 6, at(0, 6))
	checkFind(t, at(0, 8), []api.Range{at(64, 6)}, 7, at(128, 7))
	checkNotFound(t, at(0, 8), []api.Range{at(64, 6)}, 8)
	for bits := 6; bits <= 10; bits++ {
		checkFind(t, at(1024, 10), nil, bits, at(1024, bits))
	}
	checkNotFound(t, at(1024, 10), nil, 11)
	checkNotFound(t, at(0, 8), []api.Range{at(0, 8)}, 6)
	checkNotFound(t, at(0, 8), []api.Range{at(0, 9)}, 6)
	checkFind(t, at(0, 40), nil, 40, at(0, 40))
	checkFind(t, at(0, 40), []api.Range{at(top/2-64, 6)}, 39, at(top/2, 39))
	checkNotFound(t, at(0, 40), []api.Range{at(top/2-64, 6)}, 40)
}

// The free range with the least base may lie in a greater one, although another one has just the size.
func TestFindTakesLeastBase(t *testing.T) {
	used := []api.Range{at(512, 6), at(640, 6)}
	checkFree(t, at(0, 10), used, at(0, 9), at(576, 6), at(704, 6), at(768, 8))
	checkFind(t, at(0, 10), used, 6, at(0, 6))
	checkFind(t, at(0, 10), used, 8, at(0, 8))
	checkFind(t, at(0, 10), append(used, at(0, 6)), 6, at(64, 6))
	checkFind(t, at(0, 10), append(used, at(0, 6), at(64, 6)), 6, at(128, 6))
	checkFind(t, at(0, 10), append(used, at(0, 9)), 6, at(576, 6))
	checkFind(t, at(0, 10), append(used, at(0, 9)), 7, at(768, 7))
}

func TestFindErrors(t *testing.T) {
	for _, bits := range []int{5, 4, 1, 0, -1, -6, -58, 9, 41, 62, 63, 64, 70, 256 + 6, 1<<32 + 6, math.MaxInt, math.MinInt} {
		checkNotFound(t, at(0, 8), nil, bits)
		checkNotFound(t, at(0, 8), []api.Range{at(0, 6)}, bits)
	}
	for _, bits := range []int{41, 5, 0, 64, math.MaxInt, math.MinInt} {
		checkNotFound(t, at(0, 40), nil, bits)
	}
	for _, odd := range oddRanges() {
		for _, bits := range []int{6, 8, 40, odd.Bits} {
			checkNotFound(t, odd, nil, bits)
			checkNotFound(t, odd, []api.Range{at(64, 6)}, bits)
		}
		checkFind(t, at(0, 8), []api.Range{odd, at(0, 6)}, 6, at(64, 6))
	}
}

func TestFindAgainstReference(t *testing.T) {
	r := rand.New(rand.NewSource(5))
	for range 2000 {
		block := randomIn(r, at(pick(r, []int{0, 4096, top - 4096}), 12))
		used := randomList(r, block, r.Intn(8))
		for bits := 5; bits <= 13; bits++ {
			if want, ok := referenceFind(block, used, bits); ok {
				checkFind(t, block, used, bits, want)
			} else {
				checkNotFound(t, block, used, bits)
			}
		}
	}
}

// P10.6

func TestCovered(t *testing.T) {
	checkCovered(t, nil, 0)
	checkCovered(t, []api.Range{at(64, 6)}, 64)
	checkCovered(t, []api.Range{at(64, 6), at(64, 6), at(64, 6)}, 64)
	checkCovered(t, []api.Range{at(64, 6), at(0, 6)}, 128)
	checkCovered(t, []api.Range{at(0, 6), at(0, 8)}, 256)
	checkCovered(t, []api.Range{at(0, 8), at(192, 6), at(64, 6), at(0, 6), at(128, 7)}, 256)
	checkCovered(t, []api.Range{at(192, 6), at(0, 7), at(256, 8), at(64, 6)}, 448)
	checkCovered(t, []api.Range{at(0, 40)}, top)
	checkCovered(t, []api.Range{at(top/2, 39), at(0, 40), at(64, 6), at(0, 39)}, top)
	checkCovered(t, []api.Range{at(top/2, 39), at(0, 39)}, top)
	checkCovered(t, []api.Range{at(top-64, 6), at(0, 39), at(top/2-64, 6)}, top/2+64)
}

func TestCoveredOfOddRanges(t *testing.T) {
	checkCovered(t, oddRanges(), 0)
	for _, odd := range oddRanges() {
		checkCovered(t, []api.Range{odd}, 0)
		checkCovered(t, []api.Range{at(64, 6), odd, at(4096, 12)}, 4160)
	}
}

func TestCoveredAgainstReference(t *testing.T) {
	r := rand.New(rand.NewSource(6))
	for range 20000 {
		l := randomList(r, randomIn(r, at(pick(r, []int{0, 4096, top - 4096}), 12)), r.Intn(10))
		checkCovered(t, l, referenceCovered(l))
	}
}

// A byte of the memory lies either in an element of l or in a free range.
func TestCoveredOfGreatRanges(t *testing.T) {
	r := rand.New(rand.NewSource(7))
	for range 5000 {
		l := randomList(r, randomIn(r, at(0, 40)), r.Intn(20))
		covered := top
		for _, x := range memrange.Free(at(0, 40), l) {
			covered -= 1 << x.Bits
		}
		checkCovered(t, l, covered)
	}
}
