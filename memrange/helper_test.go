package memrange_test

import (
	"math"
	"math/rand"
	"slices"
	"testing"

	"multikernel/api"
	"multikernel/memrange"
)

// top is the end of the physical memory.
const top = 1 << 40

func at(base, bits int) api.Range { return api.Range{Base: base, Bits: bits} }

// oddRanges are not valid, but each of them would be, or would seem to be, if one condition or sum were read otherwise.
func oddRanges() []api.Range {
	return []api.Range{
		at(0, 5), at(0, 0), at(0, 41), at(0, 63), at(0, 64), at(0, 70), at(0, 256+8), at(0, 1<<32+8), at(0, -1), at(0, -8),
		at(0, math.MaxInt), at(0, math.MinInt), at(1, 6), at(32, 6), at(63, 6), at(96, 6), at(64, 7), at(128, 8), at(64, 8),
		at(256, 9), at(1<<39, 40), at(64, 40), at(top-64, 40), at(top-128, 8), at(top-32, 6), at(top, 6), at(top, 40),
		at(top+64, 6), at(2*top, 6), at(1<<62, 6), at(-64, 6), at(-128, 7), at(-256, 8), at(-1, 6), at(-32, 6), at(-top, 40),
		at(math.MaxInt, 6), at(math.MaxInt-63, 6), at(math.MaxInt-1<<40+1, 40), at(math.MinInt, 6), at(math.MinInt, 40),
		at(math.MinInt, 8), at(math.MinInt, math.MinInt), at(math.MaxInt, math.MaxInt), at(-64, 41), at(top, 5),
	}
}

// inside returns all valid ranges in r, the smallest ones first.
func inside(r api.Range) []api.Range {
	var list []api.Range
	for bits := api.MinBits; bits <= r.Bits; bits++ {
		for base := r.Base; base < r.Base+1<<r.Bits; base += 1 << bits {
			list = append(list, at(base, bits))
		}
	}
	return list
}

func pick[T any](r *rand.Rand, list []T) T { return list[r.Intn(len(list))] }

// randomIn returns a valid range in a block.
func randomIn(r *rand.Rand, block api.Range) api.Range {
	bits := api.MinBits + r.Intn(block.Bits-api.MinBits+1)
	return at(block.Base+r.Intn(1<<(block.Bits-bits))<<bits, bits)
}

// randomList returns ranges in and around a block, many of them small, and some that are not valid.
func randomList(r *rand.Rand, block api.Range, n int) []api.Range {
	bits := min(block.Bits+1, api.AddrBits)
	around := at(block.Base>>bits<<bits, bits)
	var list []api.Range
	for range n {
		switch r.Intn(6) {
		case 0:
			list = append(list, pick(r, oddRanges()))
		case 1:
			list = append(list, at(block.Base+r.Intn(1<<block.Bits), api.MinBits+r.Intn(3)))
		case 2:
			list = append(list, randomIn(r, around))
		default:
			list = append(list, randomIn(r, randomIn(r, block)))
		}
	}
	return list
}

func checkFree(t *testing.T, r api.Range, used []api.Range, want ...api.Range) {
	t.Helper()
	if got := memrange.Free(r, used); !slices.Equal(got, want) {
		t.Errorf("Free(%v, %v) = %v, want %v", r, used, got, want)
	}
}

func checkFind(t *testing.T, r api.Range, used []api.Range, bits int, want api.Range) {
	t.Helper()
	if got, ok := memrange.Find(r, used, bits); got != want || !ok {
		t.Errorf("Find(%v, %v, %d) = %v, %v, want %v", r, used, bits, got, ok, want)
	}
}

func checkNotFound(t *testing.T, r api.Range, used []api.Range, bits int) {
	t.Helper()
	if got, ok := memrange.Find(r, used, bits); got != (api.Range{}) || ok {
		t.Errorf("Find(%v, %v, %d) = %v, %v", r, used, bits, got, ok)
	}
}

func checkCovered(t *testing.T, l []api.Range, want int) {
	t.Helper()
	if got := memrange.Covered(l); got != want {
		t.Errorf("Covered(%v) = %d, want %d", l, got, want)
	}
}
