package memrange_test

import (
	"math"
	"math/rand"
	"slices"
	"testing"

	"multikernel/api"
	"multikernel/memrange"
)

// P10.1

func TestValidAndEnd(t *testing.T) {
	for r, end := range map[api.Range]int{
		at(0, 6): 64, at(64, 6): 128, at(192, 6): 256, at(128, 7): 256, at(0, 40): top, at(0, 39): top / 2, at(top/2, 39): top,
		at(top-64, 6): top, at(top-128, 7): top, at(top-4096, 12): top, at(3<<38, 38): top, at(4096, 12): 8192, at(12288, 12): 16384,
	} {
		if !memrange.Valid(r) || memrange.End(r) != end {
			t.Errorf("%v: %v, %d, want %d", r, memrange.Valid(r), memrange.End(r), end)
		}
	}
	for _, r := range oddRanges() {
		if memrange.Valid(r) || memrange.End(r) != 0 {
			t.Errorf("%v: %v, %d", r, memrange.Valid(r), memrange.End(r))
		}
	}
}

// A range of each size at its least and greatest base, and beside each of them.
func TestValidOfEachSize(t *testing.T) {
	for bits := 6; bits <= 40; bits++ {
		size := 1 << bits
		for _, base := range []int{0, size, top - size} {
			valid := base+size <= top
			if r := at(base, bits); memrange.Valid(r) != valid || valid && memrange.End(r) != base+size {
				t.Error(r, memrange.Valid(r), memrange.End(r))
			}
			for _, shift := range []int{1, -1, 32, -32, size / 2, -size / 2} {
				if r := at(base+shift, bits); memrange.Valid(r) || memrange.End(r) != 0 {
					t.Error(r, memrange.Valid(r), memrange.End(r))
				}
			}
		}
		for _, base := range []int{-size, top, top + size, 2 * top, math.MinInt, math.MaxInt - size + 1} {
			if r := at(base, bits); memrange.Valid(r) || memrange.End(r) != 0 {
				t.Error(r, memrange.Valid(r), memrange.End(r))
			}
		}
	}
}

func TestValidAgainstReference(t *testing.T) {
	r := rand.New(rand.NewSource(1))
	valid := 0
	for range 100000 {
		x := at(int(r.Uint64()>>r.Intn(64))>>r.Intn(30)<<r.Intn(50), r.Intn(60)-8)
		end := referenceEnd(x)
		if memrange.Valid(x) != (end > 0) || memrange.End(x) != end {
			t.Error(x, memrange.Valid(x), memrange.End(x), end)
		}
		if end > 0 {
			valid++
		}
	}
	if valid < 1000 {
		t.Error("only", valid, "valid ranges")
	}
}

// P10.2

func TestContainsAndOverlaps(t *testing.T) {
	for _, c := range []struct {
		a, b               api.Range
		contains, overlaps bool
	}{
		{at(0, 8), at(0, 8), true, true},
		{at(0, 8), at(0, 6), true, true},
		{at(0, 8), at(192, 6), true, true},
		{at(0, 8), at(128, 7), true, true},
		{at(0, 6), at(0, 8), false, true},
		{at(192, 6), at(0, 8), false, true},
		{at(0, 8), at(256, 8), false, false},
		{at(256, 8), at(0, 8), false, false},
		{at(0, 6), at(64, 6), false, false},
		{at(64, 6), at(0, 6), false, false},
		{at(256, 8), at(192, 6), false, false},
		{at(256, 8), at(512, 6), false, false},
		{at(0, 40), at(top-64, 6), true, true},
		{at(0, 40), at(0, 40), true, true},
		{at(top-64, 6), at(0, 40), false, true},
		{at(0, 39), at(top/2, 39), false, false},
		{at(0, 39), at(top/2-64, 6), true, true},
		{at(0, 39), at(top/2, 6), false, false},
	} {
		if got := memrange.Contains(c.a, c.b); got != c.contains {
			t.Errorf("Contains(%v, %v) = %v", c.a, c.b, got)
		}
		if got := memrange.Overlaps(c.a, c.b); got != c.overlaps {
			t.Errorf("Overlaps(%v, %v) = %v", c.a, c.b, got)
		}
	}
}

// A range that is not valid has nothing to do with any other one, not even with itself.
func TestContainsAndOverlapsOfOddRanges(t *testing.T) {
	for _, odd := range oddRanges() {
		for _, other := range append(oddRanges(), at(0, 6), at(0, 8), at(64, 6), at(0, 40), at(top-64, 6), at(top/2, 39), odd) {
			if memrange.Contains(odd, other) || memrange.Contains(other, odd) {
				t.Errorf("Contains of %v and %v", odd, other)
			}
			if memrange.Overlaps(odd, other) || memrange.Overlaps(other, odd) {
				t.Errorf("Overlaps of %v and %v", odd, other)
			}
		}
	}
}

// All pairs of small ranges, valid or not, at both ends of the memory.
func TestContainsAndOverlapsAgainstReference(t *testing.T) {
	for _, start := range []int{-64, top - 512} {
		var list []api.Range
		for base := start; base <= start+576; base += 32 {
			for bits := 5; bits <= 9; bits++ {
				list = append(list, at(base, bits))
			}
		}
		for _, a := range list {
			for _, b := range list {
				if got := memrange.Contains(a, b); got != referenceContains(a, b) {
					t.Errorf("Contains(%v, %v) = %v", a, b, got)
				}
				if got := memrange.Overlaps(a, b); got != referenceOverlaps(a, b) {
					t.Errorf("Overlaps(%v, %v) = %v", a, b, got)
				}
			}
		}
	}
}

// Ranges of all sizes: those that overlap are those one of which contains the other.
func TestNestedOrDisjoint(t *testing.T) {
	r := rand.New(rand.NewSource(2))
	nested := 0
	for range 100000 {
		a := randomIn(r, at(0, 40))
		b := randomIn(r, pick(r, []api.Range{a, at(0, 40), at(a.Base>>38<<38, 38)}))
		contains := a.Base <= b.Base && b.Base+1<<b.Bits <= a.Base+1<<a.Bits
		within := b.Base <= a.Base && a.Base+1<<a.Bits <= b.Base+1<<b.Bits
		if memrange.Contains(a, b) != contains || memrange.Contains(b, a) != within {
			t.Error(a, b, memrange.Contains(a, b), memrange.Contains(b, a))
		}
		if overlaps := contains || within; memrange.Overlaps(a, b) != overlaps || memrange.Overlaps(b, a) != overlaps {
			t.Error(a, b, memrange.Overlaps(a, b), memrange.Overlaps(b, a))
		}
		if contains && !within {
			nested++
		}
	}
	if nested < 10000 {
		t.Error("only", nested, "nested ranges")
	}
}

// P10.3

func TestHalves(t *testing.T) {
	for bits := 7; bits <= 40; bits++ {
		half := 1 << (bits - 1)
		for _, base := range []int{0, top/2 - 2*half, top - 2*half} {
			if base < 0 {
				continue
			}
			low, high, ok := memrange.Halves(at(base, bits))
			if low != at(base, bits-1) || high != at(base+half, bits-1) || !ok {
				t.Errorf("Halves(%v) = %v, %v, %v", at(base, bits), low, high, ok)
			}
		}
	}
}

func TestNoHalves(t *testing.T) {
	list := slices.Concat(oddRanges(), []api.Range{at(0, 6), at(64, 6), at(128, 6), at(4096, 6), at(top/2, 6), at(top-64, 6)})
	for _, r := range list {
		if low, high, ok := memrange.Halves(r); low != (api.Range{}) || high != (api.Range{}) || ok {
			t.Errorf("Halves(%v) = %v, %v, %v", r, low, high, ok)
		}
	}
}
