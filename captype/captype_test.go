package captype_test

import (
	"math"
	"math/rand"
	"slices"
	"testing"

	"multikernel/api"
	"multikernel/captype"
)

// P11.1

func TestValid(t *testing.T) {
	for _, c := range goodCaps() {
		for rights := range 8 {
			if c := with(rights, c); !captype.Valid(c) {
				t.Errorf("%+v is not valid", c)
			}
		}
	}
	for _, c := range oddCaps() {
		if captype.Valid(c) {
			t.Errorf("%+v is valid", c)
		}
	}
}

// All combinations of small numbers, with bases that are multiples of different sizes.
func TestValidOfAllFields(t *testing.T) {
	widths, rights := []int{-32, 0, 1, 12, 31, 32, 33, 38, 39, 40, 64}, []int{-1, 0, 5, 7, 8}
	for kind := -1; kind <= 8; kind++ {
		for bits := -1; bits <= 45; bits++ {
			for _, base := range []int{0, 64, 65536, top - 4096} {
				for _, width := range widths {
					for level := -1; level <= 4; level++ {
						for _, r := range rights {
							c := api.Cap{Kind: kind, Base: base, Bits: bits, Rights: r, Width: width, Level: level}
							checkValid(t, c)
							checkValid(t, device(c))
						}
					}
				}
			}
		}
	}
}

func checkValid(t *testing.T, c api.Cap) {
	t.Helper()
	if got := captype.Valid(c); got != referenceValid(c) {
		t.Errorf("Valid(%+v) = %v", c, got)
	}
}

func TestValidOfSpoiledCaps(t *testing.T) {
	r := rand.New(rand.NewSource(1))
	valid := 0
	for range 100000 {
		c := randomCap(r, 40)
		checkValid(t, c)
		if !captype.Valid(c) {
			t.Errorf("%+v is not valid", c)
		}
		c = spoil(r, c)
		checkValid(t, c)
		if captype.Valid(c) {
			valid++
		}
	}
	if valid < 10000 || valid > 90000 {
		t.Error(valid, "valid ones")
	}
}

func TestRange(t *testing.T) {
	for _, c := range slices.Concat(goodCaps(), oddCaps(), []api.Cap{{Kind: 9, Base: -5, Bits: 77}, {Base: math.MaxInt, Bits: math.MinInt}}) {
		if got := captype.Range(c); got.Base != c.Base || got.Bits != c.Bits {
			t.Errorf("Range(%+v) = %+v", c, got)
		}
	}
}

// Two capabilities that differ in one field, valid or not.
func TestSameObject(t *testing.T) {
	for _, c := range slices.Concat(goodCaps(), oddCaps()) {
		for _, change := range []int{1, -1, 6, 64, 4096, 256, 1 << 32} {
			kind, base, bits, width, level := c, c, c, c, c
			kind.Kind += change
			base.Base += change
			bits.Bits += change
			width.Width += change
			level.Level += change
			for _, other := range []api.Cap{kind, base, bits, width, level} {
				checkSame(t, c, other, false)
				checkSame(t, c, with(0, other), false)
			}
		}
		other := c
		other.Device = !c.Device
		checkSame(t, c, other, false)
		checkSame(t, c, c, true)
		for _, rights := range []int{0, 1, 7, 8, -1, math.MaxInt, math.MinInt} {
			checkSame(t, c, with(rights, c), true)
		}
	}
}

func checkSame(t *testing.T, a, b api.Cap, want bool) {
	t.Helper()
	if captype.SameObject(a, b) != want || captype.SameObject(b, a) != want {
		t.Errorf("SameObject of %+v and %+v is not %v", a, b, want)
	}
}

// P11.2

func TestCoexist(t *testing.T) {
	whole, half, frame := at(api.CapUntyped, 0, 14), at(api.CapUntyped, 8192, 13), at(api.CapFrame, 8192, 13)
	for _, c := range []struct {
		a, b api.Cap
		want bool
	}{
		{whole, whole, true},
		{whole, with(0, whole), true},
		{whole, half, true},
		{whole, frame, true},
		{half, frame, true},
		{half, device(half), true},
		{half, device(frame), true},
		{device(half), at(api.CapEndpoint, 8192, 6), true},
		{half, at(api.CapEndpoint, 8192-64, 6), true},
		{half, at(api.CapFrame, 0, 14), false},
		{half, at(api.CapFrame, 0, 13), true},
		{half, at(api.CapFrame, 8192, 12), true},
		{half, at(api.CapFrame, 12288, 12), true},
		{half, at(api.CapFrame, 16384, 14), true},
		{frame, frame, true},
		{frame, with(1, frame), true},
		{frame, device(frame), false},
		{frame, at(api.CapFrame, 8192, 12), false},
		{frame, at(api.CapFrame, 12288, 12), false},
		{frame, at(api.CapFrame, 4096, 12), true},
		{frame, at(api.CapFrame, 16384, 12), true},
		{frame, at(api.CapFrame, 0, 40), false},
		{frame, at(api.CapUntyped, 0, 40), true},
		{frame, at(api.CapUntyped, 8192, 12), false},
		{frame, at(api.CapUntyped, 12288, 6), false},
		{frame, table(12288, 32, 1), false},
		{frame, at(api.CapEndpoint, 16384-64, 6), false},
		{frame, at(api.CapDispatcher, 8192, 10), false},
		{at(api.CapFrame, 4096, 12), table(4096, 39, 0), false},
		{table(4096, 39, 0), table(4096, 39, 0), true},
		{table(4096, 39, 0), with(0, table(4096, 39, 0)), true},
		{table(4096, 39, 0), table(4096, 39, 1), false},
		{table(4096, 39, 0), table(4096, 32, 0), false},
		{table(4096, 39, 0), table(8192, 39, 1), true},
		{at(api.CapKernel, 0, 16), at(api.CapKernel, 65536, 16), true},
		{at(api.CapKernel, 0, 16), at(api.CapDispatcher, 1024, 10), false},
	} {
		checkCoexist(t, c.a, c.b, c.want)
	}
}

func checkCoexist(t *testing.T, a, b api.Cap, want bool) {
	t.Helper()
	if captype.Coexist(a, b) != want || captype.Coexist(b, a) != want {
		t.Errorf("Coexist of %+v and %+v is not %v", a, b, want)
	}
}

// Ranges that are not valid overlap nothing. All that counts of the other fields is the kind, and whether they agree.
func TestCoexistOfOddCaps(t *testing.T) {
	for _, c := range oddCaps() {
		for _, other := range append(oddCaps(), at(api.CapUntyped, 0, 40), at(api.CapFrame, 0, 40), at(api.CapEndpoint, 0, 6)) {
			if !inMemory(c) || !inMemory(other) {
				checkCoexist(t, c, other, true)
			}
		}
		checkCoexist(t, c, c, true)
		checkCoexist(t, c, with(5, c), true)
	}
	for _, kind := range []int{0, 7, -1, 1<<32 + 1, api.CapFrame, api.CapKernel} {
		odd := at(kind, 8192, 13)
		checkCoexist(t, odd, at(api.CapFrame, 8192, 12), false)
		checkCoexist(t, odd, at(api.CapUntyped, 8192, 12), false)
		checkCoexist(t, odd, at(api.CapUntyped, 8192, 13), true)
		checkCoexist(t, odd, at(api.CapUntyped, 0, 14), true)
		checkCoexist(t, odd, at(api.CapUntyped, 0, 13), true)
		checkCoexist(t, odd, with(-1, odd), true)
	}
	untyped := api.Cap{Kind: api.CapUntyped, Bits: 13, Rights: -9, Width: 5, Level: 5}
	checkCoexist(t, untyped, at(api.CapFrame, 0, 12), true)
	checkCoexist(t, untyped, at(api.CapFrame, 0, 14), false)
}

func TestCoexistAgainstReference(t *testing.T) {
	r := rand.New(rand.NewSource(2))
	apart := 0
	for range 5000 {
		a := randomCap(r, 16)
		b := pick(r, []api.Cap{randomCap(r, 16), spoil(r, a), at(1+r.Intn(2), a.Base>>12<<12, 12), with(r.Intn(8), a)})
		if b.Bits > 20 {
			continue
		}
		want := referenceCoexist(a, b)
		checkCoexist(t, a, b, want)
		if !want {
			apart++
		}
	}
	if apart < 500 || apart > 4500 {
		t.Error(apart, "pairs that do not coexist")
	}
}

// P11.3

func TestAttenuate(t *testing.T) {
	numbers := []int{0, 1, 2, 3, 4, 5, 6, 7, 8, 15, -1, -2, -8, 1 << 40, math.MaxInt, math.MinInt}
	for _, c := range slices.Concat(goodCaps(), oddCaps()) {
		for _, rights := range numbers {
			for _, mask := range numbers {
				given := with(rights, c)
				if got := captype.Attenuate(given, mask); got != with(rights&mask, c) {
					t.Errorf("Attenuate(%+v, %d) = %+v", given, mask, got)
				}
			}
		}
	}
	for _, c := range []struct{ rights, mask, want int }{{7, 5, 5}, {3, 6, 2}, {1, 6, 0}, {5, -1, 5}, {5, -2, 4}, {0, 7, 0}, {-1, 3, 3}, {-1, -1, -1}, {12, 9, 8}} {
		if got := captype.Attenuate(api.Cap{Rights: c.rights}, c.mask); got != (api.Cap{Rights: c.want}) {
			t.Errorf("rights %d and mask %d: %+v", c.rights, c.mask, got)
		}
	}
}
