package captype_test

import (
	"math"
	"math/rand"
	"slices"
	"testing"

	"multikernel/api"
	"multikernel/captype"
)

// top is the end of the physical memory.
const top = 1 << 40

// at returns a capability with all rights.
func at(kind, base, bits int) api.Cap {
	return api.Cap{Kind: kind, Base: base, Bits: bits, Rights: 7}
}

func table(base, width, level int) api.Cap {
	return api.Cap{Kind: api.CapTable, Base: base, Bits: 12, Rights: 7, Width: width, Level: level}
}

func device(c api.Cap) api.Cap {
	c.Device = true
	return c
}

func with(rights int, c api.Cap) api.Cap {
	c.Rights = rights
	return c
}

// goodCaps has valid capabilities of all kinds, with the least and greatest numbers that each field may have.
func goodCaps() []api.Cap {
	list := []api.Cap{
		table(0, 32, 0), table(4096, 32, 1), table(8192, 39, 0), table(12288, 39, 1), table(top-4096, 39, 2),
		at(api.CapEndpoint, 0, 6), at(api.CapEndpoint, 64, 6), at(api.CapEndpoint, top-64, 6),
		at(api.CapDispatcher, 0, 10), at(api.CapDispatcher, 1024, 10), at(api.CapDispatcher, top-1024, 10),
		at(api.CapKernel, 0, 16), at(api.CapKernel, 65536, 16), at(api.CapKernel, top-65536, 16),
	}
	for bits := 6; bits <= 40; bits++ {
		for _, base := range []int{0, top - 1<<bits} {
			list = append(list, at(api.CapUntyped, base, bits), device(at(api.CapUntyped, base, bits)))
			if bits >= 12 {
				list = append(list, at(api.CapFrame, base, bits), device(at(api.CapFrame, base, bits)))
			}
		}
	}
	return list
}

// oddCaps are not valid, but each of them would be, or would seem to be, if one condition were read otherwise.
func oddCaps() []api.Cap {
	list := []api.Cap{
		{}, at(0, 0, 6), at(0, 0, 12), at(-1, 0, 12), at(7, 0, 12), at(256+api.CapFrame, 0, 12), at(1<<32+api.CapUntyped, 0, 12),
		at(math.MaxInt, 0, 12), at(math.MinInt, 0, 12),
		at(api.CapUntyped, 0, 5), at(api.CapUntyped, 0, 41), at(api.CapUntyped, 0, 0), at(api.CapUntyped, 0, -6), at(api.CapUntyped, 0, 256+12),
		at(api.CapUntyped, 32, 6), at(api.CapUntyped, 64, 7), at(api.CapUntyped, top, 6), at(api.CapUntyped, -64, 6), at(api.CapUntyped, math.MinInt, 12),
		at(api.CapFrame, 0, 11), at(api.CapFrame, 0, 6), at(api.CapFrame, 0, 41), at(api.CapFrame, 2048, 12), at(api.CapFrame, 4096, 13),
		at(api.CapFrame, top, 12), at(api.CapFrame, -4096, 12), at(api.CapFrame, math.MaxInt-4095, 12), at(api.CapFrame, 0, math.MaxInt), at(api.CapFrame, 0, math.MinInt),
		at(api.CapEndpoint, 0, 5), at(api.CapEndpoint, 0, 7), at(api.CapEndpoint, 0, 12), at(api.CapEndpoint, 32, 6), at(api.CapEndpoint, top, 6),
		at(api.CapDispatcher, 0, 9), at(api.CapDispatcher, 0, 11), at(api.CapDispatcher, 0, 6), at(api.CapDispatcher, 512, 10), at(api.CapDispatcher, top, 10),
		at(api.CapKernel, 0, 15), at(api.CapKernel, 0, 17), at(api.CapKernel, 0, 12), at(api.CapKernel, 32768, 16), at(api.CapKernel, top, 16),
		table(2048, 32, 0), table(top, 32, 0), table(-4096, 39, 0), {Kind: api.CapTable, Bits: 11, Width: 32}, {Kind: api.CapTable, Bits: 13, Width: 32},
		table(0, 32, 2), table(0, 32, -1), table(0, 39, 3), table(0, 39, -1), table(0, 0, 0), table(0, 31, 0), table(0, 33, 0), table(0, 38, 0), table(0, 40, 0),
		table(0, 64, 0), table(0, -32, 0), table(0, 256+32, 0), table(0, 1<<32+39, 0), table(0, 32, 256), table(0, 39, math.MaxInt), table(0, 32, math.MinInt),
	}
	for _, c := range []api.Cap{at(api.CapUntyped, 0, 12), at(api.CapFrame, 0, 12), table(0, 32, 1), at(api.CapEndpoint, 0, 6), at(api.CapDispatcher, 0, 10), at(api.CapKernel, 0, 16)} {
		for _, rights := range []int{-1, -8, 8, 15, 16, 256, 256 + 7, math.MaxInt, math.MinInt} {
			list = append(list, with(rights, c))
		}
		if c.Kind > api.CapFrame {
			list = append(list, device(c))
		}
		if c.Kind != api.CapTable {
			for _, extra := range []int{1, 2, -1, 32, 39, 256, math.MinInt} {
				wide, deep := c, c
				wide.Width, deep.Level = extra, extra
				list = append(list, wide, deep)
			}
		}
	}
	return list
}

func pick[T any](r *rand.Rand, list []T) T { return list[r.Intn(len(list))] }

// randomCap returns a valid capability to memory below a limit of at least 65536 bytes.
func randomCap(r *rand.Rand, limitBits int) api.Cap {
	c := api.Cap{Kind: 1 + r.Intn(6), Rights: r.Intn(8)}
	switch c.Kind {
	case api.CapUntyped:
		c.Bits, c.Device = 6+r.Intn(limitBits-5), r.Intn(2) == 0
	case api.CapFrame:
		c.Bits, c.Device = 12+r.Intn(limitBits-11), r.Intn(2) == 0
	case api.CapTable:
		c.Bits, c.Width = 12, pick(r, []int{32, 39})
		c.Level = pick(r, levels(c.Width))
	case api.CapEndpoint:
		c.Bits = 6
	case api.CapDispatcher:
		c.Bits = 10
	case api.CapKernel:
		c.Bits = 16
	}
	c.Base = r.Intn(1<<(limitBits-c.Bits)) << c.Bits
	return c
}

// randomUntyped returns a valid untyped capability.
func randomUntyped(r *rand.Rand) api.Cap {
	bits := 6 + r.Intn(35)
	return api.Cap{Kind: api.CapUntyped, Base: r.Intn(1<<(40-bits)) << bits, Bits: bits, Rights: r.Intn(8), Device: r.Intn(4) == 0}
}

// spoil changes a field of c to a number that is near the permitted ones, or far from them.
func spoil(r *rand.Rand, c api.Cap) api.Cap {
	near := pick(r, []int{-1, 0, 1, 2, 3, 5, 6, 7, 8, 10, 12, 16, 32, 39, 40, 41, 64, 4096, top, math.MaxInt, math.MinInt})
	switch r.Intn(7) {
	case 0:
		c.Kind = near
	case 1:
		c.Base = near
	case 2:
		c.Bits = near
	case 3:
		c.Rights = near
	case 4:
		c.Width = near
	case 5:
		c.Level = near
	case 6:
		c.Device = !c.Device
	}
	return c
}

// retyping is a call of Retype.
type retyping struct {
	src                                       api.Cap
	object, bits, level, width, offset, count int
}

func (c retyping) call() ([]api.Cap, api.Errno) {
	return captype.Retype(c.src, c.object, c.bits, c.level, c.width, c.offset, c.count)
}

func checkRetype(t *testing.T, c retyping, want ...api.Cap) {
	t.Helper()
	if got, err := c.call(); err != api.OK || !slices.Equal(got, want) {
		t.Errorf("%+v: %+v, error %d, want %+v", c, got, err, want)
	}
}

func checkRetypeError(t *testing.T, c retyping, want api.Errno) {
	t.Helper()
	if got, err := c.call(); err != want || len(got) != 0 {
		t.Errorf("%+v: %+v, error %d, want error %d", c, got, err, want)
	}
}

// checkCode checks that c is encoded as the bytes of want, and that these are decoded as c.
func checkCode(t *testing.T, c api.Cap, want string) {
	t.Helper()
	if b, err := captype.Encode(c); err != api.OK || string(b) != want {
		t.Errorf("%+v: % x, error %d, want % x", c, b, err, want)
	}
	if got, err := captype.Decode([]byte(want)); err != api.OK || got != c {
		t.Errorf("% x: %+v, error %d, want %+v", want, got, err, c)
	}
}

func checkDecodeError(t *testing.T, b []byte) {
	t.Helper()
	if got, err := captype.Decode(b); err != api.ErrFormat || got != (api.Cap{}) {
		t.Errorf("% x: %+v, error %d", b, got, err)
	}
}
