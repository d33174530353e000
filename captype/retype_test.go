package captype_test

import (
	"math"
	"math/rand"
	"slices"
	"testing"

	"multikernel/api"
	"multikernel/captype"
	"multikernel/memrange"
)

// P11.4

func TestRetype(t *testing.T) {
	src := at(api.CapUntyped, 0, 14)
	checkRetype(t, retyping{src, api.CapTable, 12, 0, 32, 4096, 2}, table(4096, 32, 0), table(8192, 32, 0))
	checkRetype(t, retyping{src, api.CapTable, 12, 2, 39, 0, 1}, table(0, 39, 2))
	checkRetype(t, retyping{with(3, src), api.CapTable, 12, 1, 39, 12288, 1}, with(3, table(12288, 39, 1)))
	checkRetype(t, retyping{src, api.CapFrame, 14, 0, 0, 0, 1}, at(api.CapFrame, 0, 14))
	checkRetype(t, retyping{src, api.CapFrame, 13, 0, 0, 8192, 1}, at(api.CapFrame, 8192, 13))
	checkRetype(t, retyping{src, api.CapUntyped, 13, 0, 0, 0, 2}, at(api.CapUntyped, 0, 13), at(api.CapUntyped, 8192, 13))
	checkRetype(t, retyping{src, api.CapUntyped, 6, 0, 0, 64, 1}, at(api.CapUntyped, 64, 6))

	src = with(2, at(api.CapUntyped, 3<<20, 20))
	checkRetype(t, retyping{src, api.CapKernel, 16, 0, 0, 15 << 16, 1}, with(2, at(api.CapKernel, 4<<20-65536, 16)))
	checkRetype(t, retyping{src, api.CapDispatcher, 10, 0, 0, 1024, 2}, with(2, at(api.CapDispatcher, 3<<20+1024, 10)), with(2, at(api.CapDispatcher, 3<<20+2048, 10)))
	endpoints := make([]api.Cap, 8)
	for i := range endpoints {
		endpoints[i] = with(2, at(api.CapEndpoint, 4<<20-512+64*i, 6))
	}
	checkRetype(t, retyping{src, api.CapEndpoint, 6, 0, 0, 1<<20 - 512, 8}, endpoints...)

	io := device(with(6, at(api.CapUntyped, top-8192, 13)))
	checkRetype(t, retyping{io, api.CapFrame, 12, 0, 0, 0, 2}, device(with(6, at(api.CapFrame, top-8192, 12))), device(with(6, at(api.CapFrame, top-4096, 12))))
	checkRetype(t, retyping{io, api.CapFrame, 13, 0, 0, 0, 1}, device(with(6, at(api.CapFrame, top-8192, 13))))
	checkRetype(t, retyping{io, api.CapUntyped, 6, 0, 0, 8192 - 64, 1}, device(with(6, at(api.CapUntyped, top-64, 6))))
}

func TestRetypeAllMemory(t *testing.T) {
	all := at(api.CapUntyped, 0, 40)
	checkRetype(t, retyping{all, api.CapFrame, 40, 0, 0, 0, 1}, at(api.CapFrame, 0, 40))
	checkRetype(t, retyping{all, api.CapUntyped, 39, 0, 0, top / 2, 1}, at(api.CapUntyped, top/2, 39))
	checkRetype(t, retyping{all, api.CapEndpoint, 6, 0, 0, top - 64, 1}, at(api.CapEndpoint, top-64, 6))
	checkRetypeError(t, retyping{all, api.CapUntyped, 40, 0, 0, 0, 1}, api.ErrRange)
	checkRetypeError(t, retyping{all, api.CapFrame, 40, 0, 0, 0, 2}, api.ErrRange)
	checkRetypeError(t, retyping{all, api.CapFrame, 40, 0, 0, 0, 8}, api.ErrRange)
	checkRetypeError(t, retyping{all, api.CapFrame, 40, 0, 0, top, 1}, api.ErrRange)
	checkRetypeError(t, retyping{all, api.CapFrame, 41, 0, 0, 0, 1}, api.ErrInvalid)
	checkRetypeError(t, retyping{all, api.CapEndpoint, 6, 0, 0, top, 1}, api.ErrRange)
	checkRetypeError(t, retyping{all, api.CapEndpoint, 6, 0, 0, top - 64, 2}, api.ErrRange)
}

// Width and level count for page tables only.
func TestRetypeIgnoresWidthAndLevel(t *testing.T) {
	src := at(api.CapUntyped, 0, 20)
	for kind, bits := range map[int]int{api.CapUntyped: 7, api.CapFrame: 13, api.CapEndpoint: 6, api.CapDispatcher: 10, api.CapKernel: 16} {
		for _, level := range []int{0, 1, 2, 3, -1, math.MaxInt, math.MinInt} {
			for _, width := range []int{0, 32, 39, 64, -1, math.MaxInt, math.MinInt} {
				checkRetype(t, retyping{src, kind, bits, level, width, 0, 1}, at(kind, 0, bits))
			}
		}
	}
	for _, level := range []int{0, 1, 2, 3, -1, 32, 39, math.MaxInt, math.MinInt} {
		for _, width := range []int{0, 1, 2, 31, 32, 33, 39, 40, 64, -32, math.MaxInt, math.MinInt} {
			if slices.Contains(levels(width), level) {
				checkRetype(t, retyping{src, api.CapTable, 12, level, width, 0, 1}, table(0, width, level))
			} else {
				checkRetypeError(t, retyping{src, api.CapTable, 12, level, width, 0, 1}, api.ErrInvalid)
			}
		}
	}
}

// Each condition alone, at both sides of each limit.
func TestRetypeErrors(t *testing.T) {
	src := at(api.CapUntyped, 1<<20, 20)
	for _, c := range slices.Concat(oddCaps(), goodCaps()) {
		if c.Kind != api.CapUntyped || !referenceValid(c) {
			checkRetypeError(t, retyping{c, api.CapUntyped, 6, 0, 0, 0, 1}, api.ErrKind)
		}
	}
	for _, rights := range []int{0, 1, 4, 5} {
		checkRetypeError(t, retyping{with(rights, src), api.CapFrame, 12, 0, 0, 0, 1}, api.ErrRights)
	}
	for _, object := range []int{0, -1, 7, 8, 256 + 2, 1<<32 + 1, math.MaxInt, math.MinInt} {
		for _, bits := range []int{0, 6, 10, 12, 16} {
			checkRetypeError(t, retyping{src, object, bits, 0, 32, 0, 1}, api.ErrInvalid)
		}
	}
	for object := api.CapUntyped; object <= api.CapKernel; object++ {
		for _, bits := range []int{-1, 0, 5, 6, 7, 9, 10, 11, 12, 13, 15, 16, 17, 20, 40, 41, 63, 64, 256 + 12, math.MaxInt, math.MinInt} {
			if !slices.Contains(sizes(object), bits) {
				checkRetypeError(t, retyping{src, object, bits, 0, 32, 0, 1}, api.ErrInvalid)
			}
		}
		bits := sizes(object)[0]
		for _, count := range []int{0, -1, 9, 10, 1 << 20, 1 << 62, math.MaxInt, math.MinInt} {
			checkRetypeError(t, retyping{src, object, bits, 0, 32, 0, count}, api.ErrInvalid)
		}
		for _, offset := range []int{-1, -1 << bits, -1 << 20, math.MinInt} {
			checkRetypeError(t, retyping{src, object, bits, 0, 32, offset, 1}, api.ErrInvalid)
		}
		if object > api.CapFrame {
			checkRetypeError(t, retyping{device(src), object, bits, 0, 32, 0, 1}, api.ErrKind)
		}
		for _, offset := range []int{1, 32, 1<<bits - 1, 1 << (bits - 1), 1<<20 - 1<<(bits-1), 1 << 20, 2 << 20, top, 1 << 62, math.MaxInt, math.MaxInt - 1<<bits + 1} {
			checkRetypeError(t, retyping{src, object, bits, 0, 32, offset, 1}, api.ErrRange)
		}
	}
	checkRetypeError(t, retyping{src, api.CapUntyped, 20, 0, 0, 0, 1}, api.ErrRange)
	for bits := 21; bits <= 40; bits++ {
		checkRetypeError(t, retyping{src, api.CapUntyped, bits, 0, 0, 0, 1}, api.ErrRange)
		checkRetypeError(t, retyping{src, api.CapFrame, bits, 0, 0, 0, 1}, api.ErrRange)
	}
	checkRetypeError(t, retyping{at(api.CapUntyped, 64, 6), api.CapUntyped, 6, 0, 0, 0, 1}, api.ErrRange)
	checkRetype(t, retyping{at(api.CapUntyped, 64, 6), api.CapEndpoint, 6, 0, 0, 0, 1}, at(api.CapEndpoint, 64, 6))
}

// A call in which all conditions fail, which are then mended in the order in which they are checked.
func TestOrderOfRetypeErrors(t *testing.T) {
	c := retyping{device(with(1, at(api.CapFrame, 0, 14))), api.CapTable, 11, 3, 32, -1, 0}
	checkRetypeError(t, c, api.ErrKind)
	c.src.Kind = api.CapUntyped
	c.src.Base = 4096
	checkRetypeError(t, c, api.ErrKind)
	c.src.Base = 0
	checkRetypeError(t, c, api.ErrRights)
	c.src.Rights = 2
	checkRetypeError(t, c, api.ErrInvalid)
	c.bits = 12
	checkRetypeError(t, c, api.ErrInvalid)
	c.level = 1
	checkRetypeError(t, c, api.ErrInvalid)
	c.count = 8
	checkRetypeError(t, c, api.ErrInvalid)
	c.offset = 1
	checkRetypeError(t, c, api.ErrKind)
	c.src.Device = false
	checkRetypeError(t, c, api.ErrRange)
	c.offset = 4096
	checkRetypeError(t, c, api.ErrRange)
	c.count = 4
	checkRetypeError(t, c, api.ErrRange)
	c.count = 3
	checkRetype(t, c, with(2, table(4096, 32, 1)), with(2, table(8192, 32, 1)), with(2, table(12288, 32, 1)))
}

// randomRetyping returns a call that succeeds, or one that fails because of one field or a few.
func randomRetyping(r *rand.Rand) retyping {
	c := retyping{src: randomUntyped(r), object: 1 + r.Intn(6), count: 1 + r.Intn(8), width: pick(r, []int{32, 39})}
	c.bits, c.level = pick(r, sizes(c.object)), pick(r, levels(c.width))
	if c.bits < c.src.Bits {
		c.offset = r.Intn(1<<(c.src.Bits-c.bits)+1-r.Intn(2)) << c.bits
	}
	odd := []int{-1, 0, 1, 5, 6, 7, 9, 11, 12, 13, 32, 40, 41, 64, 4096, top, math.MaxInt, math.MinInt}
	for range max(0, r.Intn(6)-3) {
		switch r.Intn(7) {
		case 0:
			c.src = spoil(r, c.src)
		case 1:
			c.object = pick(r, odd)
		case 2:
			c.bits = pick(r, odd)
		case 3:
			c.level = pick(r, odd)
		case 4:
			c.width = pick(r, odd)
		case 5:
			c.offset = pick(r, odd)
		case 6:
			c.count = pick(r, odd)
		}
	}
	return c
}

func TestRetypeAgainstReference(t *testing.T) {
	r := rand.New(rand.NewSource(3))
	results := map[api.Errno]int{}
	for range 200000 {
		c := randomRetyping(r)
		want, err := referenceRetype(c)
		if err == api.OK {
			checkRetype(t, c, want...)
		} else {
			checkRetypeError(t, c, err)
		}
		results[err]++
	}
	for _, err := range []api.Errno{api.OK, api.ErrKind, api.ErrRights, api.ErrInvalid, api.ErrRange} {
		if results[err] < 2000 {
			t.Errorf("error %d only %d times", err, results[err])
		}
	}
}

// What is made can exist beside the object it is made of and beside each other, and fits without gaps.
func TestRetypedObjectsCoexist(t *testing.T) {
	r := rand.New(rand.NewSource(4))
	for range 100000 {
		c := randomRetyping(r)
		list, err := c.call()
		if err != api.OK {
			continue
		}
		next := c.src.Base + c.offset
		for i, made := range list {
			if !captype.Valid(made) || !captype.Coexist(c.src, made) || !memrange.Contains(captype.Range(c.src), captype.Range(made)) || made.Base != next {
				t.Errorf("%+v: %+v", c, made)
			}
			for _, other := range list[:i] {
				if !captype.Coexist(made, other) || captype.SameObject(made, other) || memrange.Overlaps(captype.Range(made), captype.Range(other)) {
					t.Errorf("%+v: %+v and %+v", c, made, other)
				}
			}
			next += 1 << made.Bits
		}
	}
}
