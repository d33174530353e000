package hwdesc_test

import (
	"math"
	"math/rand"
	"strconv"
	"strings"
	"testing"

	"multikernel/api"
	"multikernel/hwdesc"
)

type change func(h *api.Hardware)

// checkChanges checks what Validate returns for the sample after each of the changes alone.
func checkChanges(t *testing.T, want api.Errno, changes ...change) {
	t.Helper()
	for i, c := range changes {
		h := sample()
		c(&h)
		before := clone(h)
		if err := hwdesc.Validate(h); err != want {
			t.Errorf("change %d: %d, want %d", i, err, want)
		}
		if !same(h, before) {
			t.Errorf("change %d: the argument was changed", i)
		}
	}
}

// numbers returns a change to each of the numbers.
func numbers[T any](field func(h *api.Hardware) *T, values ...T) []change {
	var list []change
	for _, v := range values {
		list = append(list, func(h *api.Hardware) { *field(h) = v })
	}
	return list
}

// outside checks that the numbers from low to high are accepted and others are not.
func outside(t *testing.T, low, high int, field func(h *api.Hardware) *int) {
	t.Helper()
	checkChanges(t, api.ErrRange, numbers(field, low-1, high+1, -low-1, math.MinInt, math.MaxInt, high+1<<32)...)
	for _, n := range []int{low, high} {
		h := sample()
		*field(&h) = n
		if err := hwdesc.Validate(h); err == api.ErrRange || err == api.ErrName || err == api.ErrLimit {
			t.Errorf("%d: %d", n, err)
		}
	}
}

// P3.4

func TestValidateSample(t *testing.T) { checkChanges(t, api.OK, func(h *api.Hardware) {}) }

func TestValidateMachineName(t *testing.T) {
	checkChanges(t, api.ErrName, numbers(func(h *api.Hardware) *string { return &h.Name },
		"", "\t", "a\"", "\\", "\x7f", "\x00", "é", strings.Repeat("m", 25))...)
	checkChanges(t, api.OK, numbers(func(h *api.Hardware) *string { return &h.Name }, " ", "1", "~!{}#", strings.Repeat("m", 24))...)
}

func TestValidateItemNames(t *testing.T) {
	whole := sample()
	for i := range itemNames(&whole) {
		field := func(h *api.Hardware) *string { return itemNames(h)[i] }
		checkChanges(t, api.ErrName, numbers(field, "", "1", "a b", "a-", "é", strings.Repeat("a", 25))...)
		checkChanges(t, api.OK, numbers(field, "_", "core", "Z9", strings.Repeat("a", 24))...)
	}
}

// many returns a description with that many items of each kind, valid within the limits.
func many(cores, caches, memories, devices int) api.Hardware {
	h := api.Hardware{Name: "m"}
	for i := range cores {
		h.Cores = append(h.Cores, api.Core{ID: i % 32, Width: 32, Node: 0, Speed: 1})
	}
	for i := range caches {
		h.Caches = append(h.Caches, api.Cache{Name: "c" + strconv.Itoa(i), Level: 1 + i/16, Line: 64, Size: 64, Cores: []int{i % 16}})
	}
	for i := range memories {
		h.Memories = append(h.Memories, api.Memory{Name: "m" + strconv.Itoa(i), Base: uint64(i) << 12, Size: 4096, Latency: 1})
	}
	for i := range devices {
		h.Devices = append(h.Devices, api.Device{Name: "d" + strconv.Itoa(i), IRQ: i, Base: 1<<20 + uint64(i)<<12, Size: 4096})
	}
	return h
}

func TestValidateLimits(t *testing.T) {
	for _, c := range []struct {
		h    api.Hardware
		want api.Errno
	}{
		{many(1, 0, 0, 0), api.OK}, {many(32, 64, 64, 32), api.OK},
		{many(0, 0, 0, 0), api.ErrLimit}, {many(33, 0, 0, 0), api.ErrLimit}, {many(16, 65, 0, 0), api.ErrLimit},
		{many(1, 0, 65, 0), api.ErrLimit}, {many(1, 0, 0, 33), api.ErrLimit},
	} {
		if err := hwdesc.Validate(c.h); err != c.want {
			t.Error(len(c.h.Cores), len(c.h.Caches), len(c.h.Memories), len(c.h.Devices), err, c.want)
		}
	}
	checkChanges(t, api.ErrLimit, func(h *api.Hardware) { h.Cores = nil }, func(h *api.Hardware) { h.Cores = h.Cores[:0] })
	h := many(1, 0, 0, 0)
	for a := range 64 {
		for b := a + 1; b < 64 && b < a+5; b++ {
			h.Links = append(h.Links, api.Link{A: a, B: b, Latency: 1})
		}
	}
	for b := 10; len(h.Links) < api.MaxLinks; b++ {
		h.Links = append(h.Links, api.Link{A: 0, B: b, Latency: 1})
	}
	if err := hwdesc.Validate(h); err != api.OK {
		t.Error(len(h.Links), "links:", err)
	}
	h.Links = append(h.Links, api.Link{A: 1, B: 63, Latency: 1})
	if err := hwdesc.Validate(h); err != api.ErrLimit {
		t.Error(len(h.Links), "links:", err)
	}
}

func TestValidateCoreRanges(t *testing.T) {
	for i := range 3 {
		outside(t, 0, 31, func(h *api.Hardware) *int { return &h.Cores[i].ID })
		outside(t, 0, 63, func(h *api.Hardware) *int { return &h.Cores[i].Node })
		outside(t, 1, 1000000, func(h *api.Hardware) *int { return &h.Cores[i].Speed })
		width := func(h *api.Hardware) *int { return &h.Cores[i].Width }
		checkChanges(t, api.ErrRange, numbers(width, 0, 31, 33, 38, 40, 64, -32, math.MinInt, math.MaxInt)...)
		checkChanges(t, api.OK, numbers(width, 32, 39)...)
	}
}

func TestValidateCacheRanges(t *testing.T) {
	for i := range 3 {
		outside(t, 1, 4, func(h *api.Hardware) *int { return &h.Caches[i].Level })
		outside(t, 16, 256, func(h *api.Hardware) *int { return &h.Caches[i].Line })
		line := func(h *api.Hardware) *int { return &h.Caches[i].Line }
		checkChanges(t, api.ErrRange, numbers(line, 0, 1, 8, 17, 24, 48, 96, 255, 512, 1<<32)...)
		checkChanges(t, api.OK, numbers(line, 16, 32, 64, 128, 256)...)
		least := uint64(sample().Caches[i].Line)
		size := func(h *api.Hardware) *uint64 { return &h.Caches[i].Size }
		checkChanges(t, api.ErrRange, numbers(size, 0, least-1, 1<<40+1, math.MaxUint64)...)
		checkChanges(t, api.OK, numbers(size, least, least+1, 1<<40)...)
		checkChanges(t, api.ErrRange, func(h *api.Hardware) { h.Caches[i].Cores = nil }, func(h *api.Hardware) { h.Caches[i].Cores = []int{} })
	}
}

func TestValidateLinkRanges(t *testing.T) {
	for i := range 2 {
		outside(t, 0, 63, func(h *api.Hardware) *int { h.Links[i].B = 20; return &h.Links[i].A })
		outside(t, 0, 63, func(h *api.Hardware) *int { h.Links[i].A = 20; return &h.Links[i].B })
		outside(t, 1, 1000000, func(h *api.Hardware) *int { return &h.Links[i].Latency })
		checkChanges(t, api.ErrRange, func(h *api.Hardware) { h.Links[i].A = h.Links[i].B })
	}
}

func TestValidateMemoryRanges(t *testing.T) {
	for i := range 2 {
		outside(t, 0, 63, func(h *api.Hardware) *int { return &h.Memories[i].Node })
		outside(t, 1, 1000000, func(h *api.Hardware) *int { return &h.Memories[i].Latency })
		size := func(h *api.Hardware) *uint64 { return &h.Memories[i].Size }
		checkChanges(t, api.ErrRange, numbers(size, 0, 1, 2048, 4095, 1<<40, 1<<40+1, 1<<63, math.MaxUint64, math.MaxUint64-sample().Memories[i].Base+1)...)
		checkChanges(t, api.OK, numbers(size, 4096, 8192)...)
		base := func(h *api.Hardware) *uint64 { return &h.Memories[i].Base }
		last := 1<<40 - sample().Memories[i].Size
		checkChanges(t, api.ErrRange, numbers(base, last+1, 1<<40, 1<<40+1, 1<<63, math.MaxUint64, -sample().Memories[i].Size)...)
		checkChanges(t, api.OK, numbers(base, last)...)
	}
	checkChanges(t, api.OK, func(h *api.Hardware) {
		h.Memories, h.Devices = h.Memories[:1], nil
		h.Memories[0].Base, h.Memories[0].Size = 0, 1<<40
	})
}

func TestValidateDeviceRanges(t *testing.T) {
	for i := range 2 {
		outside(t, 0, 63, func(h *api.Hardware) *int { return &h.Devices[i].Node })
		outside(t, 0, 255, func(h *api.Hardware) *int { return &h.Devices[i].IRQ })
		size := func(h *api.Hardware) *uint64 { return &h.Devices[i].Size }
		checkChanges(t, api.ErrRange, numbers(size, 0, 1, 4095, 1<<40+1, 1<<63, math.MaxUint64, math.MaxUint64-sample().Devices[i].Base+1)...)
		checkChanges(t, api.OK, numbers(size, 4096, 8192)...)
		base := func(h *api.Hardware) *uint64 { return &h.Devices[i].Base }
		last := 1<<40 - sample().Devices[i].Size
		checkChanges(t, api.ErrRange, numbers(base, last+1, 1<<40, 1<<63, math.MaxUint64, -sample().Devices[i].Size)...)
		checkChanges(t, api.OK, numbers(base, last)...)
	}
}

func TestValidateAlignment(t *testing.T) {
	for i := range 2 {
		size := sample().Memories[i].Size
		checkChanges(t, api.ErrAlign, numbers(func(h *api.Hardware) *uint64 { return &h.Memories[i].Size }, 4097, 12288, 3<<18, size-1, size+1, size+4096)...)
		checkChanges(t, api.ErrAlign, numbers(func(h *api.Hardware) *uint64 { return &h.Memories[i].Base }, 1, 4096, size/2, 5*size/2)...)
		checkChanges(t, api.OK, numbers(func(h *api.Hardware) *uint64 { return &h.Memories[i].Base }, 3*size, 5*size)...)
		checkChanges(t, api.ErrAlign, numbers(func(h *api.Hardware) *uint64 { return &h.Devices[i].Size }, 4097, 8191, 12289, 4096+2048)...)
		checkChanges(t, api.ErrAlign, numbers(func(h *api.Hardware) *uint64 { return &h.Devices[i].Base }, 1, 64, 2048, 4095, 1<<30+1)...)
	}
	checkChanges(t, api.OK, numbers(func(h *api.Hardware) *uint64 { return &h.Devices[1].Base }, 4096, 20480)...)
	checkChanges(t, api.OK, numbers(func(h *api.Hardware) *uint64 { return &h.Devices[1].Size }, 4096, 5*4096)...)
}

func TestValidateDuplicates(t *testing.T) {
	checkChanges(t, api.ErrDuplicate,
		func(h *api.Hardware) { h.Cores[2].ID = 5 },
		func(h *api.Hardware) { h.Cores[0].ID = 0 },
		func(h *api.Hardware) { h.Caches[0].Name = "c5" },
		func(h *api.Hardware) { h.Memories[0].Name = "low" },
		func(h *api.Hardware) { h.Devices[0].Name = "timer" },
		func(h *api.Hardware) { h.Devices[0].IRQ = 3 },
		func(h *api.Hardware) { h.Links = append(h.Links, api.Link{A: 7, B: 1, Latency: 1}) },
		func(h *api.Hardware) { h.Links = append(h.Links, api.Link{A: 1, B: 7, Latency: 1}) },
		func(h *api.Hardware) { h.Links = append(h.Links, api.Link{A: 7, B: 0, Latency: 40}) },
		func(h *api.Hardware) { h.Caches[0].Cores = []int{0, 2, 2, 5} },
		func(h *api.Hardware) { h.Caches[0].Cores = []int{5, 2, 0, 5} },
		func(h *api.Hardware) { h.Caches[2].Cores = []int{-1, 5, -1} },
		func(h *api.Hardware) { h.Caches[2].Cores = make([]int, 1<<17) },
	)
	checkChanges(t, api.OK,
		func(h *api.Hardware) { h.Caches[0].Name, h.Memories[0].Name, h.Devices[0].Name = "x", "x", "x" },
		func(h *api.Hardware) { h.Links = append(h.Links, api.Link{A: 1, B: 0, Latency: 30}) },
		func(h *api.Hardware) { h.Caches[0].Name = "C5" },
	)
}

func TestValidateUnknownCores(t *testing.T) {
	checkChanges(t, api.ErrUnknown,
		func(h *api.Hardware) { h.Caches[0].Cores = []int{0, 1, 2, 5} },
		func(h *api.Hardware) { h.Caches[1].Cores = []int{3} },
		func(h *api.Hardware) { h.Caches[2].Cores = []int{-1} },
		func(h *api.Hardware) { h.Caches[2].Cores = []int{5, 32} },
		func(h *api.Hardware) { h.Caches[2].Cores = []int{5 + 64} },
		func(h *api.Hardware) { h.Caches[2].Cores = []int{math.MinInt} },
		func(h *api.Hardware) { h.Caches[2].Cores = []int{math.MaxInt} },
		func(h *api.Hardware) { h.Cores = h.Cores[:2] },
		func(h *api.Hardware) { h.Caches[2].Cores = make([]int, 1<<17); count(h.Caches[2].Cores) },
	)
}

// count makes the list 0, 1, 2 ..
func count(list []int) {
	for i := range list {
		list[i] = i
	}
}

func TestValidateHierarchy(t *testing.T) {
	cache := func(name string, level int, cores ...int) api.Cache {
		return api.Cache{Name: name, Level: level, Line: 16, Size: 16, Cores: cores}
	}
	for i, c := range []struct {
		want   api.Errno
		caches []api.Cache
	}{
		{api.OK, []api.Cache{cache("a", 1, 0), cache("b", 1, 2), cache("c", 1, 5)}},
		{api.OK, []api.Cache{cache("a", 1, 0), cache("b", 2, 0), cache("c", 4, 0)}},
		{api.OK, []api.Cache{cache("a", 1, 0, 2), cache("b", 4, 0, 2, 5)}},
		{api.OK, []api.Cache{cache("a", 4, 0, 2, 5), cache("b", 3, 0, 5), cache("c", 2, 2), cache("d", 2, 5)}},
		{api.OK, []api.Cache{cache("a", 1, 0, 2), cache("b", 2, 5)}},
		{api.OK, []api.Cache{cache("a", 2, 0, 2), cache("b", 1, 5)}},
		{api.ErrHierarchy, []api.Cache{cache("a", 1, 2, 0)}},
		{api.ErrHierarchy, []api.Cache{cache("a", 1, 0, 5, 2)}},
		{api.ErrHierarchy, []api.Cache{cache("a", 1, 0), cache("b", 1, 5, 2)}},
		{api.ErrHierarchy, []api.Cache{cache("a", 1, 0), cache("b", 1, 0)}},
		{api.ErrHierarchy, []api.Cache{cache("a", 3, 0, 2), cache("b", 3, 2, 5)}},
		{api.ErrHierarchy, []api.Cache{cache("a", 3, 2), cache("b", 1, 0), cache("c", 3, 0, 2, 5)}},
		{api.ErrHierarchy, []api.Cache{cache("a", 1, 0, 2), cache("b", 2, 0)}},
		{api.ErrHierarchy, []api.Cache{cache("a", 2, 0), cache("b", 1, 0, 2)}},
		{api.ErrHierarchy, []api.Cache{cache("a", 1, 0, 2), cache("b", 2, 2, 5)}},
		{api.ErrHierarchy, []api.Cache{cache("a", 1, 0), cache("b", 2, 0, 2), cache("c", 3, 0, 5)}},
		{api.ErrHierarchy, []api.Cache{cache("a", 1, 0, 5), cache("b", 2, 2), cache("c", 3, 0, 2)}},
	} {
		h := sample()
		h.Caches = c.caches
		if err := hwdesc.Validate(h); err != c.want {
			t.Errorf("case %d: %d, want %d", i, err, c.want)
		}
	}
	h := many(32, 0, 0, 0)
	whole := make([]int, 32)
	count(whole)
	h.Caches = []api.Cache{cache("a", 2, whole...), cache("b", 1, 31), cache("c", 1, whole[:31]...)}
	if err := hwdesc.Validate(h); err != api.OK {
		t.Error(err)
	}
	h.Caches[2].Cores = whole
	if err := hwdesc.Validate(h); err != api.ErrHierarchy {
		t.Error(err)
	}
}

func TestValidateOverlap(t *testing.T) {
	memories := func(bases ...uint64) change {
		return func(h *api.Hardware) {
			h.Memories[0].Base, h.Memories[0].Size, h.Memories[1].Base, h.Memories[1].Size = bases[0], bases[1], bases[2], bases[3]
		}
	}
	devices := func(bases ...uint64) change {
		return func(h *api.Hardware) {
			h.Devices[0].Base, h.Devices[0].Size, h.Devices[1].Base, h.Devices[1].Size = bases[0], bases[1], bases[2], bases[3]
		}
	}
	mixed := func(bases ...uint64) change {
		return func(h *api.Hardware) {
			h.Memories, h.Devices = h.Memories[:1], h.Devices[:1]
			h.Memories[0].Base, h.Memories[0].Size, h.Devices[0].Base, h.Devices[0].Size = bases[0], bases[1], bases[2], bases[3]
		}
	}
	checkChanges(t, api.ErrOverlap,
		memories(1<<20, 1<<20, 1<<20, 1<<20), memories(1<<20, 1<<20, 1<<20, 4096), memories(1<<20, 4096, 1<<20, 1<<20),
		memories(1<<20, 1<<20, 1<<21-4096, 4096), memories(1<<21-4096, 4096, 1<<20, 1<<20), memories(0, 1<<40, 1<<30, 4096),
		devices(0, 8192, 4096, 4096), devices(4096, 4096, 0, 8192), devices(0, 8192, 4096, 8192), devices(4096, 8192, 0, 8192), devices(4096, 4096, 4096, 4096), devices(0, 16384, 4096, 4096),
		mixed(8192, 8192, 4096, 8192), mixed(8192, 8192, 12288, 8192), mixed(8192, 8192, 4096, 16384), mixed(8192, 8192, 12288, 4096), mixed(8192, 8192, 8192, 8192), mixed(0, 1<<40, 1<<40-4096, 4096),
	)
	checkChanges(t, api.OK,
		memories(1<<20, 1<<20, 1<<21, 1<<20), memories(1<<21, 1<<20, 1<<20, 1<<20),
		devices(0, 8192, 8192, 4096), devices(8192, 4096, 0, 8192),
		mixed(8192, 8192, 4096, 4096), mixed(8192, 8192, 16384, 4096),
	)
}

func TestValidateConnection(t *testing.T) {
	checkChanges(t, api.ErrDisconnected,
		func(h *api.Hardware) { h.Links = nil },
		func(h *api.Hardware) { h.Links = h.Links[:1] },
		func(h *api.Hardware) { h.Links = h.Links[1:] },
		func(h *api.Hardware) { h.Links[0].A = 8 },
		func(h *api.Hardware) { h.Cores[2].Node = 63 },
		func(h *api.Hardware) { h.Cores[0].Node = 63 },
		func(h *api.Hardware) { h.Memories[0].Node = 2 },
		func(h *api.Hardware) { h.Devices[1].Node = 2 },
		func(h *api.Hardware) {
			h.Memories[0].Node, h.Links = 2, append(h.Links, api.Link{A: 2, B: 3, Latency: 1})
		},
		func(h *api.Hardware) {
			h.Memories[0].Node, h.Memories[1].Node, h.Devices[0].Node, h.Devices[1].Node = 1, 1, 1, 1
			h.Links = []api.Link{{A: 1, B: 2, Latency: 1}}
		},
	)
	checkChanges(t, api.OK,
		func(h *api.Hardware) { h.Links = append(h.Links, api.Link{A: 40, B: 41, Latency: 1}) },
		func(h *api.Hardware) {
			h.Links = []api.Link{{A: 62, B: 7, Latency: 1}, {A: 1, B: 63, Latency: 1}, {A: 30, B: 0, Latency: 1}, {A: 62, B: 63, Latency: 1}, {A: 30, B: 62, Latency: 1}}
		},
		func(h *api.Hardware) {
			h.Links = nil
			for _, p := range []*int{&h.Cores[0].Node, &h.Cores[1].Node, &h.Cores[2].Node, &h.Memories[0].Node, &h.Memories[1].Node, &h.Devices[0].Node, &h.Devices[1].Node} {
				*p = 63
			}
		},
	)
	chain := many(2, 0, 0, 0)
	chain.Cores[0].Node, chain.Cores[1].Node = 0, 63
	for a := 62; a >= 0; a-- {
		chain.Links = append(chain.Links, api.Link{A: a, B: a + 1, Latency: 1})
	}
	if err := hwdesc.Validate(chain); err != api.OK {
		t.Error(err)
	}
	chain.Links = append(chain.Links[:30], chain.Links[31:]...)
	if err := hwdesc.Validate(chain); err != api.ErrDisconnected {
		t.Error(err)
	}
}

// TestValidateOrder combines faults that do not touch one another's items: the first error of the list is returned.
func TestValidateOrder(t *testing.T) {
	faults := []struct {
		want api.Errno
		add  change
	}{
		{api.ErrName, func(h *api.Hardware) { h.Name = "" }},
		{api.ErrName, func(h *api.Hardware) {
			h.Devices = append(h.Devices, api.Device{Name: "1", IRQ: 200, Base: 1 << 34, Size: 4096})
		}},
		{api.ErrLimit, func(h *api.Hardware) {
			for i := range api.MaxLinks {
				h.Links = append(h.Links, api.Link{A: 10 + i%16, B: 30 + i/16, Latency: 1})
			}
		}},
		{api.ErrRange, func(h *api.Hardware) { h.Cores[1].Speed = 0 }},
		{api.ErrRange, func(h *api.Hardware) { h.Links = append(h.Links, api.Link{A: 7, B: -1, Latency: 1}) }},
		{api.ErrAlign, func(h *api.Hardware) {
			h.Memories = append(h.Memories, api.Memory{Name: "odd", Base: 1 << 33, Size: 4097, Latency: 1})
		}},
		{api.ErrDuplicate, func(h *api.Hardware) { h.Cores = append(h.Cores, h.Cores[0]) }},
		{api.ErrDuplicate, func(h *api.Hardware) { h.Caches[1].Cores = []int{0, 2, 2} }},
		{api.ErrUnknown, func(h *api.Hardware) { h.Caches[2].Cores = []int{6} }},
		{api.ErrHierarchy, func(h *api.Hardware) { h.Caches[0].Cores = []int{2, 0, 5} }},
		{api.ErrOverlap, func(h *api.Hardware) {
			h.Memories = append(h.Memories, api.Memory{Name: "twice", Base: 1 << 20, Size: 4096, Latency: 1})
		}},
		{api.ErrDisconnected, func(h *api.Hardware) { h.Cores[2].Node = 63 }},
	}
	for i, a := range faults {
		for _, b := range faults[i:] {
			h := sample()
			a.add(&h)
			if a.want != b.want {
				b.add(&h)
			}
			if err := hwdesc.Validate(h); err != a.want {
				t.Errorf("%d and %d: %d", a.want, b.want, err)
			}
		}
	}
	h := sample()
	for i := len(faults) - 1; i >= 0; i-- {
		faults[i].add(&h)
		if err := hwdesc.Validate(h); err != faults[i].want {
			t.Errorf("from %d on: %d", faults[i].want, err)
		}
	}
}

// P3.6: Normalize does not change the result, the order of a cache's cores aside.

func TestNormalizeKeepsValidity(t *testing.T) {
	r := rand.New(rand.NewSource(5))
	for range 20000 {
		h := randomNearlyValid(r)
		before, after := hwdesc.Validate(h), hwdesc.Validate(hwdesc.Normalize(h))
		if before == api.ErrHierarchy && after != api.ErrHierarchy {
			for i := range h.Caches {
				h.Caches[i].Cores = hwdesc.Normalize(api.Hardware{Caches: h.Caches[i : i+1]}).Caches[0].Cores
			}
			before = hwdesc.Validate(h)
		}
		if before != after {
			t.Fatalf("%v: %d, normalized %d", h, before, after)
		}
	}
}
