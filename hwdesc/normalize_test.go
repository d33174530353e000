package hwdesc_test

import (
	"math"
	"math/rand"
	"slices"
	"testing"

	"multikernel/api"
	"multikernel/hwdesc"
)

// P3.5 Normalize

func TestNormalizeSample(t *testing.T) {
	h := sample()
	h.Caches[0].Cores = []int{5, 0, 2}
	want := sample()
	slices.Reverse(want.Memories)
	slices.Reverse(want.Devices)
	want.Cores = []api.Core{want.Cores[1], want.Cores[2], want.Cores[0]}
	want.Caches = []api.Cache{want.Caches[2], want.Caches[1], want.Caches[0]}
	want.Links = []api.Link{{A: 0, B: 7, Latency: 40}, {A: 1, B: 7, Latency: 30}}
	if got := hwdesc.Normalize(h); !same(got, want) {
		t.Error(got)
	}
	if got := hwdesc.Normalize(want); !same(got, want) {
		t.Error(got)
	}
}

func TestNormalizeEmpty(t *testing.T) {
	if got := hwdesc.Normalize(api.Hardware{}); !same(got, api.Hardware{}) {
		t.Error(got)
	}
	h := api.Hardware{Name: "\xff", Caches: []api.Cache{{Name: "b"}, {Name: "a", Cores: []int{}}}}
	if got := hwdesc.Normalize(h); !same(got, api.Hardware{Name: "\xff", Caches: []api.Cache{{Name: "a"}, {Name: "b"}}}) {
		t.Error(got)
	}
}

func TestNormalizeCachesByLevelThenName(t *testing.T) {
	h := api.Hardware{Caches: []api.Cache{{Name: "b", Level: 2}, {Name: "a", Level: 2}, {Name: "z", Level: 1}, {Name: "", Level: 3}, {Name: "B", Level: 2}, {Name: "aa", Level: 2}, {Name: "y", Level: -1}}}
	var names string
	for _, c := range hwdesc.Normalize(h).Caches {
		names += c.Name + " "
	}
	if names != "y z B a aa b  " {
		t.Errorf("%q", names)
	}
}

func TestNormalizeLinks(t *testing.T) {
	h := api.Hardware{Links: []api.Link{{A: 9, B: 1, Latency: 1}, {A: 1, B: 5, Latency: 2}, {A: 0, B: 8, Latency: 3}, {A: 1, B: 1, Latency: 4}, {A: 5, B: 1, Latency: 5}, {A: 1, B: -3, Latency: 6}}}
	want := []api.Link{{A: -3, B: 1, Latency: 6}, {A: 0, B: 8, Latency: 3}, {A: 1, B: 1, Latency: 4}, {A: 1, B: 5, Latency: 2}, {A: 1, B: 5, Latency: 5}, {A: 1, B: 9, Latency: 1}}
	if got := hwdesc.Normalize(h).Links; !slices.Equal(got, want) {
		t.Error(got)
	}
}

// TestNormalizeIsStable has many elements with few keys, since a sort that is not stable keeps the order of short lists.
func TestNormalizeIsStable(t *testing.T) {
	const n = 500
	var h api.Hardware
	for i := range n {
		k := i * 7 % 3
		h.Cores = append(h.Cores, api.Core{ID: k, Speed: i})
		h.Caches = append(h.Caches, api.Cache{Name: "c", Level: k, Line: i})
		h.Links = append(h.Links, api.Link{A: i % 2 * k, B: (i + 1) % 2 * k, Latency: i})
		h.Memories = append(h.Memories, api.Memory{Base: uint64(k), Latency: i})
		h.Devices = append(h.Devices, api.Device{IRQ: k, Node: i})
	}
	got := hwdesc.Normalize(h)
	for i := 1; i < n; i++ {
		a, b := i-1, i
		for _, ordered := range []bool{
			rises(got.Cores[a].ID, got.Cores[a].Speed, got.Cores[b].ID, got.Cores[b].Speed),
			rises(got.Caches[a].Level, got.Caches[a].Line, got.Caches[b].Level, got.Caches[b].Line),
			rises(got.Links[a].B, got.Links[a].Latency, got.Links[b].B, got.Links[b].Latency),
			rises(int(got.Memories[a].Base), got.Memories[a].Latency, int(got.Memories[b].Base), got.Memories[b].Latency),
			rises(got.Devices[a].IRQ, got.Devices[a].Node, got.Devices[b].IRQ, got.Devices[b].Node),
		} {
			if !ordered {
				t.Fatal(i, got)
			}
		}
	}
}

func rises(key1, place1, key2, place2 int) bool {
	return key1 < key2 || key1 == key2 && place1 < place2
}

func TestNormalizeExtremeNumbers(t *testing.T) {
	h := api.Hardware{
		Cores:    []api.Core{{ID: math.MaxInt}, {ID: math.MinInt}, {ID: 0}},
		Caches:   []api.Cache{{Level: math.MaxInt, Cores: []int{math.MaxInt, 0, math.MinInt}}, {Level: math.MinInt}},
		Links:    []api.Link{{A: math.MaxInt, B: math.MinInt}, {A: math.MinInt, B: 0}},
		Memories: []api.Memory{{Base: math.MaxUint64}, {Base: 1 << 63}, {Base: 1}},
		Devices:  []api.Device{{IRQ: math.MaxInt}, {IRQ: math.MinInt}},
	}
	want := api.Hardware{
		Cores:    []api.Core{{ID: math.MinInt}, {ID: 0}, {ID: math.MaxInt}},
		Caches:   []api.Cache{{Level: math.MinInt}, {Level: math.MaxInt, Cores: []int{math.MinInt, 0, math.MaxInt}}},
		Links:    []api.Link{{A: math.MinInt, B: 0}, {A: math.MinInt, B: math.MaxInt}},
		Memories: []api.Memory{{Base: 1}, {Base: 1 << 63}, {Base: math.MaxUint64}},
		Devices:  []api.Device{{IRQ: math.MinInt}, {IRQ: math.MaxInt}},
	}
	if got := hwdesc.Normalize(h); !same(got, want) {
		t.Error(got)
	}
}

func TestNormalizeSharesNothing(t *testing.T) {
	for _, h := range []api.Hardware{sample(), hwdesc.Normalize(sample())} {
		before := clone(h)
		n := hwdesc.Normalize(h)
		want := clone(n)
		if !same(h, before) {
			t.Error("the argument was changed", h)
		}
		for _, p := range smallFields(&n) {
			*p = -1
		}
		for _, p := range itemNames(&n) {
			*p = ""
		}
		for i := range n.Caches {
			n.Caches[i].Cores = append(n.Caches[i].Cores, -1, -2)
		}
		if !same(h, before) {
			t.Error("the result shares memory with the argument", h)
		}
		if again := hwdesc.Normalize(h); !same(again, want) {
			t.Error(again)
		}
	}
}

// P3.5 Equal

func TestEqual(t *testing.T) {
	check := func(a, b api.Hardware, want bool) {
		t.Helper()
		if hwdesc.Equal(a, b) != want || hwdesc.Equal(b, a) != want {
			t.Errorf("%v, %v: not %v", a, b, want)
		}
	}
	check(sample(), sample(), true)
	check(api.Hardware{}, api.Hardware{Cores: []api.Core{}, Caches: []api.Cache{}, Links: []api.Link{}, Memories: []api.Memory{}, Devices: []api.Device{}}, true)
	check(api.Hardware{Caches: []api.Cache{{}}}, api.Hardware{Caches: []api.Cache{{Cores: []int{}}}}, true)
	whole := sample()
	for i := range smallFields(&whole) {
		h := sample()
		*smallFields(&h)[i]++
		check(sample(), h, false)
	}
	for i := range wideFields(&whole) {
		h := sample()
		*wideFields(&h)[i]++
		check(sample(), h, false)
	}
	for i := range itemNames(&whole) {
		h := sample()
		*itemNames(&h)[i] += "x"
		check(sample(), h, false)
	}
	for i, change := range []func(h *api.Hardware){
		func(h *api.Hardware) { h.Name = "" },
		func(h *api.Hardware) { h.Cores = h.Cores[:2] },
		func(h *api.Hardware) { h.Caches = h.Caches[:2] },
		func(h *api.Hardware) { h.Links = h.Links[:1] },
		func(h *api.Hardware) { h.Memories = h.Memories[:1] },
		func(h *api.Hardware) { h.Devices = nil },
		func(h *api.Hardware) { h.Caches[0].Cores = h.Caches[0].Cores[:2] },
		func(h *api.Hardware) { slices.Reverse(h.Caches[0].Cores) },
		func(h *api.Hardware) { slices.Reverse(h.Cores) },
		func(h *api.Hardware) { slices.Reverse(h.Caches) },
		func(h *api.Hardware) { slices.Reverse(h.Links) },
		func(h *api.Hardware) { h.Links[0].A, h.Links[0].B = h.Links[0].B, h.Links[0].A },
		func(h *api.Hardware) { slices.Reverse(h.Memories) },
		func(h *api.Hardware) { slices.Reverse(h.Devices) },
	} {
		h := sample()
		change(&h)
		if same(h, sample()) {
			t.Fatal("change", i, "has no effect")
		}
		check(sample(), h, false)
	}
}

// P3.6

func TestNormalizeIsIdempotent(t *testing.T) {
	r := rand.New(rand.NewSource(2))
	for range 2000 {
		h := randomPrintable(r)
		once := hwdesc.Normalize(h)
		if twice := hwdesc.Normalize(once); !same(once, twice) || !hwdesc.Equal(once, twice) {
			t.Fatal(h, once, twice)
		}
	}
}
