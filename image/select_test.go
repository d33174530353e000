package image_test

import (
	"math"
	"math/rand"
	"testing"

	"multikernel/api"
	"multikernel/image"
)

// P8.4

func TestFind(t *testing.T) {
	modules := append(sample(), sample()...)
	for i, m := range sample() {
		if got, ok := image.Find(modules, m.Name, m.Width); got != i || !ok {
			t.Error(m, got, ok)
		}
		if got, ok := image.Find(modules[i+1:], m.Name, m.Width); got != len(sample())-1 || !ok {
			t.Error(m, got, ok)
		}
		for _, width := range []int{-1, 1, 31, 33, 40, 1<<32 + 32, math.MaxInt, math.MinInt} {
			checkNotFound(t, modules, m.Name, width)
		}
	}
	for _, name := range []string{"", "Init", "ini", "initx", "init ", "init\x00", "abcdefghijklmnopqrstuvw", "none"} {
		for _, width := range []int{0, 32, 39} {
			checkNotFound(t, modules, name, width)
		}
	}
	checkNotFound(t, modules, "cpu", 0)
	checkNotFound(t, modules, "_", 32)
	checkNotFound(t, nil, "", 0)
	checkNotFound(t, []api.Module{}, "init", 32)
}

func checkNotFound(t *testing.T, modules []api.Module, name string, width int) {
	t.Helper()
	if got, ok := image.Find(modules, name, width); got != 0 || ok {
		t.Errorf("%q, %d: %d, %v", name, width, got, ok)
	}
}

func TestSelect(t *testing.T) {
	modules := sample()
	for width, indices := range map[int][]int{32: {0, 3, 4, 5, 6}, 39: {1, 2, 4, 5, 6}, 0: {4, 5, 6}, 7: {4, 5, 6}, -32: {4, 5, 6}, 1<<32 + 32: {4, 5, 6}} {
		var want []api.Module
		for _, i := range indices {
			want = append(want, modules[i])
		}
		if got := image.Select(modules, width); !sameModules(got, want) {
			t.Errorf("width %d: %v, want %v", width, got, want)
		}
		if got := image.Select(modules[:4], 7); len(got) != 0 {
			t.Errorf("width 7: %v", got)
		}
		if got := image.Select(nil, width); len(got) != 0 {
			t.Errorf("width %d: %v", width, got)
		}
	}
}

// Find and Select do not ask whether Build would accept the modules.
func TestOddModules(t *testing.T) {
	modules := []api.Module{
		{Name: "a\x00", Kind: 9, Width: -5, Entry: -1, Data: []byte("1")}, {Name: "", Width: math.MinInt}, {Name: "", Width: math.MaxInt, Entry: 3},
		{Name: "a\x00", Kind: -9, Width: -5}, {}, {Name: "", Width: math.MaxInt},
	}
	for i, want := range []int{0, 1, 2, 0, 4, 2} {
		if got, ok := image.Find(modules, modules[i].Name, modules[i].Width); got != want || !ok {
			t.Error(i, got, ok)
		}
	}
	if got := image.Select(modules, -5); !sameModules(got, []api.Module{modules[0], modules[3], modules[4]}) {
		t.Error(got)
	}
	if got := image.Select(modules, math.MaxInt); !sameModules(got, []api.Module{modules[2], modules[4], modules[5]}) {
		t.Error(got)
	}
	if got := image.Select(modules, 0); !sameModules(got, modules[4:5]) {
		t.Error(got)
	}
}

func TestSelectAgainstReference(t *testing.T) {
	r := rand.New(rand.NewSource(6))
	for range 1000 {
		modules, width := randomModules(r), pick(r, []int{0, 32, 39, 33})
		var want []api.Module
		for _, m := range modules {
			if m.Width == 0 || m.Width == width {
				want = append(want, m)
			}
		}
		if got := image.Select(modules, width); !sameModules(got, want) {
			t.Errorf("width %d: %v, want %v", width, got, want)
		}
	}
}
