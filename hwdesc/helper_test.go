package hwdesc_test

import (
	"math/rand"
	"slices"
	"strings"
	"testing"

	"multikernel/api"
	"multikernel/hwdesc"
)

// sample returns a valid description with several items of each kind, none of them in the order of Normalize.
func sample() api.Hardware {
	return api.Hardware{
		Name:  "board 7",
		Cores: []api.Core{{ID: 5, Width: 39, Node: 1, Speed: 700}, {ID: 0, Width: 32, Node: 0, Speed: 100}, {ID: 2, Width: 32, Node: 0, Speed: 200}},
		Caches: []api.Cache{
			{Name: "shared", Level: 3, Line: 128, Size: 1 << 20, Cores: []int{0, 2, 5}},
			{Name: "left", Level: 1, Line: 64, Size: 32768, Cores: []int{0, 2}},
			{Name: "c5", Level: 1, Line: 16, Size: 4096, Cores: []int{5}},
		},
		Links:    []api.Link{{A: 7, B: 1, Latency: 30}, {A: 0, B: 7, Latency: 40}},
		Memories: []api.Memory{{Name: "high", Base: 1 << 30, Size: 1 << 24, Node: 1, Latency: 90}, {Name: "low", Base: 1 << 20, Size: 1 << 20, Node: 0, Latency: 80}},
		Devices:  []api.Device{{Name: "uart", Node: 7, IRQ: 9, Base: 0, Size: 4096}, {Name: "timer", Node: 0, IRQ: 3, Base: 8192, Size: 12288}},
	}
}

const sampleText = `machine "board 7" {
	core 5 { width 39; node 1; speed 700; }
	core 0 { width 32; node 0; speed 100; }
	core 2 { width 32; node 0; speed 200; }
	cache shared { level 3; line 128; size 1048576; cores 0, 2, 5; }
	cache left { level 1; line 64; size 32768; cores 0, 2; }
	cache c5 { level 1; line 16; size 4096; cores 5; }
	link 7 1 { latency 30; }
	link 0 7 { latency 40; }
	memory high { base 1073741824; size 16777216; node 1; latency 90; }
	memory low { base 1048576; size 1048576; node 0; latency 80; }
	device uart { node 7; irq 9; base 0; size 4096; }
	device timer { node 0; irq 3; base 8192; size 12288; }
}
`

// same compares without hwdesc.Equal, so that a fault in Equal hides no other one.
func same(a, b api.Hardware) bool {
	sameCache := func(x, y api.Cache) bool {
		return x.Name == y.Name && x.Level == y.Level && x.Line == y.Line && x.Size == y.Size && slices.Equal(x.Cores, y.Cores)
	}
	return a.Name == b.Name && slices.Equal(a.Cores, b.Cores) && slices.EqualFunc(a.Caches, b.Caches, sameCache) &&
		slices.Equal(a.Links, b.Links) && slices.Equal(a.Memories, b.Memories) && slices.Equal(a.Devices, b.Devices)
}

func clone(h api.Hardware) api.Hardware {
	h.Cores, h.Caches, h.Links = slices.Clone(h.Cores), slices.Clone(h.Caches), slices.Clone(h.Links)
	h.Memories, h.Devices = slices.Clone(h.Memories), slices.Clone(h.Devices)
	for i := range h.Caches {
		h.Caches[i].Cores = slices.Clone(h.Caches[i].Cores)
	}
	return h
}

// smallFields returns all numbers of h that are at most 2^31 - 1 in a text.
func smallFields(h *api.Hardware) []*int {
	var list []*int
	for i := range h.Cores {
		c := &h.Cores[i]
		list = append(list, &c.ID, &c.Width, &c.Node, &c.Speed)
	}
	for i := range h.Caches {
		c := &h.Caches[i]
		list = append(list, &c.Level, &c.Line)
		for j := range c.Cores {
			list = append(list, &c.Cores[j])
		}
	}
	for i := range h.Links {
		l := &h.Links[i]
		list = append(list, &l.A, &l.B, &l.Latency)
	}
	for i := range h.Memories {
		list = append(list, &h.Memories[i].Node, &h.Memories[i].Latency)
	}
	for i := range h.Devices {
		list = append(list, &h.Devices[i].Node, &h.Devices[i].IRQ)
	}
	return list
}

// wideFields returns all numbers of h that may be any in a text.
func wideFields(h *api.Hardware) []*uint64 {
	var list []*uint64
	for i := range h.Caches {
		list = append(list, &h.Caches[i].Size)
	}
	for i := range h.Memories {
		list = append(list, &h.Memories[i].Base, &h.Memories[i].Size)
	}
	for i := range h.Devices {
		list = append(list, &h.Devices[i].Base, &h.Devices[i].Size)
	}
	return list
}

// itemNames returns the names of the caches, memories and devices of h.
func itemNames(h *api.Hardware) []*string {
	var list []*string
	for i := range h.Caches {
		list = append(list, &h.Caches[i].Name)
	}
	for i := range h.Memories {
		list = append(list, &h.Memories[i].Name)
	}
	for i := range h.Devices {
		list = append(list, &h.Devices[i].Name)
	}
	return list
}

func checkParse(t *testing.T, src string, want api.Hardware) {
	t.Helper()
	got, pos, err := hwdesc.Parse(src)
	if err != api.OK || pos != (api.Pos{}) || !same(got, want) {
		t.Errorf("%.200q: %v, error %d at %v, want %v", src, got, err, pos, want)
	}
}

// checkParseError checks that Parse returns nothing but an error and its position.
func checkParseError(t *testing.T, src string, line, col int, want api.Errno) {
	t.Helper()
	got, pos, err := hwdesc.Parse(src)
	if !same(got, api.Hardware{}) || err != want || pos != (api.Pos{Line: line, Col: col}) {
		t.Errorf("%.200q: %v, error %d at %v, want %d at %d:%d", src, got, err, pos, want, line, col)
	}
}

// randomName returns a word of at most MaxNameLen bytes, sometimes one that the grammar uses itself.
func randomName(r *rand.Rand) string {
	if r.Intn(4) == 0 {
		words := strings.Fields("machine core cache link memory device width node speed level line size cores latency base irq")
		return words[r.Intn(len(words))]
	}
	const first = "_abcxyzABCXYZ"
	name := first[r.Intn(len(first)):][:1]
	for range r.Intn(api.MaxNameLen) {
		name += (first + "0189")[r.Intn(len(first)+4):][:1]
	}
	return name
}

// randomPrintable returns a description that is printable but rarely valid.
func randomPrintable(r *rand.Rand) api.Hardware {
	small := func() int { return []int{0, 1, 2, 9, 10, 39, 1<<31 - 1, r.Intn(1 << 31)}[r.Intn(8)] }
	wide := func() uint64 { return []uint64{0, 1, 4096, 1 << 31, 1 << 40, 1<<64 - 1, r.Uint64()}[r.Intn(7)] }
	h := api.Hardware{}
	for range r.Intn(api.MaxNameLen + 1) {
		const inString = " !#$%'+-,;{}09AZ[]^_az|~"
		h.Name += inString[r.Intn(len(inString)):][:1]
	}
	for range r.Intn(4) {
		h.Cores = append(h.Cores, api.Core{ID: small(), Width: small(), Node: small(), Speed: small()})
	}
	for range r.Intn(4) {
		c := api.Cache{Name: randomName(r), Level: small(), Line: small(), Size: wide(), Cores: []int{small()}}
		for range r.Intn(4) {
			c.Cores = append(c.Cores, small())
		}
		h.Caches = append(h.Caches, c)
	}
	for range r.Intn(4) {
		h.Links = append(h.Links, api.Link{A: small(), B: small(), Latency: small()})
	}
	for range r.Intn(4) {
		h.Memories = append(h.Memories, api.Memory{Name: randomName(r), Base: wide(), Size: wide(), Node: small(), Latency: small()})
	}
	for range r.Intn(4) {
		h.Devices = append(h.Devices, api.Device{Name: randomName(r), Node: small(), IRQ: small(), Base: wide(), Size: wide()})
	}
	return h
}
