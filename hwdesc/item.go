package hwdesc

import (
	"math"

	"multikernel/api"
)

// item is an item of any kind as the text has it, so that all kinds are read and written alike.
type item struct {
	kind    string
	name    string     // of a cache, memory or device
	numbers []uint64   // of a core or link
	values  [][]uint64 // of each attribute, in the order of attributeWords
}

// attributeWords returns the attributes of a kind of item, or nil if there is no such kind.
func attributeWords(kind string) []string {
	switch kind {
	case "core":
		return []string{"width", "node", "speed"}
	case "cache":
		return []string{"level", "line", "size", "cores"}
	case "link":
		return []string{"latency"}
	case "memory":
		return []string{"base", "size", "node", "latency"}
	case "device":
		return []string{"node", "irq", "base", "size"}
	}
	return nil
}

// headNumbers returns how many numbers follow the kind of an item; the kinds without numbers have a name.
func headNumbers(kind string) int {
	switch kind {
	case "core":
		return 1
	case "link":
		return 2
	}
	return 0
}

// fits reports whether an attribute may have the value. The numbers of an item itself have no attribute.
func fits(attribute string, value uint64) bool {
	return value <= math.MaxInt32 || attribute == "base" || attribute == "size"
}

// items returns the items of h in the order in which they are written.
func items(h api.Hardware) []item {
	var list []item
	for _, c := range h.Cores {
		list = append(list, item{kind: "core", numbers: raw(c.ID), values: [][]uint64{raw(c.Width), raw(c.Node), raw(c.Speed)}})
	}
	for _, c := range h.Caches {
		list = append(list, item{kind: "cache", name: c.Name, values: [][]uint64{raw(c.Level), raw(c.Line), {c.Size}, raw(c.Cores...)}})
	}
	for _, l := range h.Links {
		list = append(list, item{kind: "link", numbers: raw(l.A, l.B), values: [][]uint64{raw(l.Latency)}})
	}
	for _, m := range h.Memories {
		list = append(list, item{kind: "memory", name: m.Name, values: [][]uint64{{m.Base}, {m.Size}, raw(m.Node), raw(m.Latency)}})
	}
	for _, d := range h.Devices {
		list = append(list, item{kind: "device", name: d.Name, values: [][]uint64{raw(d.Node), raw(d.IRQ), {d.Base}, {d.Size}}})
	}
	return list
}

// addTo appends the item to the list of its kind in h.
func (it item) addTo(h *api.Hardware) {
	wide := func(i int) uint64 { return it.values[i][0] }
	small := func(i int) int { return int(it.values[i][0]) }
	switch it.kind {
	case "core":
		h.Cores = append(h.Cores, api.Core{ID: int(it.numbers[0]), Width: small(0), Node: small(1), Speed: small(2)})
	case "cache":
		h.Caches = append(h.Caches, api.Cache{Name: it.name, Level: small(0), Line: small(1), Size: wide(2), Cores: ints(it.values[3])})
	case "link":
		h.Links = append(h.Links, api.Link{A: int(it.numbers[0]), B: int(it.numbers[1]), Latency: small(0)})
	case "memory":
		h.Memories = append(h.Memories, api.Memory{Name: it.name, Base: wide(0), Size: wide(1), Node: small(2), Latency: small(3)})
	case "device":
		h.Devices = append(h.Devices, api.Device{Name: it.name, Node: small(0), IRQ: small(1), Base: wide(2), Size: wide(3)})
	}
}

// raw converts numbers so that a negative one wraps around to one that does not fit.
func raw(numbers ...int) []uint64 {
	list := make([]uint64, len(numbers))
	for i, n := range numbers {
		list[i] = uint64(n)
	}
	return list
}

func ints(values []uint64) []int {
	list := make([]int, len(values))
	for i, v := range values {
		list[i] = int(v)
	}
	return list
}
