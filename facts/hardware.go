package facts

import (
	"slices"

	"multikernel/api"
	"multikernel/hwdesc"
)

// FromHardware returns the facts of h, which must be valid.
func FromHardware(h api.Hardware) ([]api.Fact, api.Errno) {
	if err := hwdesc.Validate(h); err != api.OK {
		return nil, err
	}
	list := []api.Fact{fact("machine", word(h.Name))}
	for _, c := range h.Cores {
		list = append(list, fact("core", number(c.ID), number(c.Width), number(c.Node), number(c.Speed)))
	}
	for _, c := range h.Caches {
		list = append(list, fact("cache", word(c.Name), number(c.Level), number(c.Size), number(c.Line)))
		for _, core := range c.Cores {
			list = append(list, fact("shares", word(c.Name), number(core)))
		}
	}
	for _, l := range h.Links {
		list = append(list, fact("link", number(min(l.A, l.B)), number(max(l.A, l.B)), number(l.Latency)))
	}
	for _, m := range h.Memories {
		list = append(list, fact("memory", word(m.Name), number(m.Base), number(m.Size), number(m.Node), number(m.Latency)))
	}
	for _, d := range h.Devices {
		list = append(list, fact("device", word(d.Name), number(d.Node), number(d.IRQ), number(d.Base), number(d.Size)))
	}
	return setOf(list), api.OK
}

// ToHardware returns the normalized description that has the facts of db.
func ToHardware(db []api.Fact) (api.Hardware, api.Errno) {
	set := setOf(db)
	h := hwdesc.Normalize(described(set))
	same := func(f, g api.Fact) bool { return Compare(f, g) == 0 }
	if back, err := FromHardware(h); err != api.OK || !slices.EqualFunc(back, set, same) {
		return api.Hardware{}, api.ErrUnknown
	}
	return h, api.OK
}

func fact(relation string, args ...api.Value) api.Fact {
	return api.Fact{Relation: relation, Args: args}
}

func word(text string) api.Value { return api.Value{Kind: api.WordValue, Word: text} }

func number[T int | uint64](n T) api.Value { return api.Value{Kind: api.IntValue, Int: int64(n)} }

// described returns the only description that can have the facts of db. It passes over what is wrong with a fact,
// because then the description does not have this fact.
func described(db []api.Fact) api.Hardware {
	var h api.Hardware
	sharers := map[string][]int{}
	for _, f := range db {
		var args [api.MaxArity]api.Value
		copy(args[:], f.Args)
		if f.Relation == "shares" {
			cache := args[0].Word
			sharers[cache] = append(sharers[cache], int(args[1].Int))
		}
		describe(&h, f.Relation, args)
	}
	for i, c := range h.Caches {
		h.Caches[i].Cores = sharers[c.Name]
		// No description has two caches of one name; if db has them, a copy of the cores for each could take too much memory.
		delete(sharers, c.Name)
	}
	return h
}

// describe adds to h what a fact says, other than which cores share a cache.
func describe(h *api.Hardware, relation string, args [api.MaxArity]api.Value) {
	name := args[0].Word
	small := func(i int) int { return int(args[i].Int) }
	wide := func(i int) uint64 { return uint64(args[i].Int) }
	switch relation {
	case "machine":
		h.Name = name
	case "core":
		h.Cores = append(h.Cores, api.Core{ID: small(0), Width: small(1), Node: small(2), Speed: small(3)})
	case "cache":
		h.Caches = append(h.Caches, api.Cache{Name: name, Level: small(1), Size: wide(2), Line: small(3)})
	case "link":
		h.Links = append(h.Links, api.Link{A: small(0), B: small(1), Latency: small(2)})
	case "memory":
		h.Memories = append(h.Memories, api.Memory{Name: name, Base: wide(1), Size: wide(2), Node: small(3), Latency: small(4)})
	case "device":
		h.Devices = append(h.Devices, api.Device{Name: name, Node: small(1), IRQ: small(2), Base: wide(3), Size: wide(4)})
	}
}
