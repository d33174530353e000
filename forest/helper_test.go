package forest_test

import (
	"cmp"
	"math/rand"
	"slices"
	"testing"

	"multikernel/api"
	"multikernel/captype"
	"multikernel/forest"
)

func id(core, op int) api.Id { return api.Id{Core: core, Op: op} }

// object returns a capability with all rights.
func object(kind, base, bits int) api.Cap {
	return api.Cap{Kind: kind, Base: base, Bits: bits, Rights: 7}
}

func untyped(base, bits int) api.Cap { return object(api.CapUntyped, base, bits) }

func frame(base, bits int) api.Cap { return object(api.CapFrame, base, bits) }

func table(base, width, level int) api.Cap {
	return api.Cap{Kind: api.CapTable, Base: base, Bits: 12, Rights: 7, Width: width, Level: level}
}

func device(c api.Cap) api.Cap {
	c.Device = true
	return c
}

func with(rights int, c api.Cap) api.Cap {
	c.Rights = rights
	return c
}

func entry(core, slot int, own api.Id, c api.Cap, path ...api.Id) api.Entry {
	return api.Entry{Core: core, Slot: slot, Node: api.Node{Id: own, Path: path, Cap: c}}
}

// sample returns a valid forest. Below the untyped root lie untyped memory with a frame, its copies and a page table, and
// a copy of the root with an endpoint. Another root, for a device, has a frame. The last two have no ancestors.
func sample() []api.Entry {
	root, part, page, read, again, device2 := id(0, 1), id(0, 2), id(0, 3), id(0, 4), id(3, 1), id(4, 1)
	return []api.Entry{
		entry(0, 0, root, untyped(0, 16)),
		entry(0, 63, part, untyped(0, 14), root),
		entry(31, 0, page, frame(4096, 12), root, part),
		entry(1, 5, read, with(1, frame(4096, 12)), root, part, page),
		entry(1, 0, id(1, 1), with(0, frame(4096, 12)), root, part, page, read),
		entry(2, 0, api.Id{Core: 2, Op: 1}, table(8192, 32, 1), root, part),
		entry(2, 1, api.Id{Core: 2, Op: 1, Part: 7}, table(12288, 39, 2), root, part),
		entry(3, 1, again, with(6, untyped(0, 16)), root),
		entry(3, 2, id(3, 2), object(api.CapEndpoint, 32768, 6), root, again),
		entry(31, 63, device2, device(untyped(1<<20, 20))),
		entry(4, 0, id(4, 2), device(frame(1<<20, 14)), device2),
		entry(5, 0, id(5, 1<<30), object(api.CapKernel, 1<<30, 16)),
		entry(6, 0, id(31, 1), untyped(1<<39, 39)),
	}
}

// copied returns the entries of a list with paths of their own.
func copied(l []api.Entry) []api.Entry {
	var out []api.Entry
	for _, e := range l {
		e.Node.Path = slices.Clone(e.Node.Path)
		out = append(out, e)
	}
	return out
}

func sameEntry(a, b api.Entry) bool {
	return a.Core == b.Core && a.Slot == b.Slot && a.Node.Id == b.Node.Id && a.Node.Cap == b.Node.Cap && slices.Equal(a.Node.Path, b.Node.Path)
}

func sameEntries(a, b []api.Entry) bool { return slices.EqualFunc(a, b, sameEntry) }

func idsOf(l []api.Entry) []api.Id {
	var ids []api.Id
	for _, e := range l {
		ids = append(ids, e.Node.Id)
	}
	return ids
}

func pick[T any](r *rand.Rand, list []T) T { return list[r.Intn(len(list))] }

// add inserts e into a forest that is in ascending order, unless an Id or a slot is taken.
func add(l []api.Entry, e api.Entry) []api.Entry {
	for _, other := range l {
		if other.Node.Id == e.Node.Id || other.Core == e.Core && other.Slot == e.Slot {
			return l
		}
	}
	l = append(l, e)
	slices.SortFunc(l, func(a, b api.Entry) int {
		return cmp.Or(a.Node.Id.Core-b.Node.Id.Core, a.Node.Id.Op-b.Node.Id.Op, a.Node.Id.Part-b.Node.Id.Part)
	})
	return l
}

// randomForest returns a valid forest in 64 KiB of memory, made by claims, retypes, copies, deletions and revocations.
func randomForest(r *rand.Rand) []api.Entry {
	var l []api.Entry
	for op := range 1 + r.Intn(24) {
		own := api.Id{Core: r.Intn(3), Op: op + 1, Part: r.Intn(2)}
		e := entry(r.Intn(4), r.Intn(8), own, untyped(r.Intn(4)<<14, 14))
		switch {
		case len(l) == 0 || r.Intn(6) == 0:
			if !referenceConflict(l, api.Id{}, []api.Cap{e.Node.Cap}) {
				l = add(l, e)
			}
		case r.Intn(12) == 0:
			l = slices.Delete(l, 0, 1)
		case r.Intn(24) == 0:
			src := pick(r, l).Node.Id
			l = slices.DeleteFunc(l, func(e api.Entry) bool { return slices.Contains(e.Node.Path, src) })
		default:
			l = derive(r, l, e)
		}
	}
	return l
}

// derive adds a copy of a node, or an object in its memory. The place and the Id of the new node are those of e.
func derive(r *rand.Rand, l []api.Entry, e api.Entry) []api.Entry {
	src := pick(r, l).Node
	c := with(r.Intn(8), src.Cap)
	if r.Intn(3) > 0 {
		c = randomCap(r)
		c.Base += src.Cap.Base
		if c.Base+1<<c.Bits > src.Cap.Base+1<<src.Cap.Bits || referenceConflict(l, src.Id, []api.Cap{c}) {
			return l
		}
	}
	if len(src.Path) == 8 {
		return l
	}
	e.Node.Cap, e.Node.Path = c, append(slices.Clone(src.Path), src.Id)
	return add(l, e)
}

// randomCap returns a valid capability of any kind, mostly to memory below 16 KiB.
func randomCap(r *rand.Rand) api.Cap {
	switch kind := 1 + r.Intn(6); kind {
	case api.CapUntyped:
		bits := 6 + r.Intn(9)
		return untyped(r.Intn(1<<(14-bits))<<bits, bits)
	case api.CapFrame:
		bits := 12 + r.Intn(2)
		return frame(r.Intn(1<<(14-bits))<<bits, bits)
	case api.CapTable:
		return table(r.Intn(4)<<12, pick(r, []int{32, 39}), r.Intn(2))
	case api.CapEndpoint:
		return object(kind, r.Intn(256)<<6, 6)
	case api.CapDispatcher:
		return object(kind, r.Intn(16)<<10, 10)
	default:
		return object(kind, r.Intn(2)<<16, 16)
	}
}

// oddCaps have ranges that are not valid.
func oddCaps() []api.Cap {
	return []api.Cap{{}, untyped(32, 6), untyped(0, 5), untyped(0, 41), untyped(-64, 6), untyped(0, 1<<32+12), frame(1<<40, 12), frame(2048, 12), frame(-1<<62, 12)}
}

// spoil changes a part of an entry of l, which has at least one, so that l may become invalid.
func spoil(r *rand.Rand, l []api.Entry) []api.Entry {
	l = copied(l)
	i := r.Intn(len(l))
	e, other := &l[i], pick(r, l)
	switch r.Intn(11) {
	case 0:
		e.Node.Id = other.Node.Id
	case 1:
		e.Core, e.Slot = other.Core, other.Slot
	case 2:
		e.Core = pick(r, []int{-1, 0, 30, 31, 32, 1 << 32})
	case 3:
		e.Slot = pick(r, []int{-1, 0, 62, 63, 64, 1 << 32})
	case 4:
		e.Node.Cap = pick(r, append(oddCaps(), randomCap(r), other.Node.Cap))
	case 5:
		e.Node.Cap.Rights = r.Intn(10)
	case 6:
		e.Node.Cap.Device = !e.Node.Cap.Device
	case 7:
		e.Node.Path = append(slices.Clone(other.Node.Path), other.Node.Id)
	case 8:
		e.Node.Path = append(e.Node.Path, other.Node.Id)
	case 9:
		if n := len(e.Node.Path); n > 0 {
			e.Node.Path = slices.Delete(e.Node.Path, n-1, n)
		}
	case 10:
		if len(e.Node.Path) > 0 {
			e.Node.Path[r.Intn(len(e.Node.Path))] = pick(r, []api.Id{other.Node.Id, id(9, 9), {}})
		}
	}
	return l
}

func checkValid(t *testing.T, l []api.Entry, want bool) {
	t.Helper()
	if got := forest.Valid(l); got != want {
		t.Errorf("Valid(%+v) = %v", l[:min(len(l), 20)], got)
	}
}

func checkInsert(t *testing.T, l []api.Entry, e api.Entry, want []api.Entry, wanted bool) {
	t.Helper()
	if got, ok := forest.Insert(l, e); ok != wanted || !sameEntries(got, want) {
		t.Errorf("Insert(%+v, %+v) = %+v, %v, want %+v, %v", l, e, got, ok, want, wanted)
	}
}

func checkRemove(t *testing.T, l []api.Entry, own api.Id, want []api.Entry, wanted bool) {
	t.Helper()
	if got, ok := forest.Remove(l, own); ok != wanted || !sameEntries(got, want) {
		t.Errorf("Remove(%+v, %v) = %+v, %v, want %+v, %v", l, own, got, ok, want, wanted)
	}
}

func checkParent(t *testing.T, l []api.Entry, own, want api.Id, wanted bool) {
	t.Helper()
	if got, ok := forest.Parent(l, own); got != want || ok != wanted {
		t.Errorf("Parent(%+v, %v) = %v, %v, want %v, %v", l, own, got, ok, want, wanted)
	}
}

func checkConflict(t *testing.T, l []api.Entry, src api.Id, caps []api.Cap, want bool) {
	t.Helper()
	if got := forest.Conflict(l, src, caps); got != want {
		t.Errorf("Conflict(%+v, %v, %+v) = %v", l, src, caps, got)
	}
}

// checkBelow compares Descendants and Prune with the reference.
func checkBelow(t *testing.T, l []api.Entry, own api.Id) {
	t.Helper()
	below, rest := referenceBelow(l, own)
	if got := forest.Descendants(l, own); !slices.Equal(got, idsOf(below)) {
		t.Errorf("Descendants(%+v, %v) = %v", l, own, got)
	}
	if got := forest.Prune(l, own); !sameEntries(got, rest) {
		t.Errorf("Prune(%+v, %v) = %+v", l, own, got)
	}
}

// memoryOf returns the range of each entry.
func memoryOf(l []api.Entry) []api.Range {
	var ranges []api.Range
	for _, e := range l {
		ranges = append(ranges, captype.Range(e.Node.Cap))
	}
	return ranges
}
