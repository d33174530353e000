package cspace_test

import (
	"math/rand"
	"slices"
	"testing"

	"multikernel/api"
	"multikernel/cspace"
)

func id(core, op int) api.Id { return api.Id{Core: core, Op: op} }

func object(kind, base, bits int) api.Cap {
	return api.Cap{Kind: kind, Base: base, Bits: bits, Rights: 7}
}

func frame(base int) api.Cap { return object(api.CapFrame, base, 12) }

func made(own api.Id, c api.Cap, path ...api.Id) api.Node {
	return api.Node{Id: own, Path: path, Cap: c}
}

func slot(own api.Id, path ...api.Id) api.Slot {
	return api.Slot{Node: made(own, frame(4096), path...)}
}

func reserved(op int, s api.Slot) api.Slot {
	s.Op = op
	return s
}

func locked(by api.Id, s api.Slot) api.Slot {
	s.Lock = by
	return s
}

// local is the operation that reserves two slots of the sample, remote the revocation that has locked two of its nodes.
const local = 40

var remote = id(5, 50)

// sample returns a valid capability space: nodes and empty slots, free, reserved, locked, and reserved as well as locked.
func sample() []api.Slot {
	root, part := id(31, 1<<30), id(7, 7)
	return []api.Slot{
		{Node: made(root, object(api.CapUntyped, 0, 16))},
		{},
		reserved(1<<30, slot(id(2, 1), root, part, id(0, 1), id(0, 2), id(0, 3), id(0, 4), id(0, 5), id(0, 6))),
		locked(id(31, 1<<30), slot(id(1, 9), root, part)),
		{Op: local},
		reserved(local, locked(remote, slot(id(0, 300), root))),
		locked(remote, slot(api.Id{Core: 0, Op: 300, Part: 7}, root, id(0, 300))),
		{},
	}
}

// nodes are the indices of the slots of the sample that hold a node.
func nodes() []int { return []int{0, 2, 3, 5, 6} }

// differentIds differ from own in one field.
func differentIds(own api.Id) []api.Id {
	var ids []api.Id
	for _, by := range []int{1, -1, 1 << 32} {
		ids = append(ids, api.Id{Core: own.Core + by, Op: own.Op, Part: own.Part}, api.Id{Core: own.Core, Op: own.Op + by, Part: own.Part}, api.Id{Core: own.Core, Op: own.Op, Part: own.Part + by})
	}
	return ids
}

// changed returns the sample after a change.
func changed(change func(l []api.Slot)) []api.Slot {
	l := sample()
	change(l)
	return l
}

// copied returns the slots of a list with paths of their own.
func copied(l []api.Slot) []api.Slot {
	var out []api.Slot
	for _, s := range l {
		s.Node.Path = slices.Clone(s.Node.Path)
		out = append(out, s)
	}
	return out
}

func sameNode(a, b api.Node) bool {
	return a.Id == b.Id && a.Cap == b.Cap && slices.Equal(a.Path, b.Path)
}

func sameSlots(a, b []api.Slot) bool {
	return slices.EqualFunc(a, b, func(x, y api.Slot) bool { return x.Op == y.Op && x.Lock == y.Lock && sameNode(x.Node, y.Node) })
}

func sameEntries(a, b []api.Entry) bool {
	return slices.EqualFunc(a, b, func(x, y api.Entry) bool { return x.Core == y.Core && x.Slot == y.Slot && sameNode(x.Node, y.Node) })
}

func pick[T any](r *rand.Rand, list []T) T { return list[r.Intn(len(list))] }

func checkValid(t *testing.T, l []api.Slot, want bool) {
	t.Helper()
	if got := cspace.Valid(l); got != want {
		t.Errorf("Valid(%+v) = %v", l, got)
	}
}

func checkSlot(t *testing.T, s api.Slot, empty, busy bool) {
	t.Helper()
	if cspace.Empty(s) != empty || cspace.Busy(s) != busy {
		t.Errorf("%+v: empty %v, busy %v", s, !empty, !busy)
	}
}

func checkFind(t *testing.T, l []api.Slot, own api.Id, want int, wanted bool) {
	t.Helper()
	if got, ok := cspace.Find(l, own); got != want || ok != wanted {
		t.Errorf("Find(%+v, %v) = %d, %v, want %d, %v", l, own, got, ok, want, wanted)
	}
}

func checkReserve(t *testing.T, l []api.Slot, slots []int, op int, want []api.Slot, wanted api.Errno) {
	t.Helper()
	if got, err := cspace.Reserve(l, slots, op); err != wanted || !sameSlots(got, want) {
		t.Errorf("Reserve(%+v, %v, %d) = %+v, error %d, want %+v, error %d", l, slots, op, got, err, want, wanted)
	}
}

func checkRelease(t *testing.T, l []api.Slot, op int, want []api.Slot) {
	t.Helper()
	if got := cspace.Release(l, op); !sameSlots(got, want) {
		t.Errorf("Release(%+v, %d) = %+v", l, op, got)
	}
}

func checkPut(t *testing.T, l []api.Slot, at int, n api.Node, want []api.Slot, wanted api.Errno) {
	t.Helper()
	if got, err := cspace.Put(l, at, n); err != wanted || !sameSlots(got, want) {
		t.Errorf("Put(%+v, %d, %+v) = %+v, error %d, want %+v, error %d", l, at, n, got, err, want, wanted)
	}
}

func checkTake(t *testing.T, l []api.Slot, at int, want []api.Slot, n api.Node, wanted bool) {
	t.Helper()
	if got, taken, ok := cspace.Take(l, at); ok != wanted || !sameSlots(got, want) || !sameNode(taken, n) {
		t.Errorf("Take(%+v, %d) = %+v, %+v, %v, want %+v, %+v, %v", l, at, got, taken, ok, want, n, wanted)
	}
}

func checkLock(t *testing.T, l []api.Slot, ids []api.Id, by api.Id, want []api.Slot) {
	t.Helper()
	if got := cspace.Lock(l, ids, by); !sameSlots(got, want) {
		t.Errorf("Lock(%+v, %v, %v) = %+v", l, ids, by, got)
	}
}

func checkUnlock(t *testing.T, l []api.Slot, by api.Id, want []api.Slot) {
	t.Helper()
	if got := cspace.Unlock(l, by); !sameSlots(got, want) {
		t.Errorf("Unlock(%+v, %v) = %+v", l, by, got)
	}
}

func checkSweep(t *testing.T, l []api.Slot, by api.Id, want []api.Slot, ids []api.Id) {
	t.Helper()
	if got, swept := cspace.Sweep(l, by); !sameSlots(got, want) || !slices.Equal(swept, ids) {
		t.Errorf("Sweep(%+v, %v) = %+v, %v, want %+v, %v", l, by, got, swept, want, ids)
	}
}

func checkEntries(t *testing.T, l []api.Slot, core int, want []api.Entry) {
	t.Helper()
	if got := cspace.Entries(l, core); !sameEntries(got, want) {
		t.Errorf("Entries(%+v, %d) = %+v, want %+v", l, core, got, want)
	}
}
