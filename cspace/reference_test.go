package cspace_test

import (
	"slices"

	"multikernel/api"
	"multikernel/node"
)

// The functions of this file read the chapter a second time, slot by slot.

func referenceEmpty(s api.Slot) bool {
	return s.Node.Id.Core == 0 && s.Node.Id.Op == 0 && s.Node.Id.Part == 0
}

func referenceBusy(s api.Slot) bool {
	return s.Op != 0 || s.Lock.Core != 0 || s.Lock.Op != 0 || s.Lock.Part != 0
}

func referenceValid(l []api.Slot) bool {
	if len(l) > 64 {
		return false
	}
	held := map[api.Id]bool{}
	for _, s := range l {
		if s.Op < 0 || 1<<30 < s.Op {
			return false
		}
		if s.Lock != (api.Id{}) && (!node.ValidId(s.Lock) || s.Lock.Part != 0) {
			return false
		}
		if referenceEmpty(s) {
			if len(s.Node.Path) > 0 || s.Node.Cap != (api.Cap{}) || s.Lock != (api.Id{}) {
				return false
			}
			continue
		}
		if !node.Valid(s.Node) || held[s.Node.Id] {
			return false
		}
		held[s.Node.Id] = true
	}
	return true
}

func referenceFind(l []api.Slot, own api.Id) (int, bool) {
	for i, s := range l {
		if s.Node.Id == own && !referenceEmpty(s) {
			return i, true
		}
	}
	return 0, false
}

// referenceEach returns l with the slots that have a property changed.
func referenceEach(l []api.Slot, has func(i int, s api.Slot) bool, change func(s *api.Slot)) []api.Slot {
	out := copied(l)
	for i := range out {
		if has(i, l[i]) {
			change(&out[i])
		}
	}
	return out
}

func referenceReserve(l []api.Slot, slots []int, op int) ([]api.Slot, api.Errno) {
	if op <= 0 || op > 1<<30 {
		return nil, api.ErrInvalid
	}
	for k, i := range slots {
		if i < 0 || len(l) <= i || slices.Contains(slots[:k], i) {
			return nil, api.ErrInvalid
		}
	}
	for _, i := range slots {
		if referenceBusy(l[i]) {
			return nil, api.ErrBusy
		}
	}
	return referenceEach(l, func(i int, s api.Slot) bool { return slices.Contains(slots, i) }, func(s *api.Slot) { s.Op = op }), api.OK
}

func referenceRelease(l []api.Slot, op int) []api.Slot {
	return referenceEach(l, func(_ int, s api.Slot) bool { return s.Op == op }, func(s *api.Slot) { s.Op = 0 })
}

func referencePut(l []api.Slot, at int, n api.Node) ([]api.Slot, api.Errno) {
	if at < 0 || at >= len(l) || !node.Valid(n) {
		return nil, api.ErrInvalid
	}
	if _, found := referenceFind(l, n.Id); found {
		return nil, api.ErrInvalid
	}
	if !referenceEmpty(l[at]) {
		return nil, api.ErrTaken
	}
	return referenceEach(l, func(i int, _ api.Slot) bool { return i == at }, func(s *api.Slot) { s.Node = n }), api.OK
}

func referenceTake(l []api.Slot, at int) ([]api.Slot, api.Node, bool) {
	if at < 0 || at >= len(l) || referenceEmpty(l[at]) {
		return nil, api.Node{}, false
	}
	return referenceEach(l, func(i int, _ api.Slot) bool { return i == at }, func(s *api.Slot) { *s = api.Slot{Op: s.Op} }), l[at].Node, true
}

func referenceLock(l []api.Slot, ids []api.Id, by api.Id) []api.Slot {
	return referenceEach(l, func(_ int, s api.Slot) bool { return !referenceEmpty(s) && slices.Contains(ids, s.Node.Id) }, func(s *api.Slot) { s.Lock = by })
}

func referenceUnlock(l []api.Slot, by api.Id) []api.Slot {
	return referenceEach(l, func(_ int, s api.Slot) bool { return s.Lock == by }, func(s *api.Slot) { s.Lock = api.Id{} })
}

func referenceSweep(l []api.Slot, by api.Id) (out []api.Slot, ids []api.Id) {
	if by == (api.Id{}) {
		return copied(l), nil
	}
	has := func(_ int, s api.Slot) bool { return !referenceEmpty(s) && s.Lock == by }
	for i, s := range l {
		if has(i, s) {
			ids = append(ids, s.Node.Id)
		}
	}
	return referenceEach(l, has, func(s *api.Slot) { *s = api.Slot{Op: s.Op} }), ids
}

// referenceEntries puts each entry behind those that must not come later.
func referenceEntries(l []api.Slot, core int) []api.Entry {
	var out []api.Entry
	for i, s := range l {
		if referenceEmpty(s) {
			continue
		}
		at := len(out)
		for at > 0 && node.Less(s.Node.Id, out[at-1].Node.Id) {
			at--
		}
		out = slices.Insert(out, at, api.Entry{Core: core, Slot: i, Node: s.Node})
	}
	return out
}
