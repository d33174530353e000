package cspace

import (
	"slices"

	"multikernel/api"
)

// Lock returns l with those of its nodes whose Ids are in ids locked by a revocation.
func Lock(l []api.Slot, ids []api.Id, by api.Id) []api.Slot {
	return changed(l, func(s *api.Slot) {
		if !Empty(*s) && slices.Contains(ids, s.Node.Id) {
			s.Lock = by
		}
	})
}

// Unlock returns l without the locks of a revocation.
func Unlock(l []api.Slot, by api.Id) []api.Slot {
	return changed(l, func(s *api.Slot) {
		if s.Lock == by {
			s.Lock = api.Id{}
		}
	})
}

// Sweep returns l without the nodes that a revocation has locked, and the Ids of these nodes.
func Sweep(l []api.Slot, by api.Id) ([]api.Slot, []api.Id) {
	var swept []api.Id
	made := changed(l, func(s *api.Slot) {
		// The zero Id names no revocation: what has it as Lock is not locked.
		if !Empty(*s) && s.Lock == by && by != (api.Id{}) {
			swept = append(swept, s.Node.Id)
			clearNode(s)
		}
	})
	return made, swept
}
