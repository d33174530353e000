package cspace

import (
	"multikernel/api"
	"multikernel/node"
)

// Valid reports whether l can be the capability space of a core.
func Valid(l []api.Slot) bool {
	if len(l) > api.MaxSlots {
		return false
	}
	for i, s := range l {
		if _, again := Find(l[:i], s.Node.Id); again || !validSlot(s) {
			return false
		}
	}
	return true
}

func validSlot(s api.Slot) bool {
	if s.Op < 0 || s.Op > api.MaxOp || !validLock(s.Lock) {
		return false
	}
	if Empty(s) {
		return node.Equal(s.Node, api.Node{}) && s.Lock == api.Id{}
	}
	return node.Valid(s.Node)
}

// validLock reports whether id names an operation, or none.
func validLock(id api.Id) bool {
	return id == api.Id{} || node.ValidId(id) && id.Part == 0
}
