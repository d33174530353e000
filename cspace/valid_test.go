package cspace_test

import (
	"math"
	"testing"

	"multikernel/api"
)

// P14.1

// full returns n slots that hold nodes with different Ids.
func full(n int) []api.Slot {
	var l []api.Slot
	for i := range n {
		l = append(l, slot(api.Id{Core: i % 3, Op: 1 + i/24, Part: i / 3 % 8}, id(9, 9)))
	}
	return l
}

func TestValid(t *testing.T) {
	checkValid(t, nil, true)
	checkValid(t, []api.Slot{}, true)
	checkValid(t, sample(), true)
	for i := range sample() {
		checkValid(t, sample()[i:], true)
	}
	for _, n := range []int{1, 63, 64} {
		checkValid(t, make([]api.Slot, n), true)
		checkValid(t, full(n), true)
	}
	for _, n := range []int{65, 66, 128, 256, 300} {
		checkValid(t, make([]api.Slot, n), false)
		checkValid(t, full(n), false)
	}
}

// Several slots may have the same operation or the same lock, whatever is in them.
func TestValidReservationsAndLocks(t *testing.T) {
	for i, s := range sample() {
		for _, op := range []int{0, 1, local, 1<<30 - 1, 1 << 30} {
			checkValid(t, changed(func(l []api.Slot) { l[i].Op = op }), true)
		}
		for _, op := range []int{-1, math.MinInt, 1<<30 + 1, 1 << 31, 1<<32 + 1, math.MaxInt} {
			checkValid(t, changed(func(l []api.Slot) { l[i].Op = op }), false)
		}
		holds := s.Node.Id != api.Id{}
		for _, by := range []api.Id{id(0, 1), id(31, 1<<30), remote, s.Node.Id} {
			by.Part = 0
			checkValid(t, changed(func(l []api.Slot) { l[i].Lock = by }), holds || by == api.Id{})
		}
		checkValid(t, changed(func(l []api.Slot) { l[i].Lock = api.Id{} }), true)
		for _, by := range []api.Id{{Part: 1}, {Core: 1}, id(-1, 1), id(32, 1), id(1, -1), id(1, 1<<30+1), id(1<<32, 1), {Core: 5, Op: 50, Part: 1}, {Core: 5, Op: 50, Part: 7}, {Core: 5, Op: 50, Part: -1}, {Core: 5, Op: 50, Part: 8}} {
			checkValid(t, changed(func(l []api.Slot) { l[i].Lock = by }), false)
		}
	}
}

func TestValidNodes(t *testing.T) {
	for _, i := range nodes() {
		for name, change := range map[string]func(n *api.Node){
			"core":       func(n *api.Node) { n.Id.Core = 32 },
			"operation":  func(n *api.Node) { n.Id.Op = 0; n.Id.Part = 1 },
			"part":       func(n *api.Node) { n.Id.Part = 8 },
			"kind":       func(n *api.Node) { n.Cap.Kind = 0 },
			"base":       func(n *api.Node) { n.Cap.Base = 1 },
			"capability": func(n *api.Node) { n.Cap = api.Cap{} },
			"own path":   func(n *api.Node) { n.Path = []api.Id{n.Id} },
			"zero Id":    func(n *api.Node) { n.Id = api.Id{} },
			"ancestor":   func(n *api.Node) { n.Path = []api.Id{{}} },
			"twice":      func(n *api.Node) { n.Path = []api.Id{id(9, 9), id(9, 9)} },
			"depth":      func(n *api.Node) { n.Path = idsOf(full(12)[3:]) },
		} {
			l := sample()
			change(&l[i].Node)
			if referenceValid(l) {
				t.Errorf("%s: the change is none", name)
			}
			checkValid(t, l, false)
		}
	}
}

// An empty slot has nothing of a node. An empty path is the same as none.
func TestValidEmptySlots(t *testing.T) {
	for _, i := range []int{1, 4, 7} {
		checkValid(t, changed(func(l []api.Slot) { l[i].Node.Path = []api.Id{} }), true)
		checkValid(t, changed(func(l []api.Slot) { l[i].Node.Path = []api.Id{{}} }), false)
		checkValid(t, changed(func(l []api.Slot) { l[i].Node.Path = []api.Id{id(1, 1)} }), false)
		for _, c := range []api.Cap{frame(0), {Kind: 1}, {Base: 64}, {Bits: 6}, {Rights: 1}, {Width: 32}, {Level: 1}, {Device: true}} {
			checkValid(t, changed(func(l []api.Slot) { l[i].Node.Cap = c }), false)
		}
	}
}

// No two slots hold nodes with the same Id. Otherwise their nodes may be the same.
func TestValidIds(t *testing.T) {
	for _, i := range nodes() {
		for _, k := range nodes() {
			if i != k {
				checkValid(t, changed(func(l []api.Slot) { l[i].Node.Id = l[k].Node.Id; l[i].Node.Path = nil }), false)
				checkValid(t, changed(func(l []api.Slot) { l[i].Node.Cap, l[i].Node.Path = l[k].Node.Cap, nil }), true)
			}
		}
	}
	for _, pair := range [][2]int{{0, 1}, {0, 63}, {31, 32}, {62, 63}} {
		l := full(64)
		l[pair[1]].Node.Id = l[pair[0]].Node.Id
		checkValid(t, l, false)
		l[pair[0]] = api.Slot{}
		checkValid(t, l, true)
	}
}

func idsOf(l []api.Slot) []api.Id {
	var ids []api.Id
	for _, s := range l {
		ids = append(ids, s.Node.Id)
	}
	return ids
}
