package forest

import (
	"cmp"
	"slices"

	"multikernel/api"
	"multikernel/captype"
	"multikernel/memrange"
	"multikernel/node"
)

// Valid reports whether l is a forest that a machine can have.
func Valid(l []api.Entry) bool { return inOrder(l) && coexist(l) && descend(l) }

// inOrder reports whether each node is valid and in a slot of its own, and the Ids are ascending.
func inOrder(l []api.Entry) bool {
	var used [api.MaxCores][api.MaxSlots]bool
	for i, e := range l {
		if !node.Valid(e.Node) || !isSlot(e.Core, e.Slot) || used[e.Core][e.Slot] {
			return false
		}
		if i > 0 && !node.Less(l[i-1].Node.Id, e.Node.Id) {
			return false
		}
		used[e.Core][e.Slot] = true
	}
	return true
}

func isSlot(core, slot int) bool {
	return core >= 0 && core < api.MaxCores && slot >= 0 && slot < api.MaxSlots
}

// coexist reports whether any two of the valid nodes of l may exist at the same time.
//
// It suffices to compare neighbours in the order of nesting: if a comes before c and overlaps it, then a contains c and
// all that come between them. Either a is untyped, or the next one must be the same object, and so on until c.
func coexist(l []api.Entry) bool {
	caps := make([]api.Cap, 0, len(l))
	for _, e := range l {
		caps = append(caps, e.Node.Cap)
	}
	slices.SortFunc(caps, compareNesting)
	for i := 1; i < len(caps); i++ {
		if !captype.Coexist(caps[i-1], caps[i]) {
			return false
		}
	}
	return true
}

// compareNesting orders objects by address, what contains others before these. Of several objects in the same range the
// untyped ones come first, since theirs is the least kind.
func compareNesting(a, b api.Cap) int {
	return cmp.Or(cmp.Compare(a.Base, b.Base), cmp.Compare(b.Bits, a.Bits), cmp.Compare(a.Kind, b.Kind))
}

// descend reports whether each node of l can descend from those of its ancestors that are in l. The Ids are distinct.
func descend(l []api.Entry) bool {
	nodes := make(map[api.Id]api.Node, len(l))
	for _, e := range l {
		nodes[e.Node.Id] = e.Node
	}
	for _, e := range l {
		for i, id := range e.Node.Path {
			if p, ok := nodes[id]; ok && !isAncestor(p, e.Node, i) {
				return false
			}
		}
	}
	return true
}

// isAncestor reports whether n, in whose path p is at index i, can descend from p.
func isAncestor(p, n api.Node, i int) bool {
	return slices.Equal(p.Path, n.Path[:i]) &&
		memrange.Contains(captype.Range(p.Cap), captype.Range(n.Cap)) &&
		(p.Cap.Kind == api.CapUntyped || captype.SameObject(p.Cap, n.Cap))
}
