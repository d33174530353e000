package forest_test

import (
	"slices"

	"multikernel/api"
	"multikernel/captype"
	"multikernel/memrange"
	"multikernel/node"
)

// referenceValid reads the definition of a valid forest condition by condition, for all pairs of entries.
func referenceValid(l []api.Entry) bool {
	for i, e := range l {
		if !node.Valid(e.Node) || e.Core < 0 || 31 < e.Core || e.Slot < 0 || 63 < e.Slot {
			return false
		}
		for k, other := range l {
			if i < k && !node.Less(e.Node.Id, other.Node.Id) {
				return false
			}
			if i != k && e.Core == other.Core && e.Slot == other.Slot {
				return false
			}
			if i != k && !captype.Coexist(e.Node.Cap, other.Node.Cap) {
				return false
			}
			if at := slices.Index(other.Node.Path, e.Node.Id); at >= 0 && !referenceAncestor(e.Node, other.Node, at) {
				return false
			}
		}
	}
	return true
}

func referenceAncestor(p, n api.Node, at int) bool {
	if len(p.Path) != at {
		return false
	}
	for i, own := range p.Path {
		if n.Path[i] != own {
			return false
		}
	}
	if !memrange.Contains(captype.Range(p.Cap), captype.Range(n.Cap)) {
		return false
	}
	return p.Cap.Kind == 1 || captype.SameObject(p.Cap, n.Cap)
}

// referenceFirst returns the index of the first entry with a property, or 0 and false.
func referenceFirst(l []api.Entry, has func(api.Entry) bool) (int, bool) {
	index, ok := 0, false
	for i := len(l) - 1; i >= 0; i-- {
		if has(l[i]) {
			index, ok = i, true
		}
	}
	return index, ok
}

func referenceFind(l []api.Entry, own api.Id) (int, bool) {
	return referenceFirst(l, func(e api.Entry) bool { return e.Node.Id == own })
}

func referenceAt(l []api.Entry, core, slot int) (int, bool) {
	return referenceFirst(l, func(e api.Entry) bool { return e.Core == core && e.Slot == slot })
}

func referenceInsert(l []api.Entry, e api.Entry) ([]api.Entry, bool) {
	var out []api.Entry
	inserted := false
	for _, other := range l {
		if other.Node.Id == e.Node.Id || other.Core == e.Core && other.Slot == e.Slot {
			return nil, false
		}
		if !inserted && node.Less(e.Node.Id, other.Node.Id) {
			out, inserted = append(out, e), true
		}
		out = append(out, other)
	}
	if !inserted {
		out = append(out, e)
	}
	return out, true
}

func referenceRemove(l []api.Entry, own api.Id) ([]api.Entry, bool) {
	var out []api.Entry
	removed := false
	for _, e := range l {
		if !removed && e.Node.Id == own {
			removed = true
		} else {
			out = append(out, e)
		}
	}
	if !removed {
		return nil, false
	}
	return out, true
}

// referenceBelow divides l into the entries whose paths contain own, and the others.
func referenceBelow(l []api.Entry, own api.Id) (below, rest []api.Entry) {
	for _, e := range l {
		if slices.Contains(e.Node.Path, own) {
			below = append(below, e)
		} else {
			rest = append(rest, e)
		}
	}
	return below, rest
}

func referenceEvict(l []api.Entry, core int) []api.Entry {
	var out []api.Entry
	for _, e := range l {
		if e.Core != core {
			out = append(out, e)
		}
	}
	return out
}

func referenceParent(l []api.Entry, own api.Id) (parent api.Id, ok bool) {
	if i, known := referenceFind(l, own); known {
		for _, p := range l[i].Node.Path {
			if _, known := referenceFind(l, p); known {
				parent, ok = p, true
			}
		}
	}
	return parent, ok
}

func referenceConflict(l []api.Entry, src api.Id, caps []api.Cap) bool {
	i, known := referenceFind(l, src)
	for _, c := range caps {
		for _, e := range l {
			permitted := known && e.Node.Cap.Kind == 1 && memrange.Contains(captype.Range(e.Node.Cap), captype.Range(l[i].Node.Cap))
			if !permitted && memrange.Overlaps(captype.Range(e.Node.Cap), captype.Range(c)) {
				return true
			}
		}
	}
	return false
}
