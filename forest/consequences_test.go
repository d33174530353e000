package forest_test

import (
	"math/rand"
	"slices"
	"testing"

	"multikernel/api"
	"multikernel/forest"
	"multikernel/node"
)

// P13.6

func TestValidAfterRemovals(t *testing.T) {
	r := rand.New(rand.NewSource(4))
	for range 5000 {
		l := randomForest(r)
		for _, own := range append(idsOf(l), id(9, 9)) {
			rest, _ := forest.Remove(l, own)
			checkValid(t, rest, true)
			checkValid(t, forest.Prune(l, own), true)
		}
		for core := range 4 {
			checkValid(t, forest.Evict(l, core), true)
		}
	}
}

// A child in the memory of its source, with an Id that no node ever had.
func TestValidAfterInsert(t *testing.T) {
	r := rand.New(rand.NewSource(5))
	inserted := 0
	for range 20000 {
		l := randomForest(r)
		if len(l) == 0 {
			continue
		}
		src := pick(r, l).Node
		c := randomCap(r)
		c.Base += src.Cap.Base
		child, err := node.Child(src, id(r.Intn(32), 100), c)
		e := api.Entry{Core: r.Intn(32), Slot: r.Intn(64), Node: child}
		_, taken := forest.At(l, e.Core, e.Slot)
		if err != api.OK || c.Base+1<<c.Bits > src.Cap.Base+1<<src.Cap.Bits || forest.Conflict(l, src.Id, []api.Cap{c}) || taken {
			continue
		}
		made, ok := forest.Insert(l, e)
		if !ok || len(made) != len(l)+1 {
			t.Errorf("Insert(%+v, %+v) = %+v, %v", l, e, made, ok)
		}
		checkValid(t, made, true)
		inserted++
	}
	if inserted < 3000 {
		t.Error(inserted, "children")
	}
}

// A free range has no conflict, and what is claimed there can be inserted.
func TestValidAfterClaim(t *testing.T) {
	r := rand.New(rand.NewSource(6))
	for range 3000 {
		l := randomForest(r)
		for _, free := range forest.Free(l, api.Range{Bits: 17}) {
			c := untyped(free.Base, free.Bits)
			checkConflict(t, l, api.Id{}, []api.Cap{c}, false)
			made, _ := forest.Insert(l, entry(5, 5, id(5, 5), c))
			checkValid(t, made, true)
			checkConflict(t, made, api.Id{}, []api.Cap{c}, true)
		}
	}
}

func TestDescendantsOfDescendants(t *testing.T) {
	r := rand.New(rand.NewSource(7))
	deep := 0
	for range 5000 {
		l := randomForest(r)
		for _, own := range idsOf(l) {
			below := forest.Descendants(l, own)
			for _, child := range below {
				for _, grandchild := range forest.Descendants(l, child) {
					deep++
					if !slices.Contains(below, grandchild) {
						t.Errorf("%+v: %v is not below %v", l, grandchild, own)
					}
				}
			}
		}
	}
	if deep < 5000 {
		t.Error(deep, "descendants of descendants")
	}
}

// Who has a parent is a descendant of it, and no descendant is left after Prune.
func TestParentsOfDescendants(t *testing.T) {
	r := rand.New(rand.NewSource(8))
	for range 5000 {
		l := randomForest(r)
		for _, own := range idsOf(l) {
			if parent, ok := forest.Parent(l, own); ok && !slices.Contains(forest.Descendants(l, parent), own) {
				t.Errorf("%+v: %v is not below its parent %v", l, own, parent)
			}
			if left := forest.Descendants(forest.Prune(l, own), own); len(left) > 0 {
				t.Errorf("%+v: %v is left below %v", l, left, own)
			}
		}
	}
}
