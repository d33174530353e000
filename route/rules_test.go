package route_test

import (
	"math/rand"
	"slices"
	"sync"
	"testing"

	"multikernel/api"
	"multikernel/facts"
	"multikernel/hwdesc"
	"multikernel/route"
)

// results are those of one call of each function.
type results struct {
	distance, completion int
	path, arrivals       []int
	tree                 api.Tree
	valid                api.Errno
	facts                []api.Fact
	errors               [6]api.Errno
}

func callAll(h api.Hardware, tr api.Tree, root int, members []int, a, b, cost int) results {
	var s results
	s.distance, s.errors[0] = route.Distance(h, a, b)
	s.path, s.errors[1] = route.Path(h, a, b)
	s.tree, s.errors[2] = route.Plan(h, root, members, cost)
	s.valid = route.Validate(h, tr)
	s.arrivals, s.errors[3] = route.Arrivals(h, tr, cost)
	s.completion, s.errors[4] = route.Completion(h, tr, cost)
	s.facts, s.errors[5] = route.Facts(h)
	return s
}

func sameResults(a, b results) bool {
	return a.distance == b.distance && a.completion == b.completion && a.valid == b.valid && a.errors == b.errors &&
		slices.Equal(a.path, b.path) && slices.Equal(a.arrivals, b.arrivals) && sameTree(a.tree, b.tree) && sameFacts(a.facts, b.facts)
}

// R4: a call writes nothing into an argument, not even beyond the end of a list, and a result that is overwritten changes
// neither an argument nor a later result.
func TestResultsAreNewMemory(t *testing.T) {
	r := rand.New(rand.NewSource(14))
	for range 100 {
		h, root, members, cost := randomPlan(r)
		tr, a, b := randomTree(r, h), pick(r, h.Cores).Node, pick(r, h.Cores).Node
		members = slices.Grow(members, 2)
		allEdges, allMembers := tr.Edges[:cap(tr.Edges)], members[:cap(members)]
		copied, edges, ids := clone(h), slices.Clone(allEdges), slices.Clone(allMembers)
		want := callAll(h, tr, root, members, a, b, cost)
		spoiled := callAll(h, tr, root, members, a, b, cost)
		clear(spoiled.path[:cap(spoiled.path)])
		clear(spoiled.arrivals[:cap(spoiled.arrivals)])
		clear(spoiled.tree.Edges[:cap(spoiled.tree.Edges)])
		for _, f := range spoiled.facts {
			clear(f.Args[:cap(f.Args)])
		}
		clear(spoiled.facts[:cap(spoiled.facts)])
		if !hwdesc.Equal(h, copied) || !slices.Equal(allEdges, edges) || !slices.Equal(allMembers, ids) {
			t.Error("an argument is changed")
		}
		if !sameResults(callAll(h, tr, root, members, a, b, cost), want) {
			t.Error("a result is changed")
		}
	}
}

func TestFactsShareNoMemory(t *testing.T) {
	db := factsOf(t, board())
	before := facts.Format(db)
	for i, f := range db {
		args := slices.Clone(f.Args)
		clear(f.Args[:cap(f.Args)])
		copy(f.Args, args)
		if facts.Format(db) != before {
			t.Fatal("shared memory:", db[i])
		}
	}
}

// R5: the order of a map, and calls at the same time, are not visible.
func TestResultsDependOnArgumentsOnly(t *testing.T) {
	r := rand.New(rand.NewSource(15))
	for range 20 {
		h, root, members, cost := randomPlan(r)
		tr, a, b := randomTree(r, h), pick(r, h.Cores).Node, pick(r, h.Cores).Node
		want := callAll(h, tr, root, members, a, b, cost)
		var group sync.WaitGroup
		for range 8 {
			group.Go(func() {
				for range 10 {
					if !sameResults(callAll(h, tr, root, members, a, b, cost), want) {
						t.Error("another result")
					}
				}
			})
		}
		group.Wait()
	}
}
