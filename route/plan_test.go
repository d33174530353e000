package route_test

import (
	"math"
	"math/rand"
	"slices"
	"testing"

	"multikernel/api"
	"multikernel/route"
)

// P6.4

func TestPlanWithoutMembers(t *testing.T) {
	for _, id := range coreIDs(board()) {
		checkPlan(t, board(), id, nil, 5, tree(id))
		checkPlan(t, board(), id, []int{}, api.MaxLatency, tree(id))
	}
}

func TestPlanOfOneGroup(t *testing.T) {
	h := line()
	for _, id := range []int{3, 1, 31, 2} {
		h.Cores = append(h.Cores, api.Core{ID: id, Width: 32, Speed: id})
	}
	checkPlan(t, h, 0, []int{31, 2, 3, 1}, 9, tree(0, [2]int{0, 1}, [2]int{0, 2}, [2]int{0, 3}, [2]int{0, 31}))
	checkPlan(t, h, 2, []int{31, 0}, 0, tree(2, [2]int{2, 0}, [2]int{2, 31}))
}

// Distances from the root: 20 to node 0, 14 to node 3. The forwarder of node 3 is 4: as fast as 7, and faster than 9.
func TestPlanOfBoard(t *testing.T) {
	h := board()
	checkPlan(t, h, 0, []int{9, 7, 2, 31, 4}, 1, tree(0, [2]int{0, 2}, [2]int{0, 4}, [2]int{0, 31}, [2]int{4, 7}, [2]int{4, 9}))
	// at cost 3 the height 6 of core 4 makes 20, and core 2 has the lesser ID; at cost 4 it makes 22
	checkPlan(t, h, 0, []int{9, 7, 2, 31, 4}, 3, tree(0, [2]int{0, 2}, [2]int{0, 4}, [2]int{0, 31}, [2]int{4, 7}, [2]int{4, 9}))
	checkPlan(t, h, 0, []int{9, 7, 2, 31, 4}, 4, tree(0, [2]int{0, 4}, [2]int{0, 2}, [2]int{0, 31}, [2]int{4, 7}, [2]int{4, 9}))
	checkPlan(t, h, 0, []int{9, 7}, 0, tree(0, [2]int{0, 7}, [2]int{7, 9}))
	checkPlan(t, h, 9, []int{7, 4, 31, 0}, 10, tree(9, [2]int{9, 31}, [2]int{9, 4}, [2]int{9, 7}, [2]int{31, 0}))
	checkPlan(t, h, 2, []int{31, 4}, 0, tree(2, [2]int{2, 31}, [2]int{2, 4}))
}

// Equal children are sent to in order of their IDs, whatever their speeds, nodes and places in the list are.
func TestPlanWithEqualChildren(t *testing.T) {
	h := api.Hardware{Name: "star"}
	for id := range 6 {
		h.Cores = append(h.Cores, api.Core{ID: id, Width: 32, Node: 60 - id, Speed: 1 + id%3})
		if id > 0 {
			h.Links = append(h.Links, api.Link{A: 60, B: 60 - id, Latency: 8})
		}
	}
	checkPlan(t, h, 0, []int{3, 5, 1, 4, 2}, 7, tree(0, [2]int{0, 1}, [2]int{0, 2}, [2]int{0, 3}, [2]int{0, 4}, [2]int{0, 5}))
}

// The edges of the forwarders follow in the order of the root's edges, not of their IDs.
func TestPlanOrderOfForwarders(t *testing.T) {
	h := line(5, 9)
	for id := 3; id < 8; id++ {
		h.Cores = append(h.Cores, api.Core{ID: id, Width: 32, Node: id % 3, Speed: id})
	}
	checkPlan(t, h, 0, []int{1, 2, 3, 4, 5, 6, 7}, 1, tree(0, [2]int{0, 5}, [2]int{0, 7}, [2]int{0, 3}, [2]int{0, 6}, [2]int{5, 2}, [2]int{7, 1}, [2]int{7, 4}))
	// the forwarder of node 1 has height 200, which is more than the lead of node 2
	checkPlan(t, h, 0, []int{1, 2, 3, 4, 5, 6, 7}, 100, tree(0, [2]int{0, 7}, [2]int{0, 5}, [2]int{0, 3}, [2]int{0, 6}, [2]int{7, 1}, [2]int{7, 4}, [2]int{5, 2}))
}

func TestPlanErrors(t *testing.T) {
	h := board()
	for _, odd := range []int{-1, 1, 8, api.MaxCores, math.MaxInt, math.MinInt} {
		checkPlanError(t, h, odd, nil, 0, api.ErrUnknown)
		checkPlanError(t, h, odd, []int{odd}, -1, api.ErrUnknown)
		checkPlanError(t, h, 0, []int{odd}, 0, api.ErrUnknown)
		checkPlanError(t, h, 0, []int{2, 2, odd}, -1, api.ErrUnknown)
	}
	checkPlanError(t, h, 0, []int{0}, 0, api.ErrDuplicate)
	checkPlanError(t, h, 0, []int{2, 4, 0}, 0, api.ErrDuplicate)
	checkPlanError(t, h, 0, []int{4, 2, 4}, 0, api.ErrDuplicate)
	checkPlanError(t, h, 0, []int{4, 2, 4}, -1, api.ErrDuplicate)
	checkPlanError(t, h, 0, make([]int, 1<<20), math.MaxInt, api.ErrDuplicate)
	for _, odd := range []int{-1, api.MaxLatency + 1, math.MaxInt, math.MinInt} {
		checkPlanError(t, h, 0, nil, odd, api.ErrRange)
		checkPlanError(t, h, 0, []int{2}, odd, api.ErrRange)
	}
	checkPlan(t, h, 0, []int{2}, 0, tree(0, [2]int{0, 2}))
	checkPlan(t, h, 0, []int{2}, api.MaxLatency, tree(0, [2]int{0, 2}))
}

func TestPlanOfInvalidHardware(t *testing.T) {
	for err, h := range brokenBoards(t) {
		checkPlanError(t, h, 0, nil, 0, err)
		checkPlanError(t, h, 99, []int{2, 2}, -1, err)
	}
}

// child is a child of a core, with the height that it has in the plan.
type child struct{ id, distance, height int }

// sequence says the order and the height of step 3 once more: it takes the best of the rest, one after the other.
func sequence(children []child, cost int) ([]int, int) {
	rest := slices.Clone(children)
	var ids []int
	height := 0
	for number := 1; len(rest) > 0; number++ {
		best := 0
		for i, c := range rest {
			key, old := c.distance+c.height, rest[best].distance+rest[best].height
			if key > old || key == old && c.id < rest[best].id {
				best = i
			}
		}
		ids = append(ids, rest[best].id)
		height = max(height, number*cost+rest[best].distance+rest[best].height)
		rest = slices.Delete(rest, best, best+1)
	}
	return ids, height
}

// planned says P6.4 once more, node by node.
func planned(h api.Hardware, root int, members []int, cost int) api.Tree {
	d, home := distances(h), coreOf(h, root).Node
	var first []child
	below := map[int][]int{}
	for node := range api.MaxNodes {
		var group []api.Core
		for _, id := range members {
			if c := coreOf(h, id); c.Node == node {
				group = append(group, c)
			}
		}
		forwarder := api.Core{}
		for _, c := range group {
			if c.Speed > forwarder.Speed || c.Speed == forwarder.Speed && c.ID < forwarder.ID {
				forwarder = c
			}
		}
		var others []child
		for _, c := range group {
			if c.ID != forwarder.ID {
				others = append(others, child{id: c.ID})
			}
		}
		switch {
		case len(group) == 0:
		case node == home:
			first = append(first, append(others, child{id: forwarder.ID})...)
		default:
			ids, height := sequence(others, cost)
			below[forwarder.ID] = ids
			first = append(first, child{forwarder.ID, d[home][node], height})
		}
	}
	order, _ := sequence(first, cost)
	below[root] = order
	tr := api.Tree{Root: root}
	for _, sender := range append([]int{root}, order...) {
		for _, id := range below[sender] {
			tr.Edges = append(tr.Edges, api.Edge{From: sender, To: id})
		}
	}
	return tr
}

// randomPlan returns a machine, a root, members and a cost.
func randomPlan(r *rand.Rand) (api.Hardware, int, []int, int) {
	h := randomBoard(r)
	ids := coreIDs(h)
	r.Shuffle(len(ids), func(i, j int) { ids[i], ids[j] = ids[j], ids[i] })
	cost := pick(r, []int{0, 1, 2, 3, 10, 1000, api.MaxLatency})
	return h, ids[0], ids[1 : 1+r.Intn(len(ids))], cost
}

func TestPlanAgainstReference(t *testing.T) {
	r := rand.New(rand.NewSource(7))
	for range 3000 {
		h, root, members, cost := randomPlan(r)
		checkPlan(t, h, root, members, cost, planned(h, root, members, cost))
	}
}

func TestPlanInAnyOrderOfMembers(t *testing.T) {
	r := rand.New(rand.NewSource(8))
	for range 200 {
		h, root, members, cost := randomPlan(r)
		want, _ := route.Plan(h, root, members, cost)
		r.Shuffle(len(members), func(i, j int) { members[i], members[j] = members[j], members[i] })
		r.Shuffle(len(h.Cores), func(i, j int) { h.Cores[i], h.Cores[j] = h.Cores[j], h.Cores[i] })
		checkPlan(t, h, root, members, cost, want)
	}
}

func TestPlanOfLargestBoard(t *testing.T) {
	r := rand.New(rand.NewSource(9))
	for _, groups := range []int{1, 2, 8, 32} {
		h := denseBoard(r, func() int { return 1 + r.Intn(9) })
		h.Cores = nil
		for id := range api.MaxCores {
			h.Cores = append(h.Cores, api.Core{ID: id, Width: 32, Node: id % groups, Speed: 1 + r.Intn(3)})
		}
		for node := 1; node < groups; node++ {
			h.Links[node].A, h.Links[node].B = 0, node
		}
		h.Links = slices.CompactFunc(sortedLinks(h.Links), func(a, b api.Link) bool { return a.A == b.A && a.B == b.B })
		members := r.Perm(api.MaxCores - 1)
		checkPlan(t, h, 31, members, 5, planned(h, 31, members, 5))
	}
}

func sortedLinks(links []api.Link) []api.Link {
	return slices.SortedFunc(slices.Values(links), func(a, b api.Link) int {
		return slices.Compare([]int{a.A, a.B}, []int{b.A, b.B})
	})
}

// P6.6

// orders calls try with each order of each sender's edges. The edges of a sender stay together.
func orders(tr api.Tree, try func(api.Tree)) {
	edges := slices.Clone(tr.Edges)
	var choose func(i int)
	choose = func(i int) {
		if i == len(edges) {
			try(api.Tree{Root: tr.Root, Edges: slices.Clone(edges)})
			return
		}
		for k := i; k < len(edges) && edges[k].From == edges[i].From; k++ {
			edges[i], edges[k] = edges[k], edges[i]
			choose(i + 1)
			edges[i], edges[k] = edges[k], edges[i]
		}
	}
	choose(0)
}

func TestPlanCompletesFirst(t *testing.T) {
	r := rand.New(rand.NewSource(10))
	later := 0
	for range 600 {
		h, root, members, cost := randomPlan(r)
		members = members[:min(len(members), 5)]
		tr, _ := route.Plan(h, root, members, cost)
		least, err := route.Completion(h, tr, cost)
		if err != api.OK {
			t.Fatalf("%v: error %d", tr, err)
		}
		orders(tr, func(other api.Tree) {
			time, err := route.Completion(h, other, cost)
			if err != api.OK || time < least {
				t.Errorf("%v: %d, error %d, but the plan %v takes %d", other, time, err, tr, least)
			}
			if time > least {
				later++
			}
		})
	}
	if later < 500 {
		t.Error("only", later, "other orders complete later")
	}
}

func TestPlanReachesMembersOnce(t *testing.T) {
	r := rand.New(rand.NewSource(11))
	for range 1000 {
		h, root, members, cost := randomPlan(r)
		tr, _ := route.Plan(h, root, members, cost)
		checkTree(t, h, tr, api.OK)
		var reached []int
		entered := map[int]int{}
		for _, e := range tr.Edges {
			reached = append(reached, e.To)
			if to := coreOf(h, e.To).Node; coreOf(h, e.From).Node != to {
				entered[to]++
			}
		}
		if !slices.Equal(slices.Sorted(slices.Values(reached)), slices.Sorted(slices.Values(members))) {
			t.Errorf("%v does not reach %v", tr, members)
		}
		for node, count := range entered {
			if count > 1 || node == coreOf(h, root).Node {
				t.Errorf("%v enters node %d %d times", tr, node, count)
			}
		}
	}
}
