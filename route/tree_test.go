package route_test

import (
	"math"
	"math/rand"
	"slices"
	"testing"

	"multikernel/api"
	"multikernel/route"
)

// P6.2

func TestValidTrees(t *testing.T) {
	h := line(1, 1, 1, 1, 1)
	for _, tr := range []api.Tree{
		{},
		{Root: 5, Edges: []api.Edge{}},
		tree(0, [2]int{0, 1}),
		tree(5, [2]int{5, 0}, [2]int{5, 4}),
		tree(0, [2]int{0, 1}, [2]int{1, 2}, [2]int{2, 3}, [2]int{3, 4}, [2]int{4, 5}),
		tree(0, [2]int{0, 1}, [2]int{1, 2}, [2]int{1, 3}, [2]int{3, 4}),
		tree(0, [2]int{0, 1}, [2]int{0, 2}, [2]int{2, 3}, [2]int{1, 4}),
		tree(2, [2]int{2, 0}, [2]int{2, 1}, [2]int{1, 5}, [2]int{5, 4}, [2]int{0, 3}),
	} {
		checkTree(t, h, tr, api.OK)
	}
}

func TestTreesWithUnknownCores(t *testing.T) {
	h := line(1, 1, 1)
	for _, odd := range []int{-1, 4, api.MaxCores - 1, api.MaxCores, math.MaxInt, math.MinInt} {
		checkTree(t, h, tree(odd), api.ErrUnknown)
		checkTree(t, h, tree(odd, [2]int{odd, 1}), api.ErrUnknown)
		checkTree(t, h, tree(0, [2]int{0, odd}), api.ErrUnknown)
		checkTree(t, h, tree(0, [2]int{odd, 1}), api.ErrUnknown)
		checkTree(t, h, tree(0, [2]int{0, 1}, [2]int{1, 2}, [2]int{1, odd}), api.ErrUnknown)
		checkTree(t, h, tree(0, [2]int{0, 1}, [2]int{1, 2}, [2]int{odd, 3}), api.ErrUnknown)
	}
}

func TestTreesWithDuplicates(t *testing.T) {
	h := line(1, 1, 1)
	checkTree(t, h, tree(0, [2]int{0, 0}), api.ErrDuplicate)
	checkTree(t, h, tree(0, [2]int{0, 1}, [2]int{1, 0}), api.ErrDuplicate)
	checkTree(t, h, tree(0, [2]int{0, 1}, [2]int{0, 1}), api.ErrDuplicate)
	checkTree(t, h, tree(0, [2]int{0, 1}, [2]int{1, 1}), api.ErrDuplicate)
	checkTree(t, h, tree(0, [2]int{0, 1}, [2]int{0, 2}, [2]int{2, 1}), api.ErrDuplicate)
	checkTree(t, h, tree(3, [2]int{3, 1}, [2]int{1, 2}, [2]int{2, 3}), api.ErrDuplicate)
}

func TestTreesOutOfOrder(t *testing.T) {
	h := line(1, 1, 1, 1)
	checkTree(t, h, tree(0, [2]int{1, 2}), api.ErrProtocol)
	checkTree(t, h, tree(0, [2]int{1, 1}), api.ErrProtocol)
	checkTree(t, h, tree(0, [2]int{1, 2}, [2]int{0, 1}), api.ErrProtocol)
	checkTree(t, h, tree(0, [2]int{0, 1}, [2]int{2, 2}), api.ErrProtocol)
	checkTree(t, h, tree(0, [2]int{0, 1}, [2]int{2, 3}, [2]int{3, 2}), api.ErrProtocol)
	checkTree(t, h, tree(0, [2]int{0, 1}, [2]int{1, 2}, [2]int{0, 3}), api.ErrProtocol)
	checkTree(t, h, tree(0, [2]int{0, 1}, [2]int{0, 2}, [2]int{1, 3}, [2]int{2, 4}, [2]int{1, 4}), api.ErrDuplicate)
	checkTree(t, line(1, 1, 1, 1, 1), tree(0, [2]int{0, 1}, [2]int{0, 2}, [2]int{1, 3}, [2]int{2, 4}, [2]int{1, 5}), api.ErrProtocol)
}

func TestFirstErrorOfTrees(t *testing.T) {
	h := line(1, 1, 1)
	checkTree(t, h, tree(0, [2]int{0, 1}, [2]int{0, 1}, [2]int{0, 9}), api.ErrUnknown)
	checkTree(t, h, tree(0, [2]int{1, 2}, [2]int{9, 3}), api.ErrUnknown)
	checkTree(t, h, tree(9, [2]int{0, 0}), api.ErrUnknown)
	checkTree(t, h, tree(0, [2]int{1, 2}, [2]int{0, 1}, [2]int{0, 1}), api.ErrDuplicate)
	checkTree(t, h, tree(0, [2]int{3, 2}, [2]int{2, 0}), api.ErrDuplicate)
	for err, h := range brokenBoards(t) {
		checkTree(t, h, tree(99), err)
		checkTimesError(t, h, tree(0), 0, err)
	}
}

func TestLongTrees(t *testing.T) {
	h := line(1, 1)
	long := api.Tree{Edges: make([]api.Edge, 1<<20)}
	checkTree(t, h, long, api.ErrDuplicate)
	long.Edges[1<<20-1].From = 3
	checkTree(t, h, long, api.ErrUnknown)
}

// treeError says P6.2 once more.
func treeError(h api.Hardware, tr api.Tree) api.Errno {
	ids := coreIDs(h)
	known := func(id int) bool { return slices.Contains(ids, id) }
	unknown := func(e api.Edge) bool { return !known(e.From) || !known(e.To) }
	if !known(tr.Root) || slices.ContainsFunc(tr.Edges, unknown) {
		return api.ErrUnknown
	}
	for i, e := range tr.Edges {
		if e.To == tr.Root || slices.ContainsFunc(tr.Edges[:i], func(f api.Edge) bool { return f.To == e.To }) {
			return api.ErrDuplicate
		}
	}
	for i, e := range tr.Edges {
		if e.From != tr.Root && !slices.ContainsFunc(tr.Edges[:i], func(f api.Edge) bool { return f.To == e.From }) {
			return api.ErrProtocol
		}
		sent := slices.ContainsFunc(tr.Edges[:i], func(f api.Edge) bool { return f.From == e.From })
		if sent && tr.Edges[i-1].From != e.From {
			return api.ErrProtocol
		}
	}
	return api.OK
}

// randomTree returns a valid tree of some cores.
func randomTree(r *rand.Rand, h api.Hardware) api.Tree {
	ids := coreIDs(h)
	r.Shuffle(len(ids), func(i, j int) { ids[i], ids[j] = ids[j], ids[i] })
	tr := api.Tree{Root: ids[0]}
	waiting, rest := ids[:1], ids[1:]
	for len(waiting) > 0 {
		next := r.Intn(len(waiting))
		sender := waiting[next]
		waiting = slices.Delete(slices.Clone(waiting), next, next+1)
		for range r.Intn(len(rest) + 1) {
			tr.Edges = append(tr.Edges, api.Edge{From: sender, To: rest[0]})
			waiting, rest = append(waiting, rest[0]), rest[1:]
		}
	}
	return tr
}

func TestValidateAgainstReference(t *testing.T) {
	r := rand.New(rand.NewSource(5))
	seen := map[api.Errno]int{}
	for range 30000 {
		h := line(make([]int, 1+r.Intn(5))...)
		for i := range h.Links {
			h.Links[i].Latency = 1
		}
		tr := randomTree(r, h)
		for range r.Intn(3) {
			if len(tr.Edges) == 0 {
				break
			}
			switch e := &tr.Edges[r.Intn(len(tr.Edges))]; r.Intn(4) {
			case 0:
				e.From = r.Intn(len(h.Cores))
			case 1:
				e.To = r.Intn(len(h.Cores)+1) - r.Intn(2)
			case 2:
				f := &tr.Edges[r.Intn(len(tr.Edges))]
				*e, *f = *f, *e
			case 3:
				tr.Root = r.Intn(len(h.Cores))
			}
		}
		want := treeError(h, tr)
		seen[want]++
		if got := route.Validate(h, tr); got != want {
			t.Fatalf("%v: error %d, want %d", tr, got, want)
		}
	}
	for _, err := range []api.Errno{api.OK, api.ErrUnknown, api.ErrDuplicate, api.ErrProtocol} {
		if seen[err] < 1000 {
			t.Error("error", err, "is seen only", seen[err], "times")
		}
	}
}

// P6.3

func TestTimes(t *testing.T) {
	h := line(5, 7, 100)
	checkTimes(t, h, tree(0), 3)
	checkTimes(t, h, tree(0, [2]int{0, 1}), 3, 8)
	checkTimes(t, h, tree(0, [2]int{0, 1}), 0, 5)
	checkTimes(t, h, tree(0, [2]int{0, 1}, [2]int{0, 2}), 3, 8, 18)
	checkTimes(t, h, tree(0, [2]int{0, 2}, [2]int{0, 1}), 3, 15, 11)
	checkTimes(t, h, tree(0, [2]int{0, 1}, [2]int{1, 2}), 3, 8, 18)
	checkTimes(t, h, tree(0, [2]int{0, 1}, [2]int{1, 2}, [2]int{2, 3}), 1000, 1005, 2012, 3112)
	checkTimes(t, h, tree(2, [2]int{2, 0}, [2]int{2, 3}, [2]int{0, 1}), 10, 22, 120, 37)
}

func TestTimesOnOneNode(t *testing.T) {
	h := line()
	for i := 1; i < api.MaxCores; i++ {
		h.Cores = append(h.Cores, api.Core{ID: i, Width: 32, Speed: 1})
	}
	checkTimes(t, h, tree(0, [2]int{0, 1}, [2]int{0, 2}, [2]int{2, 3}, [2]int{2, 4}, [2]int{1, 5}), 1, 1, 2, 3, 4, 2)
	checkTimes(t, h, tree(0, [2]int{0, 1}, [2]int{0, 2}, [2]int{2, 3}, [2]int{2, 4}, [2]int{1, 5}), 0, 0, 0, 0, 0, 0)
}

func TestTimesRange(t *testing.T) {
	h := line(api.MaxLatency)
	for _, tr := range []api.Tree{tree(0), tree(1, [2]int{1, 0})} {
		for _, odd := range []int{-1, api.MaxLatency + 1, math.MaxInt, math.MinInt} {
			checkTimesError(t, h, tr, odd, api.ErrRange)
		}
	}
	checkTimes(t, h, tree(1, [2]int{1, 0}), api.MaxLatency, 2*api.MaxLatency)
	checkTimes(t, h, tree(1), api.MaxLatency)
}

// The greatest time: each message crosses the whole machine.
func TestGreatestTime(t *testing.T) {
	h := line()
	for node := 1; node < api.MaxNodes; node++ {
		h.Links = append(h.Links, api.Link{A: node - 1, B: node, Latency: api.MaxLatency})
	}
	var tr api.Tree
	var times []int
	for i := 1; i < api.MaxCores; i++ {
		h.Cores = append(h.Cores, api.Core{ID: i, Width: 32, Node: i % 2 * 63, Speed: 1})
		tr.Edges = append(tr.Edges, api.Edge{From: i - 1, To: i})
		times = append(times, i*64*api.MaxLatency)
	}
	checkTimes(t, h, tr, api.MaxLatency, times...)
}

// arrival says P6.3 once more, backwards from the edge to the root.
func arrival(h api.Hardware, d [api.MaxNodes][api.MaxNodes]int, tr api.Tree, to, cost int) int {
	if to == tr.Root {
		return 0
	}
	at := slices.IndexFunc(tr.Edges, func(e api.Edge) bool { return e.To == to })
	from := tr.Edges[at].From
	number := 0
	for _, e := range tr.Edges[:at+1] {
		if e.From == from {
			number++
		}
	}
	return arrival(h, d, tr, from, cost) + number*cost + d[coreOf(h, from).Node][coreOf(h, to).Node]
}

func TestTimesAgainstReference(t *testing.T) {
	r := rand.New(rand.NewSource(6))
	for range 1000 {
		h := randomBoard(r)
		d, tr := distances(h), randomTree(r, h)
		cost := pick(r, []int{0, 1, 2, 10, 1000, api.MaxLatency})
		var want []int
		for _, e := range tr.Edges {
			want = append(want, arrival(h, d, tr, e.To, cost))
		}
		checkTimes(t, h, tr, cost, want...)
	}
}
