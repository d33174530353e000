package route_test

import (
	"math/rand"
	"slices"
	"strconv"
	"strings"
	"testing"

	"multikernel/api"
	"multikernel/facts"
	"multikernel/query"
	"multikernel/route"
)

// factsOf returns the facts of a machine that must have some.
func factsOf(t *testing.T, h api.Hardware) []api.Fact {
	t.Helper()
	db, err := route.Facts(h)
	if err != api.OK {
		t.Fatalf("%v: error %d", h, err)
	}
	return db
}

func sameFacts(a, b []api.Fact) bool {
	return slices.EqualFunc(a, b, func(f, g api.Fact) bool { return f.Relation == g.Relation && slices.Equal(f.Args, g.Args) })
}

// P6.5

func TestFactsOfBoard(t *testing.T) {
	const want = `cache(c, 1, 4096, 64).
core(0, 32, 63, 1).
core(2, 32, 0, 1).
core(4, 32, 3, 7).
core(7, 39, 3, 7).
core(9, 39, 3, 5).
core(31, 32, 63, 1000000).
device(uart, 20, 9, 0, 4096).
distance(0, 0, 0).
distance(0, 3, 6).
distance(0, 20, 10).
distance(0, 63, 20).
distance(3, 0, 6).
distance(3, 3, 0).
distance(3, 20, 4).
distance(3, 63, 14).
distance(20, 0, 10).
distance(20, 3, 4).
distance(20, 20, 0).
distance(20, 63, 10).
distance(63, 0, 20).
distance(63, 3, 14).
distance(63, 20, 10).
distance(63, 63, 0).
link(0, 3, 6).
link(0, 20, 11).
link(3, 20, 4).
link(20, 63, 10).
link(40, 41, 2).
machine("board 7").
memory(ram, 1048576, 1048576, 0, 80).
shares(c, 4).
shares(c, 9).
`
	if got := facts.Format(factsOf(t, board())); got != want {
		t.Error(got)
	}
}

// Nodes of links alone have no distances; a node of a memory alone or of a device alone has.
func TestNodesWithDistances(t *testing.T) {
	h := line()
	h.Cores[0].Node = 1
	h.Links = []api.Link{{A: 1, B: 2, Latency: 3}, {A: 2, B: 4, Latency: 5}, {A: 4, B: 6, Latency: 7}}
	distancesOf := func() string { return facts.Format(facts.Select(factsOf(t, h), "distance", 3)) }
	if got := distancesOf(); got != "distance(1, 1, 0).\n" {
		t.Error(got)
	}
	h.Memories = []api.Memory{{Name: "ram", Size: 4096, Node: 4, Latency: 1}}
	if got := distancesOf(); got != "distance(1, 1, 0).\ndistance(1, 4, 8).\ndistance(4, 1, 8).\ndistance(4, 4, 0).\n" {
		t.Error(got)
	}
	h.Memories, h.Devices = nil, []api.Device{{Name: "uart", Base: 4096, Size: 4096, Node: 6}}
	if got := distancesOf(); got != "distance(1, 1, 0).\ndistance(1, 6, 15).\ndistance(6, 1, 15).\ndistance(6, 6, 0).\n" {
		t.Error(got)
	}
}

func TestFactsOfInvalidHardware(t *testing.T) {
	for err, h := range brokenBoards(t) {
		if db, got := route.Facts(h); got != err || len(db) != 0 {
			t.Errorf("%v: %v, error %d, want %d", h, db, got, err)
		}
	}
}

// largestBoard has as many items of each kind as a valid description may have, and uses all nodes.
func largestBoard() api.Hardware {
	h := api.Hardware{Name: "large"}
	var all []int
	for id := range api.MaxCores {
		h.Cores = append(h.Cores, api.Core{ID: id, Width: 32, Node: id, Speed: 1})
		all = append(all, id)
	}
	for level := 1; level <= 4; level++ {
		for i := range api.MaxCaches / 4 {
			c := api.Cache{Name: "c" + strconv.Itoa(level*100+i), Level: level, Line: 16, Size: 16, Cores: all[2*i : 2*i+2]}
			h.Caches = append(h.Caches, c)
		}
	}
	for i := range api.MaxLinks {
		a, step := i%api.MaxNodes, 1+i/api.MaxNodes
		h.Links = append(h.Links, api.Link{A: a, B: (a + step) % api.MaxNodes, Latency: 1 + step})
	}
	for i := range api.MaxMemories {
		h.Memories = append(h.Memories, api.Memory{Name: "m" + strconv.Itoa(i), Base: uint64(i) << 12, Size: 4096, Node: i, Latency: 1})
	}
	for i := range api.MaxDevices {
		h.Devices = append(h.Devices, api.Device{Name: "d" + strconv.Itoa(i), Base: 1<<20 + uint64(i)<<12, Size: 4096, Node: i, IRQ: i})
	}
	return h
}

// No valid description has more than MaxFacts facts: the largest one has 577 and 64 * 64 distances.
func TestFactsOfLargestBoard(t *testing.T) {
	h := largestBoard()
	db := factsOf(t, h)
	if len(db) != 577+api.MaxNodes*api.MaxNodes {
		t.Error(len(db), "facts")
	}
	checkFacts(t, h, db)
}

// checkFacts compares the facts with those of the hardware and a search that tries all stops on the way.
func checkFacts(t *testing.T, h api.Hardware, db []api.Fact) {
	t.Helper()
	want, err := facts.FromHardware(h)
	if err != api.OK {
		t.Fatal(err)
	}
	used := map[int]bool{}
	for _, c := range h.Cores {
		used[c.Node] = true
	}
	for _, m := range h.Memories {
		used[m.Node] = true
	}
	for _, d := range h.Devices {
		used[d.Node] = true
	}
	var text strings.Builder
	for a, row := range distances(h) {
		for b, d := range row {
			if used[a] && used[b] {
				text.WriteString("distance(" + strconv.Itoa(a) + ", " + strconv.Itoa(b) + ", " + strconv.Itoa(d) + ").\n")
			}
		}
	}
	// The text may be longer than Parse accepts, but each line is not.
	for row := range strings.Lines(text.String()) {
		fact, _, err := facts.Parse(row)
		if err != api.OK {
			t.Fatal(row, err)
		}
		want = append(want, fact...)
	}
	slices.SortFunc(want, facts.Compare)
	if !sameFacts(db, want) {
		t.Errorf("%v: %s, want %s", h, facts.Format(db), facts.Format(want))
	}
}

func TestFactsAgainstReference(t *testing.T) {
	r := rand.New(rand.NewSource(12))
	for range 300 {
		h := randomBoard(r)
		checkFacts(t, h, factsOf(t, h))
	}
}

// P6.6

// A query over the facts of the machine yields the distances that Distance returns for the nodes in use, and no others.
func TestDistancesByQuery(t *testing.T) {
	r := rand.New(rand.NewSource(13))
	q, _, err := query.Parse("select A, B, D where distance(A, B, D)")
	if err != api.OK {
		t.Fatal(err)
	}
	for range 100 {
		h := randomBoard(r)
		list, err := query.Solve(factsOf(t, h), q)
		if err != api.OK {
			t.Fatal(err)
		}
		found := map[[2]int]bool{}
		for _, s := range list {
			a, b := int(s[0].Int), int(s[1].Int)
			if d, err := route.Distance(h, a, b); err != api.OK || s[2] != (api.Value{Kind: api.IntValue, Int: int64(d)}) {
				t.Errorf("%v: %v, want %d, error %d", h, s, d, err)
			}
			found[[2]int{a, b}] = true
		}
		for _, c := range h.Cores {
			for _, d := range h.Cores {
				if !found[[2]int{c.Node, d.Node}] {
					t.Error("no distance from", c.Node, "to", d.Node)
				}
			}
		}
		if len(found) != len(list) {
			t.Error(len(list), "distances of", len(found), "pairs")
		}
	}
}

// A query finds the nearest cores without the functions of this package.
func TestNearestCoreByQuery(t *testing.T) {
	q, _, err := query.Parse("select C, D where core(0, _, N, _), core(C, _, M, _), C != 0, distance(N, M, D), D > 0")
	if err != api.OK {
		t.Fatal(err)
	}
	list, err := query.Minimum(factsOf(t, board()), q, "D")
	var ids []int
	for _, s := range list {
		ids = append(ids, int(s[0].Int))
	}
	if err != api.OK || !slices.Equal(ids, []int{4, 7, 9}) || list[0][1].Int != 14 {
		t.Error(list, err)
	}
}
