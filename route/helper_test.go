package route_test

import (
	"math"
	"math/rand"
	"slices"
	"strconv"
	"testing"

	"multikernel/api"
	"multikernel/hwdesc"
	"multikernel/route"
)

// unreachable is greater than each distance.
const unreachable = math.MaxInt / 4

// line returns a machine with core i on node i, and with links between consecutive nodes.
func line(latencies ...int) api.Hardware {
	h := api.Hardware{Name: "line", Cores: []api.Core{{ID: 0, Width: 32, Node: 0, Speed: 1}}}
	for i, latency := range latencies {
		h.Cores = append(h.Cores, api.Core{ID: i + 1, Width: 39, Node: i + 1, Speed: 1})
		h.Links = append(h.Links, api.Link{A: i, B: i + 1, Latency: latency})
	}
	return h
}

// board has several cores on some nodes, nodes without anything on the way, and nodes that are not connected.
func board() api.Hardware {
	return api.Hardware{
		Name: "board 7",
		Cores: []api.Core{
			{ID: 9, Width: 39, Node: 3, Speed: 5}, {ID: 31, Width: 32, Node: 63, Speed: 1000000}, {ID: 0, Width: 32, Node: 63, Speed: 1},
			{ID: 4, Width: 32, Node: 3, Speed: 7}, {ID: 7, Width: 39, Node: 3, Speed: 7}, {ID: 2, Width: 32, Node: 0, Speed: 1},
		},
		Caches:   []api.Cache{{Name: "c", Level: 1, Line: 64, Size: 4096, Cores: []int{4, 9}}},
		Links:    []api.Link{{A: 63, B: 20, Latency: 10}, {A: 3, B: 20, Latency: 4}, {A: 0, B: 3, Latency: 6}, {A: 0, B: 20, Latency: 11}, {A: 40, B: 41, Latency: 2}},
		Memories: []api.Memory{{Name: "ram", Base: 1 << 20, Size: 1 << 20, Node: 0, Latency: 80}},
		Devices:  []api.Device{{Name: "uart", Node: 20, IRQ: 9, Base: 0, Size: 4096}},
	}
}

func clone(h api.Hardware) api.Hardware {
	h.Cores, h.Caches, h.Links = slices.Clone(h.Cores), slices.Clone(h.Caches), slices.Clone(h.Links)
	h.Memories, h.Devices = slices.Clone(h.Memories), slices.Clone(h.Devices)
	for i := range h.Caches {
		h.Caches[i].Cores = slices.Clone(h.Caches[i].Cores)
	}
	return h
}

// brokenBoards returns, for each error of hwdesc.Validate, a description that has it.
func brokenBoards(t *testing.T) map[api.Errno]api.Hardware {
	t.Helper()
	boards := map[api.Errno]api.Hardware{}
	for err, change := range map[api.Errno]func(h *api.Hardware){
		api.ErrName:         func(h *api.Hardware) { h.Name = "" },
		api.ErrLimit:        func(h *api.Hardware) { h.Cores = nil },
		api.ErrRange:        func(h *api.Hardware) { h.Links[0].Latency = 0 },
		api.ErrAlign:        func(h *api.Hardware) { h.Memories[0].Base = 4096 },
		api.ErrDuplicate:    func(h *api.Hardware) { h.Cores[1].ID = 9 },
		api.ErrUnknown:      func(h *api.Hardware) { h.Caches[0].Cores[0] = 1 },
		api.ErrHierarchy:    func(h *api.Hardware) { slices.Reverse(h.Caches[0].Cores) },
		api.ErrOverlap:      func(h *api.Hardware) { h.Devices[0].Base = 1 << 20 },
		api.ErrDisconnected: func(h *api.Hardware) { h.Links = h.Links[1:] },
	} {
		h := board()
		change(&h)
		if got := hwdesc.Validate(h); got != err {
			t.Fatalf("%v: error %d, want %d", h, got, err)
		}
		boards[err] = h
	}
	return boards
}

func pick[T any](r *rand.Rand, list []T) T { return list[r.Intn(len(list))] }

// randomBoard returns a valid description. Its nodes and latencies are few, so that distances are often equal, or from
// the whole range.
func randomBoard(r *rand.Rand) api.Hardware {
	for {
		nodes := r.Perm(api.MaxNodes)[:1+r.Intn(7)]
		latencies := pick(r, [][]int{{1}, {1, 2}, {1, 2, 3, 5}, {1, api.MaxLatency}, {1 + r.Intn(100), 1 + r.Intn(100), 1 + r.Intn(100)}})
		h := api.Hardware{Name: "m"}
		for i, id := range r.Perm(api.MaxCores)[:1+r.Intn(9)] {
			h.Cores = append(h.Cores, api.Core{ID: id, Width: 32 + i%2*7, Node: pick(r, nodes), Speed: 1 + r.Intn(3)})
		}
		for i := range r.Intn(3) {
			name := "n" + strconv.Itoa(i)
			h.Memories = append(h.Memories, api.Memory{Name: name, Base: uint64(i+1) << 20, Size: 4096, Node: pick(r, nodes), Latency: 1})
			h.Devices = append(h.Devices, api.Device{Name: name, Base: uint64(i+9) << 20, Size: 4096, Node: pick(r, nodes), IRQ: i})
		}
		for i, a := range nodes {
			for _, b := range nodes[:i] {
				if r.Intn(2) == 0 {
					h.Links = append(h.Links, api.Link{A: a, B: b, Latency: pick(r, latencies)})
				}
			}
		}
		r.Shuffle(len(h.Links), func(i, j int) { h.Links[i], h.Links[j] = h.Links[j], h.Links[i] })
		if hwdesc.Validate(h) == api.OK {
			return h
		}
	}
}

func coreIDs(h api.Hardware) []int {
	var ids []int
	for _, c := range h.Cores {
		ids = append(ids, c.ID)
	}
	return ids
}

func coreOf(h api.Hardware, id int) api.Core {
	return h.Cores[slices.IndexFunc(h.Cores, func(c api.Core) bool { return c.ID == id })]
}

// distances returns the distances between all nodes, by trying each node as a stop on the way between each two others.
func distances(h api.Hardware) [api.MaxNodes][api.MaxNodes]int {
	var d [api.MaxNodes][api.MaxNodes]int
	for a := range d {
		for b := range d {
			if a != b {
				d[a][b] = unreachable
			}
		}
	}
	for _, l := range h.Links {
		d[l.A][l.B], d[l.B][l.A] = l.Latency, l.Latency
	}
	for stop := range d {
		for a := range d {
			for b := range d {
				d[a][b] = min(d[a][b], d[a][stop]+d[stop][b])
			}
		}
	}
	return d
}

func sameTree(a, b api.Tree) bool { return a.Root == b.Root && slices.Equal(a.Edges, b.Edges) }

// tree returns a tree whose edges are given as pairs of sender and receiver.
func tree(root int, pairs ...[2]int) api.Tree {
	t := api.Tree{Root: root}
	for _, p := range pairs {
		t.Edges = append(t.Edges, api.Edge{From: p[0], To: p[1]})
	}
	return t
}

// checkDistance checks Distance and the path that has this distance.
func checkDistance(t *testing.T, h api.Hardware, a, b, want int, path ...int) {
	t.Helper()
	if got, err := route.Distance(h, a, b); err != api.OK || got != want {
		t.Errorf("%v from %d to %d: %d, error %d, want %d", h.Links, a, b, got, err, want)
	}
	if got, err := route.Path(h, a, b); err != api.OK || !slices.Equal(got, path) {
		t.Errorf("%v from %d to %d: %v, error %d, want %v", h.Links, a, b, got, err, path)
	}
}

// checkDistanceError checks that Distance and Path return an error and nothing else.
func checkDistanceError(t *testing.T, h api.Hardware, a, b int, want api.Errno) {
	t.Helper()
	if got, err := route.Distance(h, a, b); err != want || got != 0 {
		t.Errorf("from %d to %d: %d, error %d, want %d", a, b, got, err, want)
	}
	if got, err := route.Path(h, a, b); err != want || len(got) != 0 {
		t.Errorf("from %d to %d: %v, error %d, want %d", a, b, got, err, want)
	}
}

// checkTree checks Validate, and that Arrivals and Completion return its error and nothing else.
func checkTree(t *testing.T, h api.Hardware, tr api.Tree, want api.Errno) {
	t.Helper()
	if err := route.Validate(h, tr); err != want {
		t.Errorf("%v: error %d, want %d", tr, err, want)
	}
	if want == api.OK {
		want = api.ErrRange
	}
	checkTimesError(t, h, tr, -1, want)
}

func checkTimes(t *testing.T, h api.Hardware, tr api.Tree, cost int, want ...int) {
	t.Helper()
	if got, err := route.Arrivals(h, tr, cost); err != api.OK || !slices.Equal(got, want) {
		t.Errorf("%v at cost %d: %v, error %d, want %v", tr, cost, got, err, want)
	}
	last := 0
	for _, time := range want {
		last = max(last, time)
	}
	if got, err := route.Completion(h, tr, cost); err != api.OK || got != last {
		t.Errorf("%v at cost %d: %d, error %d, want %d", tr, cost, got, err, last)
	}
}

func checkTimesError(t *testing.T, h api.Hardware, tr api.Tree, cost int, want api.Errno) {
	t.Helper()
	if got, err := route.Arrivals(h, tr, cost); err != want || len(got) != 0 {
		t.Errorf("%v at cost %d: %v, error %d, want %d", tr, cost, got, err, want)
	}
	if got, err := route.Completion(h, tr, cost); err != want || got != 0 {
		t.Errorf("%v at cost %d: %d, error %d, want %d", tr, cost, got, err, want)
	}
}

func checkPlan(t *testing.T, h api.Hardware, root int, members []int, cost int, want api.Tree) {
	t.Helper()
	if got, err := route.Plan(h, root, members, cost); err != api.OK || !sameTree(got, want) {
		t.Errorf("%d to %v at cost %d: %v, error %d, want %v", root, members, cost, got, err, want)
	}
}

// checkPlanError checks that Plan returns an error and nothing else.
func checkPlanError(t *testing.T, h api.Hardware, root int, members []int, cost int, want api.Errno) {
	t.Helper()
	if got, err := route.Plan(h, root, members, cost); err != want || !sameTree(got, api.Tree{}) {
		t.Errorf("%d to %v at cost %d: %v, error %d, want %d", root, members, cost, got, err, want)
	}
}
