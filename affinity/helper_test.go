package affinity_test

import (
	"math/rand"
	"slices"
	"strconv"
	"testing"

	"multikernel/affinity"
	"multikernel/api"
	"multikernel/hwdesc"
)

// board has two cores on one node, cores, memories and devices on others, and a detour that is shorter than a link. The
// distances are 4 from node 10 to 20, 10 to 30 and 1010 to 40, 6 from 20 to 30 and 1006 to 40, and 1000 from 30 to 40.
func board() api.Hardware {
	return api.Hardware{
		Name: "board 7",
		Cores: []api.Core{
			{ID: 9, Width: 39, Node: 30, Speed: 5}, {ID: 31, Width: 32, Node: 10, Speed: 9}, {ID: 0, Width: 32, Node: 40, Speed: 1},
			{ID: 2, Width: 32, Node: 10, Speed: 1}, {ID: 4, Width: 39, Node: 20, Speed: 7},
		},
		Caches: []api.Cache{{Name: "c", Level: 1, Line: 64, Size: 4096, Cores: []int{4, 9}}},
		Links: []api.Link{
			{A: 30, B: 10, Latency: 11}, {A: 10, B: 20, Latency: 4}, {A: 30, B: 20, Latency: 6}, {A: 40, B: 30, Latency: 1000},
			{A: 50, B: 51, Latency: 2},
		},
		Memories: []api.Memory{
			{Name: "high", Base: 1 << 30, Size: 1 << 20, Node: 10, Latency: 7}, {Name: "mid", Base: 1 << 20, Size: 8192, Node: 30, Latency: 3},
			{Name: "far", Base: 1 << 39, Size: 1 << 39, Node: 40, Latency: 1}, {Name: "low", Base: 0, Size: 4096, Node: 10, Latency: 9},
		},
		Devices: []api.Device{
			{Name: "uart", Node: 20, IRQ: 9, Base: 12288, Size: 4096}, {Name: "disk", Node: 40, IRQ: 255, Base: 4096, Size: 8192},
			{Name: "net", Node: 10, IRQ: 0, Base: 16384, Size: 4096},
		},
	}
}

func allCores() []int { return []int{31, 4, 0, 9, 2} }

func clone(h api.Hardware) api.Hardware {
	h.Cores, h.Caches, h.Links = slices.Clone(h.Cores), slices.Clone(h.Caches), slices.Clone(h.Links)
	h.Memories, h.Devices = slices.Clone(h.Memories), slices.Clone(h.Devices)
	for i := range h.Caches {
		h.Caches[i].Cores = slices.Clone(h.Caches[i].Cores)
	}
	return h
}

// brokenBoards returns, for each error of hwdesc.Validate, a description that has it.
func brokenBoards(t *testing.T) map[api.Errno]api.Hardware {
	t.Helper()
	boards := map[api.Errno]api.Hardware{}
	for err, change := range map[api.Errno]func(h *api.Hardware){
		api.ErrName:         func(h *api.Hardware) { h.Name = "" },
		api.ErrLimit:        func(h *api.Hardware) { h.Cores = nil },
		api.ErrRange:        func(h *api.Hardware) { h.Links[0].Latency = 0 },
		api.ErrAlign:        func(h *api.Hardware) { h.Memories[0].Base = 4096 },
		api.ErrDuplicate:    func(h *api.Hardware) { h.Cores[1].ID = 9 },
		api.ErrUnknown:      func(h *api.Hardware) { h.Caches[0].Cores[0] = 1 },
		api.ErrHierarchy:    func(h *api.Hardware) { slices.Reverse(h.Caches[0].Cores) },
		api.ErrOverlap:      func(h *api.Hardware) { h.Devices[0].Base = 1 << 20 },
		api.ErrDisconnected: func(h *api.Hardware) { h.Memories[0].Node = 50 },
	} {
		h := board()
		change(&h)
		if got := hwdesc.Validate(h); got != err {
			t.Fatalf("%v: error %d, want %d", h, got, err)
		}
		boards[err] = h
	}
	return boards
}

// flat returns a machine whose cores, with the IDs from 0 on, are all on one node.
func flat(cores int) api.Hardware {
	h := api.Hardware{Name: "flat"}
	for id := range cores {
		h.Cores = append(h.Cores, api.Core{ID: id, Width: 32, Speed: 1})
	}
	return h
}

func firstIDs(n int) []int {
	var ids []int
	for id := range n {
		ids = append(ids, id)
	}
	return ids
}

func pick[T any](r *rand.Rand, list []T) T { return list[r.Intn(len(list))] }

func shuffle[T any](r *rand.Rand, list []T) {
	r.Shuffle(len(list), func(i, j int) { list[i], list[j] = list[j], list[i] })
}

// randomBoard returns a valid description with at most so many cores, memories and devices. Its nodes and latencies are
// few, so that distances are often equal, or from the whole range.
func randomBoard(r *rand.Rand, cores, memories, devices int) api.Hardware {
	for {
		nodes := r.Perm(api.MaxNodes)[:1+r.Intn(7)]
		latencies := pick(r, [][]int{{1}, {1, 2}, {1, 2, 3, 5}, {1, api.MaxLatency}, {1 + r.Intn(100), 1 + r.Intn(100), 1 + r.Intn(100)}})
		h := api.Hardware{Name: "m"}
		for i, id := range r.Perm(api.MaxCores)[:1+r.Intn(cores)] {
			h.Cores = append(h.Cores, api.Core{ID: id, Width: 32 + i%2*7, Node: pick(r, nodes), Speed: 1 + r.Intn(3)})
		}
		for i, place := range r.Perm(memories)[:r.Intn(memories+1)] {
			m := api.Memory{Name: "n" + strconv.Itoa(i), Base: uint64(place) << 20, Size: 4096 << r.Intn(9), Node: pick(r, nodes), Latency: pick(r, latencies)}
			h.Memories = append(h.Memories, m)
		}
		irqs := r.Perm(api.MaxIRQ)
		for i := range r.Intn(devices + 1) {
			d := api.Device{Name: "n" + strconv.Itoa(i), Base: 1<<30 + uint64(i)<<12, Size: 4096, Node: pick(r, nodes), IRQ: irqs[i]}
			h.Devices = append(h.Devices, d)
		}
		for i, a := range nodes {
			for _, b := range nodes[:i] {
				if r.Intn(2) == 0 {
					h.Links = append(h.Links, api.Link{A: a, B: b, Latency: pick(r, latencies)})
				}
			}
		}
		shuffle(r, h.Links)
		if hwdesc.Validate(h) == api.OK {
			return h
		}
	}
}

// largestBoard has as many cores, memories and devices as a valid description may have, with long and equal ways
// between them.
func largestBoard(r *rand.Rand) api.Hardware {
	h := flat(api.MaxCores)
	for i := range h.Cores {
		h.Cores[i].Node = r.Intn(api.MaxNodes)
	}
	for i := range api.MaxNodes {
		h.Links = append(h.Links, api.Link{A: i, B: (i + 1) % api.MaxNodes, Latency: 1 + r.Intn(3)*(api.MaxLatency-1)/2})
	}
	for i := range api.MaxMemories {
		m := api.Memory{Name: "m" + strconv.Itoa(i), Base: uint64(63-i) << 30, Size: 4096 << r.Intn(19), Node: r.Intn(api.MaxNodes), Latency: 1 + r.Intn(2)}
		h.Memories = append(h.Memories, m)
	}
	for i, irq := range r.Perm(api.MaxIRQ)[:api.MaxDevices] {
		d := api.Device{Name: "d" + strconv.Itoa(i), Base: 1<<39 + uint64(i)<<12, Size: 4096, Node: r.Intn(api.MaxNodes), IRQ: irq}
		h.Devices = append(h.Devices, d)
	}
	return h
}

// randomLive returns some of the cores, at least one, in any order.
func randomLive(r *rand.Rand, h api.Hardware) []int {
	var live []int
	for _, i := range r.Perm(len(h.Cores))[:1+r.Intn(len(h.Cores))] {
		live = append(live, h.Cores[i].ID)
	}
	return live
}

func samePools(a, b []api.Pool) bool {
	return slices.EqualFunc(a, b, func(p, q api.Pool) bool { return p.Core == q.Core && slices.Equal(p.Blocks, q.Blocks) })
}

func checkCost(t *testing.T, h api.Hardware, core int, memory string, want int) {
	t.Helper()
	if got, err := affinity.Cost(h, core, memory); err != api.OK || got != want {
		t.Errorf("core %d, %s: %d, error %d, want %d", core, memory, got, err, want)
	}
}

// checkCostError checks that Cost returns an error and nothing else.
func checkCostError(t *testing.T, h api.Hardware, core int, memory string, want api.Errno) {
	t.Helper()
	if got, err := affinity.Cost(h, core, memory); err != want || got != 0 {
		t.Errorf("core %d, %q: %d, error %d, want %d", core, memory, got, err, want)
	}
}

func checkNearest(t *testing.T, h api.Hardware, core int, want ...string) {
	t.Helper()
	if got, err := affinity.Nearest(h, core); err != api.OK || !slices.Equal(got, want) {
		t.Errorf("core %d: %q, error %d, want %q", core, got, err, want)
	}
}

// checkNearestError checks that Nearest returns an error and nothing else.
func checkNearestError(t *testing.T, h api.Hardware, core int, want api.Errno) {
	t.Helper()
	if got, err := affinity.Nearest(h, core); err != want || len(got) != 0 {
		t.Errorf("core %d: %q, error %d, want %d", core, got, err, want)
	}
}

func checkPools(t *testing.T, h api.Hardware, live []int, want ...api.Pool) {
	t.Helper()
	if got, err := affinity.Pools(h, live); err != api.OK || !samePools(got, want) {
		t.Errorf("%v, cores %v: %v, error %d, want %v", h, live, got, err, want)
	}
}

// checkPoolsError checks that Pools returns an error and nothing else.
func checkPoolsError(t *testing.T, h api.Hardware, live []int, want api.Errno) {
	t.Helper()
	if got, err := affinity.Pools(h, live); err != want || len(got) != 0 {
		t.Errorf("cores %v: %v, error %d, want %d", live, got, err, want)
	}
}

func checkInterrupts(t *testing.T, h api.Hardware, live []int, capacity, wantTotal int, want ...api.Route) {
	t.Helper()
	if got, total, err := affinity.Interrupts(h, live, capacity); err != api.OK || total != wantTotal || !slices.Equal(got, want) {
		t.Errorf("%v, cores %v, capacity %d: %v, total %d, error %d, want %v, total %d", h, live, capacity, got, total, err, want, wantTotal)
	}
}

// checkInterruptsError checks that Interrupts returns an error and nothing else.
func checkInterruptsError(t *testing.T, h api.Hardware, live []int, capacity int, want api.Errno) {
	t.Helper()
	if got, total, err := affinity.Interrupts(h, live, capacity); err != want || total != 0 || len(got) != 0 {
		t.Errorf("cores %v, capacity %d: %v, total %d, error %d, want %d", live, capacity, got, total, err, want)
	}
}

// checkLiveError checks what Pools and Interrupts have in common.
func checkLiveError(t *testing.T, h api.Hardware, live []int, want api.Errno) {
	t.Helper()
	checkPoolsError(t, h, live, want)
	for _, capacity := range []int{0, 1, api.MaxIRQ, api.MaxIRQ + 1} {
		checkInterruptsError(t, h, live, capacity, want)
	}
}
