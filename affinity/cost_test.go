package affinity_test

import (
	"cmp"
	"math"
	"math/rand"
	"slices"
	"testing"

	"multikernel/affinity"
	"multikernel/api"
)

// P7.1

func TestCostOfBoard(t *testing.T) {
	h := board()
	for core, costs := range map[int][4]int{2: {7, 13, 9, 1011}, 31: {7, 13, 9, 1011}, 4: {11, 9, 13, 1007}, 9: {17, 3, 19, 1001}, 0: {1017, 1003, 1019, 1}} {
		for i, memory := range []string{"high", "mid", "low", "far"} {
			checkCost(t, h, core, memory, costs[i])
		}
	}
}

// The greatest distance there is, and the greatest latency.
func TestGreatestCost(t *testing.T) {
	h := flat(1)
	for i := range api.MaxNodes - 1 {
		h.Links = append(h.Links, api.Link{A: i, B: i + 1, Latency: api.MaxLatency})
	}
	h.Memories = []api.Memory{{Name: "ram", Size: 1 << 40, Node: api.MaxNodes - 1, Latency: api.MaxLatency}}
	checkCost(t, h, 0, "ram", api.MaxNodes*api.MaxLatency)
}

func TestCostErrors(t *testing.T) {
	h := board()
	for _, odd := range []int{-1, 1, 3, 10, api.MaxCores, 1 << 32, math.MaxInt, math.MinInt} {
		checkCostError(t, h, odd, "high", api.ErrUnknown)
		checkCostError(t, h, odd, "none", api.ErrUnknown)
		checkNearestError(t, h, odd, api.ErrUnknown)
	}
	// the names of a cache, a device and the machine, and parts of a memory's name
	for _, odd := range []string{"", "c", "uart", "board 7", "hig", "highh", "High", "high ", "high\x00", "hi\xffgh"} {
		checkCostError(t, h, 2, odd, api.ErrUnknown)
	}
	for err, h := range brokenBoards(t) {
		for _, core := range []int{4, 5} {
			checkCostError(t, h, core, "mid", err)
			checkCostError(t, h, core, "none", err)
			checkNearestError(t, h, core, err)
		}
	}
}

func TestNearestOfBoard(t *testing.T) {
	h := board()
	checkNearest(t, h, 2, "high", "low", "mid", "far")
	checkNearest(t, h, 31, "high", "low", "mid", "far")
	checkNearest(t, h, 4, "mid", "high", "low", "far")
	checkNearest(t, h, 9, "mid", "high", "low", "far")
	checkNearest(t, h, 0, "far", "mid", "high", "low")
	h.Memories = nil
	checkNearest(t, h, 0)
	checkCostError(t, h, 0, "high", api.ErrUnknown)
}

// Memories that cost the same come in the order of their bases, not of their names, distances or places in the list.
func TestNearestWithEqualCosts(t *testing.T) {
	h := board()
	h.Memories = []api.Memory{
		{Name: "b", Base: 3 << 20, Size: 4096, Node: 10, Latency: 6}, {Name: "d", Base: 1 << 20, Size: 4096, Node: 10, Latency: 6},
		{Name: "a", Base: 2 << 20, Size: 4096, Node: 20, Latency: 2}, {Name: "c", Base: 0, Size: 4096, Node: 30, Latency: 1},
	}
	checkNearest(t, h, 2, "d", "a", "b", "c")
	checkNearest(t, h, 4, "a", "c", "d", "b")
	for i := range h.Memories {
		h.Memories[i].Base = 1<<40 - 4096 - h.Memories[i].Base
	}
	checkNearest(t, h, 2, "b", "a", "d", "c")
}

func TestCostsAgainstReference(t *testing.T) {
	r := rand.New(rand.NewSource(1))
	ties := 0
	for range 600 {
		h := randomBoard(r, 6, 7, 3)
		n, core := networkOf(h), pick(r, h.Cores)
		cost := func(m api.Memory) int { return n[core.Node][m.Node] + m.Latency }
		for _, m := range h.Memories {
			checkCost(t, h, core.ID, m.Name, cost(m))
		}
		names, err := affinity.Nearest(h, core.ID)
		if err != api.OK || len(names) != len(h.Memories) {
			t.Fatal(h, names, err)
		}
		for i := 1; i < len(names); i++ {
			a, b := memoryOf(t, h, names[i-1]), memoryOf(t, h, names[i])
			if order := cmp.Compare(cost(a), cost(b)); order > 0 || order == 0 && a.Base >= b.Base {
				t.Error(h, names)
			} else if order == 0 {
				ties++
			}
		}
	}
	if ties < 100 {
		t.Error("only", ties, "ties")
	}
}

func memoryOf(t *testing.T, h api.Hardware, name string) api.Memory {
	t.Helper()
	i := slices.IndexFunc(h.Memories, func(m api.Memory) bool { return m.Name == name })
	if i < 0 {
		t.Fatalf("%v has no memory %q", h, name)
	}
	return h.Memories[i]
}

// P7.2

func TestLiveErrors(t *testing.T) {
	h := board()
	for _, odd := range []int{-1, 1, 3, 10, api.MaxCores, 1 << 32, math.MaxInt, math.MinInt} {
		checkLiveError(t, h, []int{odd}, api.ErrUnknown)
		checkLiveError(t, h, []int{odd, odd}, api.ErrUnknown)
		checkLiveError(t, h, []int{9, 9, odd}, api.ErrUnknown)
		checkLiveError(t, h, []int{odd, 9, 2, 9}, api.ErrUnknown)
	}
	checkLiveError(t, h, []int{9, 9}, api.ErrDuplicate)
	checkLiveError(t, h, []int{9, 2, 31, 0, 9}, api.ErrDuplicate)
	checkLiveError(t, h, []int{4, 0, 2, 31, 9, 0}, api.ErrDuplicate)
	checkLiveError(t, flat(1), make([]int, 100000), api.ErrDuplicate)
	checkLiveError(t, h, nil, api.ErrCapacity)
	checkLiveError(t, h, []int{}, api.ErrCapacity)
	h.Memories, h.Devices = nil, nil
	checkLiveError(t, h, nil, api.ErrCapacity)
	for err, h := range brokenBoards(t) {
		for _, live := range [][]int{nil, {9}, {9, 4}, {9, 9}, {77}} {
			checkLiveError(t, h, live, err)
		}
	}
}

func TestLiveInAnyOrder(t *testing.T) {
	r := rand.New(rand.NewSource(2))
	h := board()
	pools := mustPools(t, h, allCores())
	for range 100 {
		live := allCores()
		shuffle(r, live)
		checkPools(t, h, live, pools...)
		checkInterrupts(t, h, live, 1, 0, api.Route{IRQ: 0, Core: 2}, api.Route{IRQ: 9, Core: 4}, api.Route{IRQ: 255, Core: 0})
	}
}
