package affinity_test

import (
	"math"
	"math/rand"
	"slices"
	"strconv"
	"testing"

	"multikernel/affinity"
	"multikernel/api"
)

// P7.4

func TestInterruptsOfBoard(t *testing.T) {
	h := board()
	routes := func(net, uart, disk int) []api.Route {
		return []api.Route{{IRQ: 0, Core: net}, {IRQ: 9, Core: uart}, {IRQ: 255, Core: disk}}
	}
	checkInterrupts(t, h, allCores(), 1, 0, routes(2, 4, 0)...)
	checkInterrupts(t, h, allCores(), api.MaxIRQ, 0, routes(2, 4, 0)...)
	checkInterrupts(t, h, []int{9, 2}, 2, 1004, routes(2, 2, 9)...)
	checkInterrupts(t, h, []int{9, 31, 2}, 1, 1004, routes(2, 31, 9)...)
	checkInterrupts(t, h, []int{9, 31, 4}, 1, 1000, routes(31, 4, 9)...)
	checkInterrupts(t, h, []int{4}, 3, 1010, routes(4, 4, 4)...)
	checkInterrupts(t, h, []int{4, 9}, 2, 1004, routes(4, 4, 9)...)
	checkInterrupts(t, h, []int{0, 2}, 2, 4, routes(2, 2, 0)...)
	checkInterrupts(t, h, []int{0, 9, 4}, 1, 10, routes(4, 9, 0)...)
}

func TestInterruptsErrors(t *testing.T) {
	h := board()
	for _, odd := range []int{0, -1, api.MaxIRQ + 1, 1 << 32, 1 << 62, math.MaxInt, math.MinInt} {
		checkInterruptsError(t, h, []int{4}, odd, api.ErrRange)
		checkInterruptsError(t, h, allCores(), odd, api.ErrRange)
	}
	checkInterruptsError(t, h, []int{4}, 1, api.ErrCapacity)
	checkInterruptsError(t, h, []int{4}, 2, api.ErrCapacity)
	checkInterruptsError(t, h, []int{4, 9}, 1, api.ErrCapacity)
	for devices := range api.MaxDevices + 1 {
		checkFlat(t, devices)
	}
}

// checkFlat checks that devices on the node of all cores are assigned in order, as long as there are not too many.
func checkFlat(t *testing.T, devices int) {
	t.Helper()
	h := flat(4)
	for i := range devices {
		h.Devices = append(h.Devices, api.Device{Name: "d" + strconv.Itoa(i), IRQ: 2 * i, Base: uint64(i) << 12, Size: 4096})
	}
	for _, capacity := range []int{1, 2, 5, 8, 10, api.MaxIRQ} {
		for cores := 1; cores <= 4; cores++ {
			var want []api.Route
			for i := range devices {
				want = append(want, api.Route{IRQ: 2 * i, Core: i / capacity})
			}
			if devices > capacity*cores {
				checkInterruptsError(t, h, firstIDs(cores), capacity, api.ErrCapacity)
			} else {
				checkInterrupts(t, h, firstIDs(cores), capacity, 0, want...)
			}
		}
	}
}

func TestInterruptsWithoutDevices(t *testing.T) {
	h := board()
	h.Devices = nil
	checkInterrupts(t, h, []int{9}, 1, 0)
	checkInterrupts(t, h, allCores(), api.MaxIRQ, 0)
	checkInterruptsError(t, h, []int{9}, 0, api.ErrRange)
}

// road returns a machine with links between consecutive nodes, with core i on node cores[i] and a device with the IRQ i on
// node devices[i].
func road(latencies, cores, devices []int) api.Hardware {
	h := flat(len(cores))
	for i, latency := range latencies {
		h.Links = append(h.Links, api.Link{A: i, B: i + 1, Latency: latency})
	}
	for i, node := range cores {
		h.Cores[i].Node = node
	}
	for i, node := range devices {
		h.Devices = append(h.Devices, api.Device{Name: "d" + strconv.Itoa(i), Node: node, IRQ: i, Base: uint64(i) << 12, Size: 4096})
	}
	return h
}

func checkRoad(t *testing.T, h api.Hardware, capacity, total int, cores ...int) {
	t.Helper()
	var want []api.Route
	for irq, core := range cores {
		want = append(want, api.Route{IRQ: irq, Core: core})
	}
	checkInterrupts(t, h, firstIDs(len(h.Cores)), capacity, total, want...)
}

// Each device that comes first takes the nearest core, and must leave it to a later one.
func TestInterruptsThatMove(t *testing.T) {
	checkRoad(t, road([]int{5, 5}, []int{0, 1}, []int{1, 2}), 1, 10, 0, 1)
	checkRoad(t, road([]int{5, 4, 3, 2}, []int{0, 1, 2, 3}, []int{1, 2, 3, 4}), 1, 14, 0, 1, 2, 3)
	checkRoad(t, road([]int{5, 4, 3, 2}, []int{0, 1, 2, 3}, []int{1, 2, 3, 4}), 2, 2, 1, 2, 3, 3)
	checkRoad(t, road([]int{5, 4, 3, 2}, []int{0, 1, 2, 3}, []int{4, 4, 4, 4}), 2, 14, 2, 2, 3, 3)
}

// Of the assignments with the total 4, the one in which device 0 has the nearer core is found first. From there to the
// other one, core 0 receives one device more and core 2 one less.
func TestInterruptsThatChangeLoads(t *testing.T) {
	checkRoad(t, road([]int{3, 1, 1, 3}, []int{0, 2, 4}, []int{1, 3}), 1, 4, 0, 1)
	checkRoad(t, road([]int{3, 1, 1, 3}, []int{4, 2, 0}, []int{1, 3}), 1, 4, 1, 0)
	checkRoad(t, road([]int{3, 1, 1, 3}, []int{0, 2, 4}, []int{1, 3, 1, 3}), 2, 8, 0, 1, 0, 1)
}

// A lesser core for an earlier device counts more than lesser cores for all later ones.
func TestInterruptsInLexicographicOrder(t *testing.T) {
	// both devices may have either core, and so may all four
	checkRoad(t, road([]int{1, 1}, []int{0, 2}, []int{1, 1}), 1, 2, 0, 1)
	checkRoad(t, road([]int{1, 1}, []int{0, 2}, []int{1, 1, 1, 1}), 3, 4, 0, 0, 0, 1)
	// device 1 can have core 0 for nothing only if device 0 does not have it
	checkRoad(t, road([]int{2, 2}, []int{0, 2}, []int{1, 0}), 1, 2, 1, 0)
	checkRoad(t, road([]int{2, 2, 2, 2}, []int{0, 2, 4}, []int{1, 1, 3}), 1, 6, 0, 1, 2)
}

// The total is the greatest there is.
func TestGreatestTotal(t *testing.T) {
	latencies := slices.Repeat([]int{api.MaxLatency}, api.MaxNodes-1)
	h := road(latencies, []int{0}, slices.Repeat([]int{api.MaxNodes - 1}, api.MaxDevices))
	checkRoad(t, h, api.MaxDevices, 2016*api.MaxLatency, make([]int, api.MaxDevices)...)
	checkInterruptsError(t, h, []int{0}, api.MaxDevices-1, api.ErrCapacity)
}

func TestInterruptsAgainstReference(t *testing.T) {
	r := rand.New(rand.NewSource(5))
	for range 1500 {
		h := randomBoard(r, 5, 2, 6)
		checkAgainstFirst(t, h, randomLive(r, h), 1+r.Intn(4))
	}
}

func TestInterruptsOfManyDevices(t *testing.T) {
	r := rand.New(rand.NewSource(6))
	for _, board := range []func() api.Hardware{
		func() api.Hardware { return largestBoard(r) },
		func() api.Hardware { return randomBoard(r, 12, 2, api.MaxDevices) },
	} {
		for range 40 {
			h := board()
			live := randomLive(r, h)
			least := max(1, (len(h.Devices)+len(live)-1)/len(live))
			p := problemOf(h, live, least+r.Intn(2))
			p.check(t, h, live, p.firstByTotals)
		}
	}
	h := largestBoard(r)
	p := problemOf(h, firstIDs(api.MaxCores), 1)
	p.check(t, h, p.ids, p.firstByTotals)
}

// P7.5

func TestInterruptsOfNearestCores(t *testing.T) {
	r := rand.New(rand.NewSource(7))
	for i := range 400 {
		h := randomBoard(r, 9, 2, 9)
		if i%20 == 0 {
			h = largestBoard(r)
		}
		live, n := randomLive(r, h), networkOf(h)
		nearest, total := map[int]int{}, 0
		for _, d := range h.Devices {
			nearest[d.IRQ] = nearestCores(n, h, live, d.Node)[0]
			total += n[d.Node][nodeOf(h, nearest[d.IRQ])]
		}
		routes, got, err := affinity.Interrupts(h, live, max(1, len(h.Devices)+r.Intn(2)))
		if err != api.OK || got != total || len(routes) != len(h.Devices) {
			t.Error(h, live, routes, got, err, total)
		}
		for _, x := range routes {
			if x.Core != nearest[x.IRQ] {
				t.Error(h, live, x, nearest[x.IRQ])
			}
		}
	}
}
