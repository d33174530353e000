package affinity_test

import (
	"cmp"
	"math"
	"slices"
	"testing"

	"multikernel/affinity"
	"multikernel/api"
)

// unreachable is greater than each distance.
const unreachable = math.MaxInt / 4

// network has the distances between all nodes, by trying each node as a stop on the way between each two others.
type network [api.MaxNodes][api.MaxNodes]int

func networkOf(h api.Hardware) *network {
	var n network
	for a := range n {
		for b := range n {
			if a != b {
				n[a][b] = unreachable
			}
		}
	}
	for _, l := range h.Links {
		n[l.A][l.B], n[l.B][l.A] = l.Latency, l.Latency
	}
	for stop := range n {
		for a := range n {
			for b := range n {
				n[a][b] = min(n[a][b], n[a][stop]+n[stop][b])
			}
		}
	}
	return &n
}

func nodeOf(h api.Hardware, id int) int {
	return h.Cores[slices.IndexFunc(h.Cores, func(c api.Core) bool { return c.ID == id })].Node
}

// expectedPools reads P7.3 for the blocks of each core, one core after the other.
func expectedPools(h api.Hardware, live []int) []api.Pool {
	n := networkOf(h)
	var pools []api.Pool
	for _, id := range slices.Sorted(slices.Values(live)) {
		p := api.Pool{Core: id}
		for _, m := range h.Memories {
			candidates := nearestCores(n, h, live, m.Node)
			k := len(candidates)
			count := 1
			for count < k && count*4096 < int(m.Size) {
				count += count
			}
			size := int(m.Size) / count
			for i := range count {
				if candidates[i%k] == id {
					p.Blocks = append(p.Blocks, api.Range{Base: int(m.Base) + i*size, Bits: int(math.Log2(float64(size)))})
				}
			}
		}
		slices.SortFunc(p.Blocks, func(a, b api.Range) int { return cmp.Compare(a.Base, b.Base) })
		pools = append(pools, p)
	}
	return pools
}

// nearestCores returns the IDs of the live cores that are as near to a node as any, in ascending order. A memory's latency
// does not matter here, since it is the same for all cores.
func nearestCores(n *network, h api.Hardware, live []int, node int) []int {
	var nearest []int
	for _, id := range live {
		if !slices.ContainsFunc(live, func(other int) bool { return n[nodeOf(h, other)][node] < n[nodeOf(h, id)][node] }) {
			nearest = append(nearest, id)
		}
	}
	slices.Sort(nearest)
	return nearest
}

// problem is an assignment of devices, in ascending order of IRQ, to live cores, in ascending order of ID.
type problem struct {
	irqs, ids []int
	distances [][]int // of each device to each core
	capacity  int
}

func problemOf(h api.Hardware, live []int, capacity int) problem {
	n := networkOf(h)
	p := problem{ids: slices.Sorted(slices.Values(live)), capacity: capacity}
	nodes := map[int]int{}
	for _, d := range h.Devices {
		p.irqs = append(p.irqs, d.IRQ)
		nodes[d.IRQ] = d.Node
	}
	slices.Sort(p.irqs)
	for _, irq := range p.irqs {
		var row []int
		for _, id := range p.ids {
			row = append(row, n[nodes[irq]][nodeOf(h, id)])
		}
		p.distances = append(p.distances, row)
	}
	return p
}

// firstOfAll tries all assignments in lexicographic order, and returns the first of those with the least total.
func (p problem) firstOfAll() ([]int, int) {
	best, least := []int{}, unreachable
	var try func(chosen []int, total int)
	try = func(chosen []int, total int) {
		if len(chosen) == len(p.irqs) {
			if total < least {
				best, least = slices.Clone(chosen), total
			}
			return
		}
		for c, distance := range p.distances[len(chosen)] {
			if count(chosen, c) < p.capacity {
				try(append(chosen, c), total+distance)
			}
		}
	}
	try(nil, 0)
	return best, least
}

func count(list []int, x int) int {
	n := 0
	for _, y := range list {
		if y == x {
			n++
		}
	}
	return n
}

// firstByTotals decides for one device after the other which core it can have without a greater total.
func (p problem) firstByTotals() ([]int, int) {
	rows := make([][]int, len(p.distances))
	for d := range rows {
		rows[d] = slices.Clone(p.distances[d])
	}
	least := leastTotal(rows, p.capacity)
	chosen := make([]int, len(rows))
	for d, row := range rows {
		for c := range row {
			rows[d] = slices.Repeat([]int{unreachable / 64}, len(row))
			rows[d][c] = row[c]
			if leastTotal(rows, p.capacity) == least {
				chosen[d] = c
				break
			}
		}
	}
	return chosen, least
}

// leastTotal is the Hungarian algorithm, with as many columns for each core as it can have devices.
func leastTotal(rows [][]int, capacity int) int {
	if len(rows) == 0 {
		return 0
	}
	columns := len(rows[0]) * capacity
	rowPrice, columnPrice, rowOf, before := make([]int, len(rows)+1), make([]int, columns+1), make([]int, columns+1), make([]int, columns+1)
	for i := 1; i <= len(rows); i++ {
		rowOf[0] = i
		slack, done := slices.Repeat([]int{math.MaxInt}, columns+1), make([]bool, columns+1)
		at := 0
		for rowOf[at] != 0 {
			done[at] = true
			row, delta, next := rowOf[at], math.MaxInt, 0
			for j := 1; j <= columns; j++ {
				if done[j] {
					continue
				}
				if s := rows[row-1][(j-1)/capacity] - rowPrice[row] - columnPrice[j]; s < slack[j] {
					slack[j], before[j] = s, at
				}
				if slack[j] < delta {
					delta, next = slack[j], j
				}
			}
			for j := range columns + 1 {
				if done[j] {
					rowPrice[rowOf[j]] += delta
					columnPrice[j] -= delta
				} else if slack[j] != math.MaxInt {
					slack[j] -= delta
				}
			}
			at = next
		}
		for at != 0 {
			rowOf[at] = rowOf[before[at]]
			at = before[at]
		}
	}
	return -columnPrice[0]
}

// check compares the routes of Interrupts with those of a reference.
func (p problem) check(t *testing.T, h api.Hardware, live []int, reference func() ([]int, int)) {
	t.Helper()
	chosen, total := reference()
	var want []api.Route
	for d, c := range chosen {
		want = append(want, api.Route{IRQ: p.irqs[d], Core: p.ids[c]})
	}
	checkInterrupts(t, h, live, p.capacity, total, want...)
}

// checkAgainstFirst checks Interrupts, or its error if there are too many devices.
func checkAgainstFirst(t *testing.T, h api.Hardware, live []int, capacity int) {
	t.Helper()
	p := problemOf(h, live, capacity)
	if len(p.irqs) > len(live)*capacity {
		checkInterruptsError(t, h, live, capacity, api.ErrCapacity)
		return
	}
	p.check(t, h, live, p.firstOfAll)
	p.check(t, h, live, p.firstByTotals)
}

func mustPools(t *testing.T, h api.Hardware, live []int) []api.Pool {
	t.Helper()
	pools, err := affinity.Pools(h, live)
	if err != api.OK {
		t.Fatalf("%v, cores %v: error %d", h, live, err)
	}
	return pools
}
