package affinity

// nobody is the holder of a device that is not yet assigned.
const nobody = -1

// assignment gives devices to cores. Its changes follow the arcs of a residual graph, whose vertices are first the
// devices, then the cores, and last the capacity that the cores have left.
type assignment struct {
	distances       [][]int // of each device to each core
	cores, capacity int
	holders         []int // of each device the core that has it
	settled         int   // so many devices, from the first one on, keep their cores
}

func newAssignment(distances [][]int, cores, capacity int) *assignment {
	a := &assignment{distances: distances, cores: cores, capacity: capacity}
	for range distances {
		a.holders = append(a.holders, nobody)
	}
	return a
}

func (a *assignment) vertexOf(core int) int { return len(a.holders) + core }

func (a *assignment) capacityLeft() int { return a.vertexOf(a.cores) }

// complete gives one device after the other to a core. The total of those that are given is the least each time, since
// each of these changes follows a cheapest way.
func (a *assignment) complete() {
	for d := range a.holders {
		w := waysTo(a.capacityLeft(), a.residual())
		a.give(d, w.next[d]-a.vertexOf(0), w)
	}
}

// settle gives each device to the first core that it has in any assignment with the least total, where earlier devices
// keep their cores. From one such assignment to another one leads a cycle that costs nothing.
func (a *assignment) settle() {
devices:
	for d, holder := range a.holders {
		a.settled = d
		w := waysTo(d, a.residual())
		for c := range holder {
			back := a.vertexOf(c)
			if w.reached[back] && a.distances[d][c]+w.costs[back] == 0 {
				a.give(d, c, w)
				continue devices
			}
		}
	}
}

// give gives device d to core c, and makes the further changes that lead from there to the target of w.
func (a *assignment) give(d, c int, w ways) {
	a.holders[d] = c
	for v := a.vertexOf(c); v != w.target; v = w.next[v] {
		if v < len(a.holders) {
			a.holders[v] = w.next[v] - a.vertexOf(0)
		}
	}
}

// residual returns the arcs of each vertex. An arc from a device to a core gives the device to the core, and an arc from
// a core to a device takes it away. An arc from a core to the capacity that is left uses some of it up, and an arc from
// there to a core frees some, which needs a device that the core can do without: the next arc takes it away.
func (a *assignment) residual() [][]arc {
	left := a.capacityLeft()
	graph := make([][]arc, left+1)
	for d := a.settled; d < len(a.holders); d++ {
		for c, distance := range a.distances[d] {
			core := a.vertexOf(c)
			if a.holders[d] == c {
				graph[core] = append(graph[core], arc{to: d, cost: -distance})
			} else {
				graph[d] = append(graph[d], arc{to: core, cost: distance})
			}
		}
	}
	for c := range a.cores {
		core := a.vertexOf(c)
		if a.load(c) < a.capacity {
			graph[core] = append(graph[core], arc{to: left})
		}
		graph[left] = append(graph[left], arc{to: core})
	}
	return graph
}

func (a *assignment) load(core int) int {
	n := 0
	for _, holder := range a.holders {
		if holder == core {
			n++
		}
	}
	return n
}
