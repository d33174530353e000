package affinity

// arc leads to a vertex of a graph. Its cost may be negative.
type arc struct{ to, cost int }

// ways has, for each vertex from which the target can be reached, the cost and the first step of a cheapest way.
type ways struct {
	target  int
	reached []bool
	costs   []int
	next    []int
}

// waysTo improves the ways until none can be improved. The graph has no cycle whose cost is negative, so this comes to
// an end.
func waysTo(target int, graph [][]arc) ways {
	n := len(graph)
	w := ways{target: target, reached: make([]bool, n), costs: make([]int, n), next: make([]int, n)}
	w.reached[target] = true
	for improved := true; improved; {
		improved = w.improve(graph)
	}
	return w
}

func (w ways) improve(graph [][]arc) bool {
	improved := false
	for v, arcs := range graph {
		for _, x := range arcs {
			cost := x.cost + w.costs[x.to]
			if w.reached[x.to] && (!w.reached[v] || cost < w.costs[v]) {
				w.reached[v], w.costs[v], w.next[v] = true, cost, x.to
				improved = true
			}
		}
	}
	return improved
}
