package route

import "multikernel/api"

// graph has, for each node with links, the latencies to its neighbours.
type graph map[int]map[int]int

func graphOf(links []api.Link) graph {
	g := graph{}
	for _, l := range links {
		g.connect(l.A, l.B, l.Latency)
		g.connect(l.B, l.A, l.Latency)
	}
	return g
}

func (g graph) connect(from, to, latency int) {
	if g[from] == nil {
		g[from] = map[int]int{}
	}
	g[from][to] = latency
}

// distancesFrom returns the distances of the nodes that can be reached. They do not depend on the order in which the
// neighbours of a node are visited.
func (g graph) distancesFrom(start int) map[int]int {
	distances := map[int]int{}
	var waiting queue = &sortedQueue{}
	waiting.put(visit{node: start})
	for !waiting.empty() {
		v := waiting.takeNearest()
		if _, reached := distances[v.node]; reached {
			continue
		}
		distances[v.node] = v.distance
		for next, latency := range g[v.node] {
			waiting.put(visit{node: next, distance: v.distance + latency})
		}
	}
	return distances
}

// leastPath returns the lexicographically least of the shortest paths between two nodes that are connected. Each step
// leads to the least node from which the rest of the way is as short as it can be.
func (g graph) leastPath(a, b int) []int {
	rest := g.distancesFrom(b)
	path := []int{a}
walk:
	for at := a; at != b; {
		for next := range api.MaxNodes {
			latency, linked := g[at][next]
			if linked && latency+rest[next] == rest[at] {
				path = append(path, next)
				at = next
				continue walk
			}
		}
	}
	return path
}
