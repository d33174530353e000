package route

import "multikernel/api"

// network answers questions about the cores and nodes of a valid description. It keeps the distances that it has
// computed, because most questions about distances are about the same few nodes.
type network struct {
	cores     map[int]api.Core
	links     graph
	distances map[int]map[int]int
}

func networkOf(h api.Hardware) network {
	n := network{cores: map[int]api.Core{}, links: graphOf(h.Links), distances: map[int]map[int]int{}}
	for _, c := range h.Cores {
		n.cores[c.ID] = c
	}
	return n
}

// nodeDistance returns the distance between two nodes that are connected.
func (n network) nodeDistance(a, b int) int {
	if n.distances[a] == nil {
		n.distances[a] = n.links.distancesFrom(a)
	}
	return n.distances[a][b]
}

// coreDistance returns the distance between the nodes of two cores.
func (n network) coreDistance(a, b int) int {
	return n.nodeDistance(n.cores[a].Node, n.cores[b].Node)
}
