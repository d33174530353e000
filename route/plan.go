package route

import (
	"cmp"
	"slices"

	"multikernel/api"
	"multikernel/hwdesc"
)

// Plan returns the tree by which the root reaches the members.
func Plan(h api.Hardware, root int, members []int, cost int) (api.Tree, api.Errno) {
	if err := hwdesc.Validate(h); err != api.OK {
		return api.Tree{}, err
	}
	reached := append([]int{root}, members...)
	switch {
	case !allCores(h, reached):
		return api.Tree{}, api.ErrUnknown
	case repeats(reached):
		return api.Tree{}, api.ErrDuplicate
	case !isCost(cost):
		return api.Tree{}, api.ErrRange
	}
	p := plan{network: networkOf(h), cost: cost, children: map[int][]int{}}
	p.adopt(root, members)
	p.arrange(root)
	return api.Tree{Root: root, Edges: p.edges(root)}, api.OK
}

// plan is a tree under construction: the children of each core.
type plan struct {
	network  network
	cost     int
	children map[int][]int
}

// adopt gives each member its parent. The fastest members come first, so that the first one on a node is its forwarder;
// the root is the forwarder of its own node.
func (p plan) adopt(root int, members []int) {
	members = slices.Clone(members)
	slices.SortFunc(members, p.fastestFirst)
	forwarders := map[int]int{p.network.cores[root].Node: root}
	for _, member := range members {
		node := p.network.cores[member].Node
		parent, found := forwarders[node]
		if !found {
			forwarders[node] = member
			parent = root
		}
		p.children[parent] = append(p.children[parent], member)
	}
}

func (p plan) fastestFirst(a, b int) int {
	return cmp.Or(cmp.Compare(p.network.cores[b].Speed, p.network.cores[a].Speed), cmp.Compare(a, b))
}

// arrange puts the children of a core and of its descendants into the order in which they are sent to, and returns the
// height of the core.
func (p plan) arrange(core int) int {
	children := p.children[core]
	remaining := map[int]int{} // the time from the end of the transmission to a child until all below it have the message
	for _, child := range children {
		remaining[child] = p.network.coreDistance(core, child) + p.arrange(child)
	}
	slices.SortFunc(children, func(a, b int) int {
		return cmp.Or(cmp.Compare(remaining[b], remaining[a]), cmp.Compare(a, b))
	})
	height := 0
	for i, child := range children {
		height = max(height, (i+1)*p.cost+remaining[child])
	}
	return height
}

// edges returns the edges of the root, and then those of its children.
func (p plan) edges(root int) []api.Edge {
	var list []api.Edge
	for _, sender := range append([]int{root}, p.children[root]...) {
		for _, child := range p.children[sender] {
			list = append(list, api.Edge{From: sender, To: child})
		}
	}
	return list
}
