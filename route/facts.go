package route

import (
	"slices"

	"multikernel/api"
	"multikernel/facts"
)

// Facts returns the facts of h and the distances between the nodes that are in use.
func Facts(h api.Hardware) ([]api.Fact, api.Errno) {
	list, err := facts.FromHardware(h)
	if err != api.OK {
		return nil, err
	}
	n, nodes := networkOf(h), usedNodes(h)
	for _, a := range nodes {
		for _, b := range nodes {
			list = append(list, distanceFact(a, b, n.nodeDistance(a, b)))
		}
	}
	if len(list) > api.MaxFacts {
		return nil, api.ErrLimit
	}
	slices.SortFunc(list, facts.Compare)
	return list, api.OK
}

// usedNodes returns the nodes of the cores, memories and devices, each once.
func usedNodes(h api.Hardware) []int {
	var nodes []int
	for _, c := range h.Cores {
		nodes = append(nodes, c.Node)
	}
	for _, m := range h.Memories {
		nodes = append(nodes, m.Node)
	}
	for _, d := range h.Devices {
		nodes = append(nodes, d.Node)
	}
	slices.Sort(nodes)
	return slices.Compact(nodes)
}

func distanceFact(numbers ...int) api.Fact {
	f := api.Fact{Relation: "distance"}
	for _, n := range numbers {
		f.Args = append(f.Args, api.Value{Kind: api.IntValue, Int: int64(n)})
	}
	return f
}
