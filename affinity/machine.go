package affinity

import (
	"cmp"
	"slices"

	"multikernel/api"
	"multikernel/route"
)

// machine is a valid description with the distances between its nodes.
type machine struct {
	api.Hardware
	distances map[nodes]int
}

type nodes struct{ from, to int64 }

// machineOf returns the error of hwdesc.Validate if h is not valid. It reads the distances from the facts, which route
// computes at once, where route.Distance would validate h anew for each distance.
func machineOf(h api.Hardware) (machine, api.Errno) {
	list, err := route.Facts(h)
	if err != api.OK {
		return machine{}, err
	}
	m := machine{Hardware: h, distances: map[nodes]int{}}
	for _, f := range list {
		if f.Relation == "distance" {
			m.distances[nodes{f.Args[0].Int, f.Args[1].Int}] = int(f.Args[2].Int)
		}
	}
	return m, api.OK
}

// machineWithLive also returns the live cores in ascending order of ID.
func machineWithLive(h api.Hardware, live []int) (machine, []api.Core, api.Errno) {
	m, err := machineOf(h)
	if err != api.OK {
		return machine{}, nil, err
	}
	cores, err := m.liveCores(live)
	return m, cores, err
}

func (m machine) liveCores(live []int) ([]api.Core, api.Errno) {
	var cores []api.Core
	for _, id := range live {
		c, known := m.core(id)
		if !known {
			return nil, api.ErrUnknown
		}
		cores = append(cores, c)
	}
	slices.SortFunc(cores, func(a, b api.Core) int { return cmp.Compare(a.ID, b.ID) })
	if len(slices.Compact(cores)) < len(live) {
		return nil, api.ErrDuplicate
	}
	if len(live) == 0 {
		return nil, api.ErrCapacity
	}
	return cores, api.OK
}

func (m machine) core(id int) (api.Core, bool) {
	for _, c := range m.Cores {
		if c.ID == id {
			return c, true
		}
	}
	return api.Core{}, false
}

func (m machine) distance(a, b int) int { return m.distances[nodes{int64(a), int64(b)}] }

func (m machine) cost(c api.Core, x api.Memory) int { return m.distance(c.Node, x.Node) + x.Latency }

func compareBases(a, b api.Memory) int { return cmp.Compare(a.Base, b.Base) }
