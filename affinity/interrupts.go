package affinity

import (
	"cmp"
	"slices"

	"multikernel/api"
)

// assign returns the routes and the total of an assignment to cores that are in ascending order of ID and can receive
// all interrupts.
func (m machine) assign(cores []api.Core, capacity int) (routes []api.Route, total int) {
	devices := slices.SortedFunc(slices.Values(m.Devices), func(a, b api.Device) int { return cmp.Compare(a.IRQ, b.IRQ) })
	distances := make([][]int, len(devices))
	for i, d := range devices {
		for _, c := range cores {
			distances[i] = append(distances[i], m.distance(d.Node, c.Node))
		}
	}
	a := newAssignment(distances, len(cores), capacity)
	a.complete()
	a.settle()
	for i, d := range devices {
		holder := a.holders[i]
		routes = append(routes, api.Route{IRQ: d.IRQ, Core: cores[holder].ID})
		total += distances[i][holder]
	}
	return routes, total
}
