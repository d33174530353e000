package route

import (
	"slices"

	"multikernel/api"
	"multikernel/hwdesc"
)

// Validate returns the first error of t.
func Validate(h api.Hardware, t api.Tree) api.Errno {
	if err := hwdesc.Validate(h); err != api.OK {
		return err
	}
	receivers := receiversOf(t)
	switch {
	case !allCores(h, receivers) || !allCores(h, sendersOf(t)):
		return api.ErrUnknown
	case repeats(receivers):
		return api.ErrDuplicate
	case !inSendingOrder(t):
		return api.ErrProtocol
	}
	return api.OK
}

// Arrivals returns the arrival times of the messages, in the order of the edges.
func Arrivals(h api.Hardware, t api.Tree, cost int) ([]int, api.Errno) {
	if err := Validate(h, t); err != api.OK {
		return nil, err
	}
	if !isCost(cost) {
		return nil, api.ErrRange
	}
	n := networkOf(h)
	ready := map[int]int{} // when a core can begin its next transmission
	var times []int
	for _, e := range t.Edges {
		ready[e.From] += cost
		ready[e.To] = ready[e.From] + n.coreDistance(e.From, e.To)
		times = append(times, ready[e.To])
	}
	return times, api.OK
}

// Completion returns the time at which the last message arrives.
func Completion(h api.Hardware, t api.Tree, cost int) (int, api.Errno) {
	times, err := Arrivals(h, t, cost)
	if err != api.OK || len(times) == 0 {
		return 0, err
	}
	return slices.Max(times), api.OK
}

// receiversOf returns the root, which has the message from the start, and the receiver of each edge.
func receiversOf(t api.Tree) []int {
	list := []int{t.Root}
	for _, e := range t.Edges {
		list = append(list, e.To)
	}
	return list
}

func sendersOf(t api.Tree) []int {
	var list []int
	for _, e := range t.Edges {
		list = append(list, e.From)
	}
	return list
}

// inSendingOrder reports whether each sender has the message before it sends, and sends its messages one after the other.
func inSendingOrder(t api.Tree) bool {
	informed, finished := map[int]bool{t.Root: true}, map[int]bool{}
	sender := t.Root
	for _, e := range t.Edges {
		if e.From != sender {
			finished[sender] = true
			sender = e.From
		}
		if !informed[sender] || finished[sender] {
			return false
		}
		informed[e.To] = true
	}
	return true
}

func allCores(h api.Hardware, ids []int) bool {
	return !slices.ContainsFunc(ids, func(id int) bool { return !isCore(h, id) })
}

func isCore(h api.Hardware, id int) bool {
	return slices.ContainsFunc(h.Cores, func(c api.Core) bool { return c.ID == id })
}

func repeats(ids []int) bool {
	seen := map[int]bool{}
	for _, id := range ids {
		if seen[id] {
			return true
		}
		seen[id] = true
	}
	return false
}

func isCost(cost int) bool { return 0 <= cost && cost <= api.MaxLatency }
