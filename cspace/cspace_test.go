package cspace_test

import (
	"math"
	"slices"
	"testing"

	"multikernel/api"
)

// P14.1

func TestEmptyAndBusy(t *testing.T) {
	for i, s := range sample() {
		checkSlot(t, s, !slices.Contains(nodes(), i), i >= 2 && i <= 6)
	}
	// Only the Id says whether a slot is empty, and each number that is not zero makes a slot busy.
	checkSlot(t, api.Slot{Node: api.Node{Path: []api.Id{id(1, 1)}, Cap: frame(0)}}, true, false)
	for _, v := range []int{1, -1, 1 << 30, 1 << 32, math.MaxInt, math.MinInt} {
		for _, own := range []api.Id{{Core: v}, {Op: v}, {Part: v}} {
			checkSlot(t, api.Slot{Node: api.Node{Id: own}}, false, false)
			checkSlot(t, api.Slot{Lock: own}, true, true)
		}
		checkSlot(t, api.Slot{Op: v}, true, true)
		checkSlot(t, reserved(v, slot(id(1, 1))), false, true)
	}
	checkSlot(t, locked(id(1, 1), slot(id(1, 1))), false, true)
	checkSlot(t, api.Slot{}, true, false)
}

func TestFind(t *testing.T) {
	for i, s := range sample() {
		if s.Node.Id == (api.Id{}) {
			continue
		}
		checkFind(t, sample(), s.Node.Id, i, true)
		checkFind(t, append(sample(), sample()...), s.Node.Id, i, true)
		checkFind(t, sample()[i:], s.Node.Id, 0, true)
		checkFind(t, sample()[:i], s.Node.Id, 0, false)
		for _, other := range differentIds(s.Node.Id) {
			checkFind(t, sample()[i:i+1], other, 0, false)
		}
	}
	for _, none := range []api.Id{{}, id(9, 9), remote, id(7, 7), id(31, 1)} {
		checkFind(t, sample(), none, 0, false)
		checkFind(t, nil, none, 0, false)
	}
	// The zero Id is found in no slot, although an empty one may have the rest of a node.
	checkFind(t, []api.Slot{{}, {Node: made(api.Id{}, frame(0), api.Id{})}}, api.Id{}, 0, false)
	// Nodes that are not valid are found too.
	odd := []api.Slot{{}, {Node: api.Node{Id: api.Id{Part: -1}}}, {Node: api.Node{Id: id(-1, math.MinInt)}}}
	checkFind(t, odd, api.Id{Part: -1}, 1, true)
	checkFind(t, odd, id(-1, math.MinInt), 2, true)
}

// P14.2

func TestReserve(t *testing.T) {
	for _, slots := range [][]int{{0}, {1}, {7}, {0, 1}, {1, 0}, {7, 0, 1}} {
		for _, op := range []int{1, 2, local, 1<<30 - 1, 1 << 30} {
			want := changed(func(l []api.Slot) {
				for _, i := range slots {
					l[i].Op = op
				}
			})
			checkReserve(t, sample(), slots, op, want, api.OK)
		}
	}
	checkReserve(t, sample(), nil, 1, sample(), api.OK)
	checkReserve(t, nil, nil, 1, nil, api.OK)
	all := make([]api.Slot, 64)
	var slots []int
	for i := range all {
		slots = append(slots, 63-i)
	}
	checkReserve(t, all, slots, 3, slices.Repeat([]api.Slot{{Op: 3}}, 64), api.OK)
	checkReserve(t, all, append(slots, 0), 3, nil, api.ErrInvalid)
}

func TestReserveErrors(t *testing.T) {
	for _, op := range []int{0, -1, -1 << 30, math.MinInt, 1<<30 + 1, 1<<32 + 1, math.MaxInt} {
		for _, slots := range [][]int{nil, {0}, {2}, {0, 0}, {8}} {
			checkReserve(t, sample(), slots, op, nil, api.ErrInvalid)
		}
	}
	for _, i := range []int{-1, -8, 8, 9, 64, 1 << 32, math.MaxInt, math.MinInt} {
		for _, slots := range [][]int{{i}, {0, i}, {i, 0}, {2, i}, {i, 2}} {
			checkReserve(t, sample(), slots, 1, nil, api.ErrInvalid)
		}
		checkReserve(t, nil, []int{i}, 1, nil, api.ErrInvalid)
	}
	checkReserve(t, nil, []int{0}, 1, nil, api.ErrInvalid)
	for i := range sample() {
		checkReserve(t, sample(), []int{i, i}, 1, nil, api.ErrInvalid)
		checkReserve(t, sample(), []int{i, 7 - i, i}, 1, nil, api.ErrInvalid)
		checkReserve(t, sample(), []int{5, i, 7 - i, i}, 1, nil, api.ErrInvalid)
	}
	// A slot is busy even for the operation that has reserved it.
	for _, i := range []int{2, 3, 4, 5, 6} {
		for _, op := range []int{1, local, 1 << 30} {
			checkReserve(t, sample(), []int{i}, op, nil, api.ErrBusy)
			checkReserve(t, sample(), []int{0, 1, i}, op, nil, api.ErrBusy)
			checkReserve(t, sample(), []int{i, 7}, op, nil, api.ErrBusy)
		}
	}
	checkReserve(t, []api.Slot{{Op: -1}}, []int{0}, 1, nil, api.ErrBusy)
	checkReserve(t, []api.Slot{{Lock: api.Id{Part: 1}}}, []int{0}, 1, nil, api.ErrBusy)
}

func TestRelease(t *testing.T) {
	checkRelease(t, sample(), local, changed(func(l []api.Slot) { l[4].Op, l[5].Op = 0, 0 }))
	checkRelease(t, sample(), 1<<30, changed(func(l []api.Slot) { l[2].Op = 0 }))
	for _, op := range []int{0, 1, local - 1, local + 1, local + 1<<32, -local, -1, math.MaxInt, math.MinInt} {
		checkRelease(t, sample(), op, sample())
	}
	checkRelease(t, nil, 1, nil)
	checkRelease(t, []api.Slot{{Op: -7}, {Op: 7}}, -7, []api.Slot{{}, {Op: 7}})
	checkRelease(t, changed(func(l []api.Slot) { l[0].Op, l[1].Op = 3, 3 }), 3, sample())
}

// P14.3

func TestPut(t *testing.T) {
	for _, n := range []api.Node{made(id(4, 4), frame(0)), made(id(0, 1), object(api.CapEndpoint, 64, 6), id(31, 1<<30), id(9, 9)), made(api.Id{Core: 31, Op: 1 << 30, Part: 7}, frame(4096), idsOf(full(8))...)} {
		for _, i := range []int{1, 4, 7} {
			checkPut(t, sample(), i, n, changed(func(l []api.Slot) { l[i].Node = n }), api.OK)
		}
		for _, i := range nodes() {
			checkPut(t, sample(), i, n, nil, api.ErrTaken)
		}
		for _, i := range []int{-1, -8, 8, 64, 1 << 32, 1<<32 + 1, math.MaxInt, math.MinInt} {
			checkPut(t, sample(), i, n, nil, api.ErrInvalid)
			checkPut(t, nil, i, n, nil, api.ErrInvalid)
		}
		checkPut(t, nil, 0, n, nil, api.ErrInvalid)
	}
	// Op and Lock of an empty slot stay, and nothing of what else it has.
	n := made(id(4, 4), frame(0), id(3, 3))
	odd := api.Slot{Node: made(api.Id{}, frame(8192), id(1, 1), id(2, 2)), Op: -3, Lock: id(-1, 0)}
	checkPut(t, []api.Slot{odd}, 0, n, []api.Slot{{Node: n, Op: -3, Lock: id(-1, 0)}}, api.OK)
}

func TestPutErrors(t *testing.T) {
	n := made(id(4, 4), frame(0), id(3, 3))
	for name, change := range map[string]func(n *api.Node){
		"zero":       func(n *api.Node) { *n = api.Node{} },
		"zero Id":    func(n *api.Node) { n.Id = api.Id{} },
		"core":       func(n *api.Node) { n.Id.Core = -1 },
		"part":       func(n *api.Node) { n.Id.Part = 8 },
		"capability": func(n *api.Node) { n.Cap.Base = 2048 },
		"path":       func(n *api.Node) { n.Path = []api.Id{n.Id} },
		"depth":      func(n *api.Node) { n.Path = idsOf(full(9)) },
	} {
		t.Run(name, func(t *testing.T) {
			odd := n
			change(&odd)
			for i := range sample() {
				checkPut(t, sample(), i, odd, nil, api.ErrInvalid)
			}
		})
	}
	for _, k := range nodes() {
		for i := range sample() {
			checkPut(t, sample(), i, sample()[k].Node, nil, api.ErrInvalid)
			checkPut(t, sample(), i, made(sample()[k].Node.Id, frame(1<<20)), nil, api.ErrInvalid)
			free := changed(func(l []api.Slot) { l[k] = api.Slot{} })
			if free[i].Node.Id == (api.Id{}) {
				want := copied(free)
				want[i].Node = sample()[k].Node
				checkPut(t, free, i, sample()[k].Node, want, api.OK)
			}
		}
	}
	// The Id of a lock, of an ancestor or of nothing is not the Id of a node of the list.
	for _, own := range []api.Id{remote, id(7, 7), id(0, 1)} {
		checkPut(t, sample(), 1, made(own, frame(0)), changed(func(l []api.Slot) { l[1].Node = made(own, frame(0)) }), api.OK)
	}
}

func TestTake(t *testing.T) {
	for _, i := range nodes() {
		n := sample()[i].Node
		checkTake(t, sample(), i, changed(func(l []api.Slot) { l[i].Node, l[i].Lock = api.Node{}, api.Id{} }), n, true)
		checkTake(t, sample()[i:i+1], 0, []api.Slot{{Op: sample()[i].Op}}, n, true)
		twice := append(sample(), sample()...)
		checkTake(t, twice, 8+i, append(sample(), changed(func(l []api.Slot) { l[i] = api.Slot{Op: l[i].Op} })...), n, true)
	}
	for _, i := range []int{1, 4, 7, -1, -8, 8, 64, 1 << 32, 1<<32 + 3, math.MaxInt, math.MinInt} {
		checkTake(t, sample(), i, nil, api.Node{}, false)
	}
	checkTake(t, nil, 0, nil, api.Node{}, false)
	checkTake(t, []api.Slot{{Node: made(api.Id{}, frame(0), id(1, 1)), Op: 1, Lock: id(1, 1)}}, 0, nil, api.Node{}, false)
	odd := made(api.Id{Part: -1}, api.Cap{Kind: -1}, api.Id{}, api.Id{})
	checkTake(t, []api.Slot{{Node: odd, Op: -3, Lock: id(-1, 0)}}, 0, []api.Slot{{Op: -3}}, odd, true)
}

// P14.4

func TestLock(t *testing.T) {
	l := sample()
	for _, by := range []api.Id{id(6, 60), remote, id(0, 1), {Core: 1, Op: 1, Part: 1}, id(-1, -1), {}} {
		for _, i := range nodes() {
			checkLock(t, l, []api.Id{l[i].Node.Id}, by, changed(func(l []api.Slot) { l[i].Lock = by }))
			checkLock(t, l[i:i+1], differentIds(l[i].Node.Id), by, l[i:i+1])
		}
		all := changed(func(l []api.Slot) {
			for _, i := range nodes() {
				l[i].Lock = by
			}
		})
		checkLock(t, l, idsOf(l), by, all)
		ids := append(idsOf(l), idsOf(l)...)
		slices.Reverse(ids)
		checkLock(t, l, ids, by, all)
		// No node of the list has one of these Ids: the zero Id, those of locks and ancestors, and others.
		checkLock(t, l, []api.Id{{}, remote, id(7, 7), id(9, 9), id(-1, -1)}, by, l)
		checkLock(t, l, nil, by, l)
		checkLock(t, nil, idsOf(l), by, nil)
		twice := append(sample(), sample()...)
		checkLock(t, twice, []api.Id{l[0].Node.Id}, by, append(changed(func(l []api.Slot) { l[0].Lock = by }), changed(func(l []api.Slot) { l[0].Lock = by })...))
		odd := []api.Slot{{Node: made(api.Id{}, frame(0)), Lock: id(1, 1)}, {Node: made(id(-1, -1), api.Cap{})}}
		checkLock(t, odd, []api.Id{id(-1, -1), {}}, by, []api.Slot{odd[0], locked(by, odd[1])})
	}
}

func TestUnlock(t *testing.T) {
	checkUnlock(t, sample(), remote, changed(func(l []api.Slot) { l[5].Lock, l[6].Lock = api.Id{}, api.Id{} }))
	checkUnlock(t, sample(), id(31, 1<<30), changed(func(l []api.Slot) { l[3].Lock = api.Id{} }))
	for _, by := range append(differentIds(remote), api.Id{}, id(7, 7), id(0, 300)) {
		checkUnlock(t, sample(), by, sample())
	}
	checkUnlock(t, nil, remote, nil)
	// An empty slot loses the lock too, but nothing else.
	odd := api.Slot{Node: made(api.Id{}, frame(0), id(1, 1)), Op: -1, Lock: id(-1, 0)}
	checkUnlock(t, []api.Slot{odd, {Lock: id(-1, 1)}}, id(-1, 0), []api.Slot{locked(api.Id{}, odd), {Lock: id(-1, 1)}})
}

func TestSweep(t *testing.T) {
	l := sample()
	checkSweep(t, l, remote, changed(func(l []api.Slot) { l[5], l[6] = api.Slot{Op: local}, api.Slot{} }), []api.Id{l[5].Node.Id, l[6].Node.Id})
	checkSweep(t, l, id(31, 1<<30), changed(func(l []api.Slot) { l[3] = api.Slot{} }), []api.Id{id(1, 9)})
	for _, by := range append(differentIds(remote), api.Id{}, id(7, 7), id(0, 300)) {
		checkSweep(t, l, by, l, nil)
	}
	checkSweep(t, nil, remote, nil, nil)
	checkSweep(t, nil, api.Id{}, nil, nil)
	// The Ids come in the order of the slots, each as often as it occurs.
	slices.Reverse(l)
	want := slices.Clone(l)
	want[1], want[2] = api.Slot{}, api.Slot{Op: local}
	checkSweep(t, append(l, l...), remote, append(want, want...), []api.Id{l[1].Node.Id, l[2].Node.Id, l[1].Node.Id, l[2].Node.Id})
	// An empty slot stays as it is, even if it has the lock.
	odd := api.Slot{Node: made(api.Id{}, frame(0), id(1, 1)), Op: -1, Lock: id(-1, 0)}
	checkSweep(t, []api.Slot{odd, locked(id(-1, 0), slot(id(99, 0)))}, id(-1, 0), []api.Slot{odd, {}}, []api.Id{id(99, 0)})
	checkSweep(t, []api.Slot{odd, slot(id(99, 0))}, api.Id{}, []api.Slot{odd, slot(id(99, 0))}, nil)
}

// P14.5

func TestEntries(t *testing.T) {
	l := sample()
	for _, core := range []int{0, 1, 31, 32, -1, math.MaxInt, math.MinInt} {
		var want []api.Entry
		for _, i := range []int{5, 6, 3, 2, 0} {
			want = append(want, api.Entry{Core: core, Slot: i, Node: l[i].Node})
		}
		checkEntries(t, l, core, want)
		checkEntries(t, nil, core, nil)
		checkEntries(t, make([]api.Slot, 64), core, nil)
	}
	checkEntries(t, []api.Slot{{Node: made(api.Id{}, frame(0), id(1, 1)), Op: 1, Lock: id(1, 1)}}, 0, nil)
}

// The order is that of Core, Op and Part as numbers, whatever these are.
func TestEntriesInOrder(t *testing.T) {
	ids := []api.Id{id(math.MinInt, 1), id(-1, 9), {Part: -1}, {Part: 1}, {Op: 1, Part: -9}, id(0, 2), {Op: 2, Part: 1}, id(0, 10), {Core: 1, Op: 1, Part: 7}, id(1, 2), id(2, 1), id(10, 0), id(math.MaxInt, math.MinInt), id(math.MaxInt, math.MaxInt)}
	var l []api.Slot
	var want []api.Entry
	for i, own := range ids {
		l = append(l, api.Slot{}, slot(own, id(i, i)))
		want = append(want, api.Entry{Core: 3, Slot: 2*i + 1, Node: slot(own, id(i, i)).Node})
	}
	checkEntries(t, l, 3, want)
	slices.Reverse(l)
	for i := range want {
		want[i].Slot = len(l) - 1 - want[i].Slot
	}
	checkEntries(t, l, 3, want)
}

// Entries with equal Ids are in the order of the slots, however many there are.
func TestEntriesWithEqualIds(t *testing.T) {
	var l []api.Slot
	var want []api.Entry
	for i := range 300 {
		l = append(l, slot(id(1, 5-i%3), id(2, i)))
	}
	for _, rest := range []int{2, 1, 0} {
		for i := rest; i < 300; i += 3 {
			want = append(want, api.Entry{Core: 7, Slot: i, Node: l[i].Node})
		}
	}
	checkEntries(t, l, 7, want)
}
