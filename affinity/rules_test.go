package affinity_test

import (
	"math/rand"
	"slices"
	"sync"
	"testing"

	"multikernel/affinity"
	"multikernel/api"
	"multikernel/hwdesc"
)

// results are those of one call of each function.
type results struct {
	cost, total int
	names       []string
	pools       []api.Pool
	routes      []api.Route
	errors      [4]api.Errno
}

func callAll(h api.Hardware, core int, memory string, live []int, capacity int) results {
	var s results
	s.cost, s.errors[0] = affinity.Cost(h, core, memory)
	s.names, s.errors[1] = affinity.Nearest(h, core)
	s.pools, s.errors[2] = affinity.Pools(h, live)
	s.routes, s.total, s.errors[3] = affinity.Interrupts(h, live, capacity)
	return s
}

func sameResults(a, b results) bool {
	return a.cost == b.cost && a.total == b.total && a.errors == b.errors && slices.Equal(a.names, b.names) &&
		samePools(a.pools, b.pools) && slices.Equal(a.routes, b.routes)
}

// R4: a call writes nothing into an argument, not even beyond the end of a list, and a result that is overwritten changes
// neither an argument nor a later result.
func TestResultsAreNewMemory(t *testing.T) {
	r := rand.New(rand.NewSource(8))
	for range 200 {
		h := randomBoard(r, 6, 6, 6)
		live, capacity := slices.Grow(randomLive(r, h), 2), 1+r.Intn(6)
		core := live[0]
		if r.Intn(4) == 0 {
			live = append(live, core)
		}
		allLive := live[:cap(live)]
		copied, ids := clone(h), slices.Clone(allLive)
		want, spoiled := callAll(h, core, "n0", live, capacity), callAll(h, core, "n0", live, capacity)
		clear(spoiled.names[:cap(spoiled.names)])
		clear(spoiled.routes[:cap(spoiled.routes)])
		for _, p := range spoiled.pools {
			clear(p.Blocks[:cap(p.Blocks)])
		}
		clear(spoiled.pools[:cap(spoiled.pools)])
		if !hwdesc.Equal(h, copied) || !slices.Equal(allLive, ids) {
			t.Error("an argument is changed")
		}
		if !sameResults(callAll(h, core, "n0", live, capacity), want) {
			t.Error("a result is changed")
		}
	}
}

func TestPoolsShareNoMemory(t *testing.T) {
	h := flat(3)
	h.Memories = []api.Memory{{Name: "ram", Size: 1 << 20, Latency: 1}}
	live := []int{0, 1, 2}
	want := mustPools(t, h, live)
	for i := range want {
		pools := mustPools(t, h, live)
		clear(pools[i].Blocks[:cap(pools[i].Blocks)])
		pools[i].Blocks = want[i].Blocks
		if !samePools(pools, want) {
			t.Error("shared memory:", i)
		}
	}
}

// R5: the order of the lists of a description, and calls at the same time, are not visible.
func TestResultsDependOnArgumentsOnly(t *testing.T) {
	r := rand.New(rand.NewSource(9))
	for range 50 {
		h := randomBoard(r, 6, 6, 6)
		live, capacity := randomLive(r, h), 1+r.Intn(6)
		want := callAll(h, live[0], "n0", live, capacity)
		var group sync.WaitGroup
		for range 4 {
			group.Go(func() {
				for range 5 {
					if !sameResults(callAll(h, live[0], "n0", live, capacity), want) {
						t.Error("another result")
					}
				}
			})
		}
		group.Wait()
		shuffled, core := clone(h), live[0]
		shuffle(r, shuffled.Cores)
		shuffle(r, shuffled.Memories)
		shuffle(r, shuffled.Devices)
		shuffle(r, live)
		if !sameResults(callAll(shuffled, core, "n0", live, capacity), want) {
			t.Error("another result")
		}
	}
}
