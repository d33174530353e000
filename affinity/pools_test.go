package affinity_test

import (
	"math/rand"
	"slices"
	"strconv"
	"testing"

	"multikernel/api"
)

// P7.3

func TestPoolsOfBoard(t *testing.T) {
	h := board()
	low, mid, high, far := api.Range{Base: 0, Bits: 12}, api.Range{Base: 1 << 20, Bits: 13}, api.Range{Base: 1 << 30, Bits: 20}, api.Range{Base: 1 << 39, Bits: 39}
	lower, upper := api.Range{Base: 1 << 30, Bits: 19}, api.Range{Base: 1<<30 + 1<<19, Bits: 19}
	checkPools(t, h, allCores(),
		api.Pool{Core: 0, Blocks: []api.Range{far}},
		api.Pool{Core: 2, Blocks: []api.Range{low, lower}},
		api.Pool{Core: 4},
		api.Pool{Core: 9, Blocks: []api.Range{mid}},
		api.Pool{Core: 31, Blocks: []api.Range{upper}})
	checkPools(t, h, []int{31}, api.Pool{Core: 31, Blocks: []api.Range{low, mid, high, far}})
	checkPools(t, h, []int{9, 4}, api.Pool{Core: 4, Blocks: []api.Range{low, high}}, api.Pool{Core: 9, Blocks: []api.Range{mid, far}})
	checkPools(t, h, []int{0, 4}, api.Pool{Core: 0, Blocks: []api.Range{far}}, api.Pool{Core: 4, Blocks: []api.Range{low, mid, high}})
	h.Memories = nil
	checkPools(t, h, []int{9, 4, 31}, api.Pool{Core: 4}, api.Pool{Core: 9}, api.Pool{Core: 31})
}

func TestPoolsOfExample(t *testing.T) {
	h := flat(2)
	h.Memories = []api.Memory{{Name: "ram", Size: 65536, Latency: 1}}
	checkPools(t, h, []int{0, 1}, api.Pool{Core: 0, Blocks: []api.Range{{Base: 0, Bits: 15}}}, api.Pool{Core: 1, Blocks: []api.Range{{Base: 32768, Bits: 15}}})
}

// Three candidates get four blocks; neighbouring blocks of one core are not merged.
func TestPoolsOfThreeCandidates(t *testing.T) {
	h := flat(3)
	h.Memories = []api.Memory{{Name: "b", Base: 65536, Size: 65536, Latency: 2}, {Name: "a", Base: 0, Size: 65536, Latency: 1}}
	checkPools(t, h, []int{2, 0, 1},
		api.Pool{Core: 0, Blocks: []api.Range{{Base: 0, Bits: 14}, {Base: 49152, Bits: 14}, {Base: 65536, Bits: 14}, {Base: 114688, Bits: 14}}},
		api.Pool{Core: 1, Blocks: []api.Range{{Base: 16384, Bits: 14}, {Base: 81920, Bits: 14}}},
		api.Pool{Core: 2, Blocks: []api.Range{{Base: 32768, Bits: 14}, {Base: 98304, Bits: 14}}})
}

// Blocks have at least a page, so that some candidates may get none.
func TestPoolsOfFewPages(t *testing.T) {
	h := flat(3)
	h.Memories = []api.Memory{{Name: "a", Base: 8192, Size: 8192, Latency: 1}, {Name: "b", Base: 4096, Size: 4096, Latency: 1}}
	checkPools(t, h, []int{1, 2, 0},
		api.Pool{Core: 0, Blocks: []api.Range{{Base: 4096, Bits: 12}, {Base: 8192, Bits: 12}}},
		api.Pool{Core: 1, Blocks: []api.Range{{Base: 12288, Bits: 12}}},
		api.Pool{Core: 2})
}

// Every number of candidates, with every size of memory.
func TestPoolsOfManyCandidates(t *testing.T) {
	counts := []int{0, 1, 2, 4, 4, 8, 8, 8, 8, 16, 16, 16, 16, 16, 16, 16, 16, 32, 32, 32, 32, 32, 32, 32, 32, 32, 32, 32, 32, 32, 32, 32, 32}
	for cores := 1; cores <= api.MaxCores; cores++ {
		h := flat(cores)
		for bits := 12; bits <= 40; bits++ {
			h.Memories = []api.Memory{{Name: "ram", Base: 1<<40 - 1<<bits, Size: 1 << bits, Latency: 1}}
			pools := mustPools(t, h, firstIDs(cores))
			blocks := min(counts[cores], 1<<(bits-12))
			for i := range blocks {
				want := api.Range{Base: 1<<40 - 1<<bits + i*(1<<bits/blocks), Bits: bits - len(strconv.FormatInt(int64(blocks), 2)) + 1}
				if got := pools[i%cores].Blocks[i/cores]; got != want {
					t.Fatal(cores, bits, i, got, want)
				}
			}
			if !samePools(pools, expectedPools(h, firstIDs(cores))) {
				t.Error(cores, bits, pools)
			}
		}
	}
}

func TestPoolsAgainstReference(t *testing.T) {
	r := rand.New(rand.NewSource(3))
	for range 1500 {
		h := randomBoard(r, 9, 6, 3)
		live := randomLive(r, h)
		checkPools(t, h, live, expectedPools(h, live)...)
	}
	for range 20 {
		h := largestBoard(r)
		live := randomLive(r, h)
		checkPools(t, h, live, expectedPools(h, live)...)
	}
}

// P7.5

func TestPoolsDivideMemories(t *testing.T) {
	r := rand.New(rand.NewSource(4))
	for range 500 {
		h := randomBoard(r, 12, 8, 0)
		live := randomLive(r, h)
		pools, n := mustPools(t, h, live), networkOf(h)
		for _, m := range h.Memories {
			checkDivision(t, m, pools, nearestCores(n, h, live, m.Node))
		}
	}
}

// checkDivision checks that the blocks in a memory cover it, and that they are divided among the candidates.
func checkDivision(t *testing.T, m api.Memory, pools []api.Pool, candidates []int) {
	t.Helper()
	end := int(m.Base + m.Size)
	starts, counts := map[int]int{}, map[int]int{}
	for _, p := range pools {
		for _, b := range p.Blocks {
			if b.Base+1<<b.Bits > int(m.Base) && b.Base < end {
				starts[b.Base] = b.Base + 1<<b.Bits
				counts[p.Core]++
				if !slices.Contains(candidates, p.Core) {
					t.Error(m, p.Core, "is no candidate")
				}
			}
		}
	}
	at, covered := int(m.Base), 0
	for ; starts[at] > at; covered++ {
		at = starts[at]
	}
	total := 0
	for _, a := range candidates {
		total += counts[a]
		for _, b := range candidates {
			if counts[a]-counts[b] > 1 {
				t.Error(m, pools, "cores", a, b)
			}
		}
	}
	if at != end || covered != total {
		t.Error(m, pools, "cover up to", at)
	}
}
