package affinity

import (
	"math/bits"
	"slices"

	"multikernel/api"
)

// divide returns the pools of the cores, which are in ascending order of ID.
func (m machine) divide(cores []api.Core) []api.Pool {
	pools := make([]api.Pool, len(cores))
	for i, c := range cores {
		pools[i].Core = c.ID
	}
	for _, x := range slices.SortedFunc(slices.Values(m.Memories), compareBases) {
		candidates := m.candidates(cores, x)
		for i, block := range split(x, len(candidates)) {
			p := &pools[candidates[i%len(candidates)]]
			p.Blocks = append(p.Blocks, block)
		}
	}
	return pools
}

// candidates returns the indexes of the cores with the least cost.
func (m machine) candidates(cores []api.Core, x api.Memory) []int {
	var nearest []int
	least := m.cost(cores[0], x)
	for i, c := range cores {
		cost := m.cost(c, x)
		if cost < least {
			least, nearest = cost, nil
		}
		if cost == least {
			nearest = append(nearest, i)
		}
	}
	return nearest
}

// split returns at least so many equal blocks as are wanted, unless the memory has fewer pages.
func split(x api.Memory, wanted int) []api.Range {
	size := bits.TrailingZeros64(x.Size)
	blocks := 1
	for blocks < wanted && size > api.PageBits {
		blocks *= 2
		size--
	}
	list := make([]api.Range, blocks)
	for i := range list {
		list[i] = api.Range{Base: int(x.Base) + i<<size, Bits: size}
	}
	return list
}
