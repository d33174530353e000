package memrange

import (
	"cmp"
	"math/bits"
	"slices"

	"multikernel/api"
)

// outermost returns those valid elements of l that no other one contains, each once, in ascending order.
func outermost(l []api.Range) []api.Range {
	var sorted []api.Range
	for _, r := range l {
		if Valid(r) {
			sorted = append(sorted, r)
		}
	}
	// A range comes before all that it contains.
	slices.SortFunc(sorted, func(a, b api.Range) int {
		return cmp.Or(cmp.Compare(a.Base, b.Base), cmp.Compare(b.Bits, a.Bits))
	})
	var list []api.Range
	end := 0
	for _, r := range sorted {
		if r.Base >= end {
			list = append(list, r)
			end = End(r)
		}
	}
	return list
}

// appendBlocks appends the maximal ranges between two addresses that are multiples of 1 << api.MinBits. Each of them is
// as great as its base and the space behind it allow.
func appendBlocks(list []api.Range, from, to int) []api.Range {
	for from < to {
		block := api.Range{Base: from, Bits: min(bits.TrailingZeros(uint(from)), bits.Len(uint(to-from))-1)}
		list = append(list, block)
		from = End(block)
	}
	return list
}
