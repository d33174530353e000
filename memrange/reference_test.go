package memrange_test

import (
	"cmp"
	"math/big"
	"slices"

	"multikernel/api"
)

// referenceEnd reads P10.1 with integers of any size. It returns 0 if r is not valid.
func referenceEnd(r api.Range) int {
	if r.Bits < 6 || 40 < r.Bits {
		return 0
	}
	base, size := big.NewInt(int64(r.Base)), new(big.Int).Exp(big.NewInt(2), big.NewInt(int64(r.Bits)), nil)
	end := new(big.Int).Add(base, size)
	memory := new(big.Int).Exp(big.NewInt(2), big.NewInt(40), nil)
	if base.Sign() < 0 || new(big.Int).Mod(base, size).Sign() != 0 || end.Cmp(memory) > 0 {
		return 0
	}
	return int(end.Int64())
}

// bytesOf returns every 32nd byte of a valid range that is not great, and none of another one.
func bytesOf(r api.Range) []int {
	var list []int
	end := referenceEnd(r)
	for b := r.Base; end > 0 && b < end; b += 32 {
		list = append(list, b)
	}
	return list
}

func isPart(part, whole []int) bool {
	return !slices.ContainsFunc(part, func(b int) bool { return !slices.Contains(whole, b) })
}

func referenceContains(a, b api.Range) bool {
	return referenceEnd(a) > 0 && referenceEnd(b) > 0 && isPart(bytesOf(b), bytesOf(a))
}

func referenceOverlaps(a, b api.Range) bool {
	return slices.ContainsFunc(bytesOf(a), func(x int) bool { return slices.Contains(bytesOf(b), x) })
}

// freeRanges returns all free ranges of r, maximal or not, as P10.4 defines them.
func freeRanges(r api.Range, used []api.Range) []api.Range {
	if referenceEnd(r) == 0 {
		return nil
	}
	taken := map[int]bool{}
	for _, u := range used {
		for _, b := range bytesOf(u) {
			taken[b] = true
		}
	}
	return slices.DeleteFunc(inside(r), func(x api.Range) bool {
		return slices.ContainsFunc(bytesOf(x), func(b int) bool { return taken[b] })
	})
}

func referenceFree(r api.Range, used []api.Range) []api.Range {
	free := freeRanges(r, used)
	var maximal []api.Range
	for _, x := range free {
		if !slices.ContainsFunc(free, func(y api.Range) bool { return y != x && y.Base <= x.Base && referenceEnd(x) <= referenceEnd(y) }) {
			maximal = append(maximal, x)
		}
	}
	slices.SortFunc(maximal, func(a, b api.Range) int { return cmp.Compare(a.Base, b.Base) })
	return maximal
}

func referenceFind(r api.Range, used []api.Range, bits int) (api.Range, bool) {
	found := slices.DeleteFunc(freeRanges(r, used), func(x api.Range) bool { return x.Bits != bits })
	if len(found) == 0 {
		return api.Range{}, false
	}
	return slices.MinFunc(found, func(a, b api.Range) int { return cmp.Compare(a.Base, b.Base) }), true
}

func referenceCovered(l []api.Range) int {
	covered := map[int]bool{}
	for _, r := range l {
		for _, b := range bytesOf(r) {
			covered[b] = true
		}
	}
	return 32 * len(covered)
}
