package hwdesc

import (
	"slices"

	"multikernel/api"
	"multikernel/hwlex"
)

const (
	maxSpeed  = 1000000
	maxLevel  = 4
	minLine   = 16
	maxLine   = 256
	pageSize  = 1 << api.PageBits
	addrLimit = 1 << api.AddrBits
)

// Validate returns the first error of h. A check may rely on what the checks before it have found.
func Validate(h api.Hardware) api.Errno {
	switch {
	case !namesValid(h):
		return api.ErrName
	case !countsValid(h):
		return api.ErrLimit
	case !rangesValid(h):
		return api.ErrRange
	case !aligned(h):
		return api.ErrAlign
	case hasDuplicates(h):
		return api.ErrDuplicate
	case !cacheCoresExist(h):
		return api.ErrUnknown
	case !cachesNested(h):
		return api.ErrHierarchy
	case rangesOverlap(h):
		return api.ErrOverlap
	case !connected(h):
		return api.ErrDisconnected
	}
	return api.OK
}

func namesValid(h api.Hardware) bool {
	return h.Name != "" && quoted(h.Name) != "" &&
		all(h.Caches, func(c api.Cache) bool { return hwlex.IsName(c.Name) }) &&
		all(h.Memories, func(m api.Memory) bool { return hwlex.IsName(m.Name) }) &&
		all(h.Devices, func(d api.Device) bool { return hwlex.IsName(d.Name) })
}

func countsValid(h api.Hardware) bool {
	return within(len(h.Cores), 1, api.MaxCores) &&
		len(h.Caches) <= api.MaxCaches &&
		len(h.Links) <= api.MaxLinks &&
		len(h.Memories) <= api.MaxMemories &&
		len(h.Devices) <= api.MaxDevices
}

func rangesValid(h api.Hardware) bool {
	return all(h.Cores, coreInRange) &&
		all(h.Caches, cacheInRange) &&
		all(h.Links, linkInRange) &&
		all(h.Memories, memoryInRange) &&
		all(h.Devices, deviceInRange)
}

func coreInRange(c api.Core) bool {
	return within(c.ID, 0, api.MaxCores-1) && (c.Width == 32 || c.Width == 39) && isNode(c.Node) && within(c.Speed, 1, maxSpeed)
}

func cacheInRange(c api.Cache) bool {
	return within(c.Level, 1, maxLevel) &&
		within(c.Line, minLine, maxLine) && isPowerOfTwo(uint64(c.Line)) &&
		uint64(c.Line) <= c.Size && c.Size <= addrLimit &&
		len(c.Cores) > 0
}

func linkInRange(l api.Link) bool {
	return isNode(l.A) && isNode(l.B) && l.A != l.B && isLatency(l.Latency)
}

func memoryInRange(m api.Memory) bool {
	return isNode(m.Node) && isLatency(m.Latency) && isRange(m.Base, m.Size)
}

func deviceInRange(d api.Device) bool {
	return isNode(d.Node) && within(d.IRQ, 0, api.MaxIRQ-1) && isRange(d.Base, d.Size)
}

func isNode(n int) bool { return within(n, 0, api.MaxNodes-1) }

func isLatency(n int) bool { return within(n, 1, api.MaxLatency) }

// isRange compares with a difference, because the sum of base and size could wrap around.
func isRange(base, size uint64) bool {
	return pageSize <= size && size <= addrLimit && base <= addrLimit-size
}

func within(n, low, high int) bool { return low <= n && n <= high }

func isPowerOfTwo(n uint64) bool { return n != 0 && n&(n-1) == 0 }

func aligned(h api.Hardware) bool {
	return all(h.Memories, func(m api.Memory) bool { return isPowerOfTwo(m.Size) && m.Base%m.Size == 0 }) &&
		all(h.Devices, func(d api.Device) bool { return d.Base%pageSize == 0 && d.Size%pageSize == 0 })
}

func hasDuplicates(h api.Hardware) bool {
	return repeats(h.Cores, func(c api.Core) int { return c.ID }) ||
		repeats(h.Caches, func(c api.Cache) string { return c.Name }) ||
		repeats(h.Memories, func(m api.Memory) string { return m.Name }) ||
		repeats(h.Devices, func(d api.Device) string { return d.Name }) ||
		repeats(h.Devices, func(d api.Device) int { return d.IRQ }) ||
		repeats(h.Links, func(l api.Link) [2]int { return [2]int{min(l.A, l.B), max(l.A, l.B)} }) ||
		slices.ContainsFunc(h.Caches, func(c api.Cache) bool {
			return repeats(c.Cores, func(core int) int { return core })
		})
}

func cacheCoresExist(h api.Hardware) bool {
	exists := map[int]bool{}
	for _, c := range h.Cores {
		exists[c.ID] = true
	}
	return all(h.Caches, func(c api.Cache) bool {
		return all(c.Cores, func(core int) bool { return exists[core] })
	})
}

func cachesNested(h api.Hardware) bool {
	for i, a := range h.Caches {
		if !slices.IsSorted(a.Cores) {
			return false
		}
		for _, b := range h.Caches[:i] {
			if !nested(a, b) {
				return false
			}
		}
	}
	return true
}

// nested reports whether a and b share no core, or one is part of a cache of a higher level.
func nested(a, b api.Cache) bool {
	low, high := coreSet(a), coreSet(b)
	if a.Level > b.Level {
		low, high = high, low
	}
	return low&high == 0 || a.Level != b.Level && low&^high == 0
}

// coreSet has one bit for each core of c: their numbers are known to be less than api.MaxCores.
func coreSet(c api.Cache) uint32 {
	var set uint32
	for _, core := range c.Cores {
		set |= 1 << core
	}
	return set
}

// addresses are those from base up to, but not including, end.
type addresses struct{ base, end uint64 }

func rangesOverlap(h api.Hardware) bool {
	var list []addresses
	for _, m := range h.Memories {
		list = append(list, addresses{m.Base, m.Base + m.Size})
	}
	for _, d := range h.Devices {
		list = append(list, addresses{d.Base, d.Base + d.Size})
	}
	for i, a := range list {
		for _, b := range list[:i] {
			if a.base < b.end && b.base < a.end {
				return true
			}
		}
	}
	return false
}

// connected spreads from the node of one core over the links until nothing is added.
func connected(h api.Hardware) bool {
	reached := uint64(1) << h.Cores[0].Node
	for before := uint64(0); before != reached; {
		before = reached
		for _, l := range h.Links {
			if ends := uint64(1)<<l.A | uint64(1)<<l.B; ends&reached != 0 {
				reached |= ends
			}
		}
	}
	return usedNodes(h)&^reached == 0
}

// usedNodes has one bit for each node of a core, memory or device.
func usedNodes(h api.Hardware) uint64 {
	var set uint64
	for _, c := range h.Cores {
		set |= 1 << c.Node
	}
	for _, m := range h.Memories {
		set |= 1 << m.Node
	}
	for _, d := range h.Devices {
		set |= 1 << d.Node
	}
	return set
}

func all[T any](list []T, holds func(T) bool) bool {
	for _, element := range list {
		if !holds(element) {
			return false
		}
	}
	return true
}

// repeats reports whether two elements have the same key.
func repeats[T any, K comparable](list []T, key func(T) K) bool {
	seen := map[K]bool{}
	for _, element := range list {
		if seen[key(element)] {
			return true
		}
		seen[key(element)] = true
	}
	return false
}
