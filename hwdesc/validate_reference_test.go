package hwdesc_test

import (
	"math/big"
	"math/rand"
	"regexp"
	"slices"
	"testing"

	"multikernel/api"
	"multikernel/hwdesc"
)

var (
	machineName = regexp.MustCompile(`^[ !#-\[\]-~]{1,24}$`)
	itemName    = regexp.MustCompile(`^[A-Za-z_][A-Za-z0-9_]{0,23}$`)
)

// someItem and somePair report whether the condition holds of an element, or of two elements at different places.
func someItem[T any](list []T, holds func(a T) bool) bool { return slices.ContainsFunc(list, holds) }

func somePair[T any](list []T, holds func(a, b T) bool) bool {
	for i := range list {
		for j := range list {
			if i != j && holds(list[i], list[j]) {
				return true
			}
		}
	}
	return false
}

func beyond(n, low, high int) bool { return n < low || n > high }

// end returns the sum of base and size as in mathematics.
func end(base, size uint64) *big.Int {
	return new(big.Int).Add(new(big.Int).SetUint64(base), new(big.Int).SetUint64(size))
}

func badRange(base, size uint64) bool {
	return size < 4096 || end(base, size).Cmp(big.NewInt(1<<40)) > 0
}

func overlap(base1, size1, base2, size2 uint64) bool {
	first, last := max(base1, base2), end(base1, size1)
	if other := end(base2, size2); other.Cmp(last) < 0 {
		last = other
	}
	return new(big.Int).SetUint64(first).Cmp(last) < 0
}

func subset(a, b []int) bool {
	return !someItem(a, func(x int) bool { return !slices.Contains(b, x) })
}

func meet(a, b []int) bool {
	return someItem(a, func(x int) bool { return slices.Contains(b, x) })
}

// conditions returns the conditions of P3.4 in order, each with its error.
func conditions(h api.Hardware) []struct {
	err   api.Errno
	holds func() bool
} {
	powers := []int{16, 32, 64, 128, 256}
	return []struct {
		err   api.Errno
		holds func() bool
	}{
		{api.ErrName, func() bool {
			return !machineName.MatchString(h.Name) || someItem(h.Caches, func(c api.Cache) bool { return !itemName.MatchString(c.Name) }) ||
				someItem(h.Memories, func(m api.Memory) bool { return !itemName.MatchString(m.Name) }) || someItem(h.Devices, func(d api.Device) bool { return !itemName.MatchString(d.Name) })
		}},
		{api.ErrLimit, func() bool {
			return len(h.Cores) == 0 || len(h.Cores) > 32 || len(h.Caches) > 64 || len(h.Links) > 256 || len(h.Memories) > 64 || len(h.Devices) > 32
		}},
		{api.ErrRange, func() bool {
			return someItem(h.Cores, func(c api.Core) bool {
				return beyond(c.ID, 0, 31) || c.Width != 32 && c.Width != 39 || beyond(c.Speed, 1, 1000000) || beyond(c.Node, 0, 63)
			}) || someItem(h.Caches, func(c api.Cache) bool {
				return beyond(c.Level, 1, 4) || !slices.Contains(powers, c.Line) || c.Size < uint64(c.Line) || c.Size > 1<<40 || len(c.Cores) == 0
			}) || someItem(h.Links, func(l api.Link) bool {
				return beyond(l.A, 0, 63) || beyond(l.B, 0, 63) || l.A == l.B || beyond(l.Latency, 1, 1000000)
			}) || someItem(h.Memories, func(m api.Memory) bool {
				return beyond(m.Node, 0, 63) || beyond(m.Latency, 1, 1000000) || badRange(m.Base, m.Size)
			}) || someItem(h.Devices, func(d api.Device) bool {
				return beyond(d.Node, 0, 63) || beyond(d.IRQ, 0, 255) || badRange(d.Base, d.Size)
			})
		}},
		{api.ErrAlign, func() bool {
			return someItem(h.Memories, func(m api.Memory) bool {
				size := uint64(1)
				for size < m.Size {
					size *= 2
				}
				return size != m.Size || m.Base/size*size != m.Base
			}) || someItem(h.Devices, func(d api.Device) bool { return d.Base&4095 != 0 || d.Size&4095 != 0 })
		}},
		{api.ErrDuplicate, func() bool {
			return somePair(h.Cores, func(a, b api.Core) bool { return a.ID == b.ID }) || somePair(h.Caches, func(a, b api.Cache) bool { return a.Name == b.Name }) ||
				somePair(h.Memories, func(a, b api.Memory) bool { return a.Name == b.Name }) || somePair(h.Devices, func(a, b api.Device) bool { return a.Name == b.Name || a.IRQ == b.IRQ }) ||
				somePair(h.Links, func(a, b api.Link) bool { return a.A == b.A && a.B == b.B || a.A == b.B && a.B == b.A }) ||
				someItem(h.Caches, func(c api.Cache) bool { return somePair(c.Cores, func(a, b int) bool { return a == b }) })
		}},
		{api.ErrUnknown, func() bool {
			return someItem(h.Caches, func(c api.Cache) bool {
				return someItem(c.Cores, func(n int) bool { return !someItem(h.Cores, func(k api.Core) bool { return k.ID == n }) })
			})
		}},
		{api.ErrHierarchy, func() bool {
			return someItem(h.Caches, func(c api.Cache) bool {
				for i := range c.Cores {
					if i > 0 && c.Cores[i-1] >= c.Cores[i] {
						return true
					}
				}
				return false
			}) || somePair(h.Caches, func(a, b api.Cache) bool {
				return meet(a.Cores, b.Cores) && (a.Level == b.Level || a.Level < b.Level && !subset(a.Cores, b.Cores))
			})
		}},
		{api.ErrOverlap, func() bool {
			return somePair(h.Memories, func(a, b api.Memory) bool { return overlap(a.Base, a.Size, b.Base, b.Size) }) ||
				somePair(h.Devices, func(a, b api.Device) bool { return overlap(a.Base, a.Size, b.Base, b.Size) }) ||
				someItem(h.Memories, func(m api.Memory) bool {
					return someItem(h.Devices, func(d api.Device) bool { return overlap(m.Base, m.Size, d.Base, d.Size) })
				})
		}},
		{api.ErrDisconnected, func() bool { return apart(h) }},
	}
}

// apart reports whether two used nodes have no path between them, by joining all paths.
func apart(h api.Hardware) bool {
	var path [64][64]bool
	for i := range 64 {
		path[i][i] = true
	}
	for _, l := range h.Links {
		path[l.A][l.B], path[l.B][l.A] = true, true
	}
	for k := range 64 {
		for i := range 64 {
			for j := range 64 {
				path[i][j] = path[i][j] || path[i][k] && path[k][j]
			}
		}
	}
	var used []int
	for _, c := range h.Cores {
		used = append(used, c.Node)
	}
	for _, m := range h.Memories {
		used = append(used, m.Node)
	}
	for _, d := range h.Devices {
		used = append(used, d.Node)
	}
	return somePair(used, func(a, b int) bool { return !path[a][b] })
}

func referenceValidate(h api.Hardware) api.Errno {
	for _, c := range conditions(h) {
		if c.holds() {
			return c.err
		}
	}
	return api.OK
}

// randomNearlyValid returns a description in which few conditions are violated.
func randomNearlyValid(r *rand.Rand) api.Hardware {
	node := func() int { return r.Intn(4) }
	h := api.Hardware{Name: "m"}
	ids := r.Perm(4)
	for _, id := range ids[:1+r.Intn(4)] {
		h.Cores = append(h.Cores, api.Core{ID: id, Width: 32 + r.Intn(2)*7, Node: node(), Speed: 1 + r.Intn(9)})
	}
	for i := range r.Intn(4) {
		c := api.Cache{Name: string(rune('a' + (i+r.Intn(20)/19)%4)), Level: 1 + r.Intn(4), Line: 16 << r.Intn(5), Size: 256 << r.Intn(5)}
		for _, k := range h.Cores {
			if r.Intn(2) == 0 {
				c.Cores = append(c.Cores, k.ID)
			}
		}
		if r.Intn(4) > 0 {
			slices.Sort(c.Cores)
		}
		if r.Intn(20) == 0 || len(c.Cores) == 0 {
			c.Cores = append(c.Cores, r.Intn(4))
		}
		h.Caches = append(h.Caches, c)
	}
	for range r.Intn(5) {
		a := node()
		h.Links = append(h.Links, api.Link{A: a, B: (a + 1 + r.Intn(3)) % 4, Latency: 1 + r.Intn(9)})
	}
	for i := range r.Intn(4) {
		size := uint64(4096) << r.Intn(3)
		h.Memories = append(h.Memories, api.Memory{Name: string(rune('a' + (i+r.Intn(20)/19)%4)), Base: uint64(r.Intn(16)) * size, Size: size, Node: node(), Latency: 1})
	}
	for i := range r.Intn(3) {
		h.Devices = append(h.Devices, api.Device{Name: string(rune('a' + i)), Node: node(), IRQ: r.Intn(20), Base: uint64(r.Intn(32)) * 4096, Size: uint64(1+r.Intn(2)) * 4096})
	}
	disturb(r, &h)
	return h
}

// disturb sometimes gives one field another value.
func disturb(r *rand.Rand, h *api.Hardware) {
	small, wide, names := smallFields(h), wideFields(h), itemNames(h)
	switch r.Intn(12) {
	case 0:
		*small[r.Intn(len(small))] = []int{-1, 0, 1, 2, 3, 4, 5, 15, 16, 31, 32, 33, 39, 63, 64, 255, 256, 257, 1000000, 1000001}[r.Intn(20)]
	case 1:
		if len(wide) > 0 {
			*wide[r.Intn(len(wide))] = []uint64{0, 15, 16, 4095, 4096, 4097, 6144, 12288, 1<<40 - 4096, 1 << 40, 1<<40 + 1, 1<<64 - 4096, 1<<64 - 1}[r.Intn(13)]
		}
	case 2:
		if len(names) > 0 {
			*names[r.Intn(len(names))] = []string{"", "1", "x", "a", "b", "a b"}[r.Intn(6)]
		}
	}
}

func TestValidateAgainstReference(t *testing.T) {
	r := rand.New(rand.NewSource(4))
	counts := map[api.Errno]int{}
	for range 20000 {
		h := randomNearlyValid(r)
		got, want := hwdesc.Validate(h), referenceValidate(h)
		if got != want {
			t.Fatalf("%v: %d, want %d", h, got, want)
		}
		counts[want]++
	}
	for _, err := range []api.Errno{api.OK, api.ErrName, api.ErrRange, api.ErrAlign, api.ErrDuplicate, api.ErrUnknown, api.ErrHierarchy, api.ErrOverlap, api.ErrDisconnected} {
		if counts[err] < 20 {
			t.Errorf("only %d descriptions with error %d", counts[err], err)
		}
	}
}
