package node_test

import (
	"math"
	"math/rand"
	"slices"
	"testing"

	"multikernel/api"
	"multikernel/captype"
	"multikernel/node"
)

func id(core, op, part int) api.Id { return api.Id{Core: core, Op: op, Part: part} }

func frame(base int) api.Cap { return api.Cap{Kind: api.CapFrame, Base: base, Bits: 12, Rights: 7} }

// chain returns a valid node with n ancestors, if n is at most 8.
func chain(n int) api.Node {
	out := api.Node{Id: id(3, 300, 1), Cap: frame(4096)}
	for i := range n {
		out.Path = append(out.Path, id(i%4, 200-i/2, i%3))
	}
	return out
}

// copied returns n with a path of its own.
func copied(n api.Node) api.Node {
	n.Path = slices.Clone(n.Path)
	return n
}

// goodIds has the least and greatest numbers that each field may have.
func goodIds() []api.Id {
	var list []api.Id
	for _, core := range []int{0, 1, 30, 31} {
		for _, op := range []int{1, 2, 127, 128, 16383, 16384, 1<<30 - 1, 1 << 30} {
			for _, part := range []int{0, 1, 6, 7} {
				list = append(list, id(core, op, part))
			}
		}
	}
	return list
}

// oddIds are not valid because of one field.
func oddIds() []api.Id {
	list := []api.Id{{}, id(0, 0, 1), id(1, 0, 0), id(-1, -1, -1), id(32, 0, 8)}
	for _, core := range []int{-1, -32, 32, 33, 256, 1 << 32, 1<<32 + 3, math.MaxInt, math.MinInt, math.MinInt + 3} {
		list = append(list, id(core, 1, 0), id(core, 1<<30, 7))
	}
	for _, op := range []int{0, -1, -1 << 30, 1<<30 + 1, 1 << 31, 1<<32 + 1, math.MaxInt, math.MinInt, math.MinInt + 1} {
		list = append(list, id(0, op, 0), id(31, op, 7))
	}
	for _, part := range []int{-1, -7, 8, 9, 256, 1 << 32, 1<<32 + 1, math.MaxInt, math.MinInt, math.MinInt + 1} {
		list = append(list, id(0, 1, part), id(31, 1<<30, part))
	}
	return list
}

func goodCaps() []api.Cap {
	return []api.Cap{
		{Kind: api.CapUntyped, Bits: 40, Rights: 7}, {Kind: api.CapUntyped, Base: 1<<40 - 64, Bits: 6, Device: true},
		frame(4096), {Kind: api.CapFrame, Base: 1 << 39, Bits: 39, Rights: 1, Device: true},
		{Kind: api.CapTable, Base: 8192, Bits: 12, Rights: 5, Width: 39, Level: 2}, {Kind: api.CapTable, Bits: 12, Rights: 7, Width: 32},
		{Kind: api.CapEndpoint, Base: 64, Bits: 6, Rights: 4}, {Kind: api.CapDispatcher, Base: 1024, Bits: 10, Rights: 6}, {Kind: api.CapKernel, Base: 65536, Bits: 16, Rights: 3},
	}
}

func oddCaps() []api.Cap {
	return []api.Cap{
		{}, {Kind: 7, Bits: 12}, {Kind: api.CapFrame, Bits: 11}, {Kind: api.CapFrame, Base: 2048, Bits: 12}, {Kind: api.CapFrame, Base: 1 << 40, Bits: 12},
		{Kind: api.CapFrame, Bits: 12, Rights: 8}, {Kind: api.CapFrame, Bits: 12, Rights: -1}, {Kind: api.CapFrame, Bits: 12, Width: 32},
		{Kind: api.CapTable, Bits: 12, Width: 32, Level: 2}, {Kind: api.CapTable, Bits: 12, Width: 32, Device: true}, {Kind: api.CapEndpoint, Bits: 6, Device: true},
	}
}

func goodNodes() []api.Node {
	var list []api.Node
	for n := range 9 {
		for _, c := range goodCaps() {
			made := chain(n)
			made.Cap = c
			list = append(list, made)
		}
	}
	for i, own := range goodIds() {
		list = append(list, api.Node{Id: own, Cap: frame(0)}, api.Node{Id: id(7, 77, 7), Path: []api.Id{own}, Cap: frame(0)})
		path := append(goodIds()[:i], goodIds()[i+1:]...)
		for len(path) > 0 {
			n := min(len(path), 1+i%8)
			list = append(list, api.Node{Id: own, Path: slices.Clone(path[:n]), Cap: frame(0)})
			path = path[n:]
		}
	}
	return list
}

// oddNodes are not valid, each for one reason.
func oddNodes() []api.Node {
	list := []api.Node{{}, {Id: id(1, 1, 1)}, {Cap: frame(0)}, {Path: []api.Id{{}}, Cap: frame(0)}}
	for _, n := range []int{9, 10, 16, 255, 256, 257, 264} {
		long := chain(n)
		for i := range long.Path {
			long.Path[i] = id(0, i+1, 0)
		}
		list = append(list, long)
	}
	for _, odd := range oddIds() {
		own := chain(3)
		own.Id = odd
		list = append(list, own)
	}
	for _, c := range oddCaps() {
		made := chain(2)
		made.Cap = c
		list = append(list, made)
	}
	for n := 1; n <= 8; n++ {
		for i := range n {
			own := chain(n)
			own.Path[i] = own.Id
			list = append(list, own)
			for k := range i {
				twice := chain(n)
				twice.Path[i] = twice.Path[k]
				list = append(list, twice)
			}
			for _, odd := range oddIds() {
				made := chain(n)
				made.Path[i] = odd
				list = append(list, made)
			}
		}
	}
	return list
}

func pick[T any](r *rand.Rand, list []T) T { return list[r.Intn(len(list))] }

// randomId returns one of few Ids, or one of many.
func randomId(r *rand.Rand) api.Id {
	if r.Intn(2) == 0 {
		return id(r.Intn(2), 1+r.Intn(3), r.Intn(2))
	}
	return id(r.Intn(32), 1+r.Intn(1<<r.Intn(31)), r.Intn(8))
}

// randomNode returns a valid node.
func randomNode(r *rand.Rand) api.Node {
	n := api.Node{Id: randomId(r), Cap: pick(r, goodCaps())}
	for length := r.Intn(9); len(n.Path) < length; {
		if next := randomId(r); next != n.Id && !slices.Contains(n.Path, next) {
			n.Path = append(n.Path, next)
		}
	}
	return n
}

// spoil changes a part of n, so that it may become invalid.
func spoil(r *rand.Rand, n api.Node) api.Node {
	n = copied(n)
	other := pick(r, append(slices.Clone(n.Path), n.Id, randomId(r), pick(r, oddIds()), pick(r, goodIds())))
	switch r.Intn(4) {
	case 0:
		n.Id = other
	case 1:
		n.Cap = pick(r, append(oddCaps(), goodCaps()...))
	case 2:
		n.Path = append(n.Path, other)
	case 3:
		if len(n.Path) > 0 {
			n.Path[r.Intn(len(n.Path))] = other
		}
	}
	return n
}

func capCode(c api.Cap) string {
	b, _ := captype.Encode(c)
	return string(b)
}

// checkCode checks that n is encoded as the bytes of want, and that these are decoded as n.
func checkCode(t *testing.T, n api.Node, want string) {
	t.Helper()
	if b, err := node.Encode(n); err != api.OK || string(b) != want {
		t.Errorf("%+v: % x, error %d, want % x", n, b, err, want)
	}
	if got, err := node.Decode([]byte(want)); err != api.OK || !referenceEqual(got, n) {
		t.Errorf("% x: %+v, error %d, want %+v", want, got, err, n)
	}
}

func checkEncodeError(t *testing.T, n api.Node) {
	t.Helper()
	if b, err := node.Encode(n); err != api.ErrInvalid || len(b) != 0 {
		t.Errorf("%+v: % x, error %d", n, b, err)
	}
}

func checkDecodeError(t *testing.T, b []byte) {
	t.Helper()
	if got, err := node.Decode(b); err != api.ErrFormat || !referenceEqual(got, api.Node{}) {
		t.Errorf("% x: %+v, error %d", b[:min(len(b), 100)], got, err)
	}
}

func checkChild(t *testing.T, src api.Node, own api.Id, c api.Cap, want api.Node, wanted api.Errno) {
	t.Helper()
	if got, err := node.Child(src, own, c); err != wanted || !referenceEqual(got, want) {
		t.Errorf("Child(%+v, %v, %+v) = %+v, error %d, want %+v, error %d", src, own, c, got, err, want, wanted)
	}
}

func checkParent(t *testing.T, n api.Node, live []api.Id, want api.Id, wanted bool) {
	t.Helper()
	if got, ok := node.Parent(n, live); got != want || ok != wanted {
		t.Errorf("Parent(%+v, %v) = %v, %v, want %v, %v", n, live, got, ok, want, wanted)
	}
}
