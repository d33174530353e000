package node_test

import (
	"bytes"
	"math"
	"math/rand"
	"slices"
	"sync"
	"testing"

	"multikernel/api"
	"multikernel/node"
)

func anyNumber(r *rand.Rand) int {
	return pick(r, []int{math.MinInt, math.MinInt + 1, -1 << 32, -1, 0, 1, 2, 7, 8, 12, 31, 32, 1 << 30, 1<<30 + 1, 1 << 32, 1 << 62, math.MaxInt - 1, math.MaxInt})
}

func anyId(r *rand.Rand) api.Id {
	if r.Intn(2) == 0 {
		return randomId(r)
	}
	return id(anyNumber(r), anyNumber(r), anyNumber(r))
}

// anyNode returns a node each field of which is anything, or one that is valid, or nearly so.
func anyNode(r *rand.Rand) api.Node {
	switch r.Intn(3) {
	case 0:
		return randomNode(r)
	case 1:
		return spoil(r, randomNode(r))
	}
	n := api.Node{Id: anyId(r), Cap: api.Cap{Kind: anyNumber(r), Base: anyNumber(r), Bits: anyNumber(r), Rights: anyNumber(r), Width: anyNumber(r), Level: anyNumber(r), Device: r.Intn(2) == 0}}
	for range r.Intn(12) {
		n.Path = append(n.Path, anyId(r))
	}
	return n
}

// R1 and R3: all functions return, whatever the arguments are, and no comparison wraps around.
func TestAnyArguments(t *testing.T) {
	r := rand.New(rand.NewSource(6))
	for range 50000 {
		a, b := anyNode(r), anyNode(r)
		if node.ValidId(a.Id) != referenceValidId(a.Id) || node.Valid(a) != referenceValid(a) {
			t.Errorf("Valid or ValidId of %+v", a)
		}
		if node.Less(a.Id, b.Id) != referenceLess(a.Id, b.Id) {
			t.Errorf("Less(%v, %v)", a.Id, b.Id)
		}
		checkEqual(t, a, b, referenceEqual(a, b))
		other := pick(r, append(slices.Clone(a.Path), b.Id))
		if node.Below(a, other) != referenceBelow(a, other) {
			t.Errorf("Below(%+v, %v)", a, other)
		}
		live := append(slices.Clone(b.Path), other)
		parent, ok := referenceParent(a, live)
		checkParent(t, a, live, parent, ok)
		child, err := referenceChild(a, b.Id, b.Cap)
		checkChild(t, a, b.Id, b.Cap, child, err)
		if referenceValid(a) {
			checkCode(t, a, string(referenceEncode(a)))
		} else {
			checkEncodeError(t, a)
		}
	}
}

// R4: a call writes nothing into an argument, not even beyond the end of a list, and a result that is overwritten changes
// neither an argument nor a later result.
func TestResultsAreNewMemory(t *testing.T) {
	r := rand.New(rand.NewSource(7))
	for range 5000 {
		n := randomNode(r)
		long := append(slices.Clone(n.Path), id(30, 1, 0), id(30, 2, 0), id(30, 3, 0))
		written := slices.Clone(long)
		n.Path = long[:len(n.Path)]
		own, c := id(29, 1, 1), pick(r, goodCaps())
		want, wanted := referenceChild(n, own, c)
		child, _ := node.Child(n, own, c)
		clear(child.Path[:cap(child.Path)])
		checkChild(t, n, own, c, want, wanted)

		live := slices.Clone(long)
		node.Parent(n, live[:2])
		node.Below(n, own)
		code, _ := node.Encode(n)
		clear(code[:cap(code)])
		if !slices.Equal(long, written) || !slices.Equal(live, written) {
			t.Errorf("%+v: an argument is changed", n)
		}
		checkDecodeKeeps(t, n)
	}
}

// checkDecodeKeeps checks that Decode neither changes the bytes of n, nor what follows them, nor keeps what it returns.
func checkDecodeKeeps(t *testing.T, n api.Node) {
	t.Helper()
	code := referenceEncode(n)
	long := append(bytes.Clone(code), 1, 2, 3)
	copied := bytes.Clone(long)
	got, err := node.Decode(long[:len(code)])
	clear(got.Path[:cap(got.Path)])
	if err != api.OK || !bytes.Equal(long, copied) {
		t.Errorf("%+v: an argument is changed, or error %d", n, err)
	}
	got, _ = node.Decode(long[:len(code)])
	clear(long)
	if !referenceEqual(got, n) {
		t.Errorf("%+v: a result is changed", n)
	}
}

// R5: calls at the same time are not visible.
func TestCallsAtTheSameTime(t *testing.T) {
	r := rand.New(rand.NewSource(8))
	for range 200 {
		n, other := randomNode(r), randomId(r)
		live := append(slices.Clone(n.Path[len(n.Path)/2:]), other)
		parent, ok := referenceParent(n, live)
		child, err := referenceChild(n, other, n.Cap)
		var group sync.WaitGroup
		for range 4 {
			group.Go(func() {
				for range 5 {
					checkParent(t, n, live, parent, ok)
					checkChild(t, n, other, n.Cap, child, err)
					checkCode(t, n, string(referenceEncode(n)))
				}
			})
		}
		group.Wait()
	}
}
