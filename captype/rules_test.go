package captype_test

import (
	"bytes"
	"math"
	"math/rand"
	"slices"
	"sync"
	"testing"

	"multikernel/api"
	"multikernel/captype"
)

// anyCap returns a capability each field of which is any number, or one that is valid.
func anyCap(r *rand.Rand) api.Cap {
	if r.Intn(2) == 0 {
		return randomCap(r, 40)
	}
	return api.Cap{Kind: anyNumber(r), Base: anyNumber(r), Bits: anyNumber(r), Rights: anyNumber(r), Width: anyNumber(r), Level: anyNumber(r), Device: r.Intn(2) == 0}
}

func anyNumber(r *rand.Rand) int {
	return pick(r, []int{math.MinInt, math.MinInt + 1, -top, -64, -1, 0, 1, 2, 6, 7, 12, 32, 39, 40, 63, 64, 4096, top - 64, top, 1 << 62, math.MaxInt - 63, math.MaxInt})
}

// R1 and R3: all functions return, whatever the arguments are, and no sum wraps around.
func TestAnyArguments(t *testing.T) {
	r := rand.New(rand.NewSource(7))
	for range 200000 {
		a, b := anyCap(r), anyCap(r)
		if captype.Valid(a) != referenceValid(a) {
			t.Errorf("Valid(%+v)", a)
		}
		if !captype.Coexist(a, b) && (!inMemory(a) || !inMemory(b)) {
			t.Errorf("Coexist(%+v, %+v)", a, b)
		}
		if captype.SameObject(a, b) != referenceSame(a, b) {
			t.Errorf("SameObject(%+v, %+v)", a, b)
		}
		c := retyping{anyCap(r), anyNumber(r), anyNumber(r), anyNumber(r), anyNumber(r), anyNumber(r), anyNumber(r)}
		if want, err := referenceRetype(c); err == api.OK {
			checkRetype(t, c, want...)
		} else {
			checkRetypeError(t, c, err)
		}
	}
}

// R4: a call writes nothing into an argument, not even beyond the end of a list, and a result that is overwritten changes
// neither an argument nor a later result.
func TestResultsAreNewMemory(t *testing.T) {
	r := rand.New(rand.NewSource(8))
	for range 5000 {
		c := randomRetyping(r)
		want, _ := referenceRetype(c)
		list, _ := c.call()
		clear(list[:cap(list)])
		if again, _ := c.call(); !slices.Equal(again, want) {
			t.Errorf("%+v: a result is changed", c)
		}
		made := randomCap(r, 40)
		code, _ := captype.Encode(made)
		clear(code[:cap(code)])
		long := append(referenceEncode(made), 1, 2, 3)
		copied := bytes.Clone(long)
		checkCode(t, made, string(long[:10]))
		if got, err := captype.Decode(long[:10]); got != made || err != api.OK || !bytes.Equal(long, copied) {
			t.Errorf("%+v: an argument is changed", made)
		}
	}
}

// R5: calls at the same time are not visible.
func TestCallsAtTheSameTime(t *testing.T) {
	r := rand.New(rand.NewSource(9))
	for range 200 {
		c, made, other := randomRetyping(r), randomCap(r, 16), randomCap(r, 16)
		want, wanted := referenceRetype(c)
		coexist := referenceCoexist(made, other)
		var group sync.WaitGroup
		for range 4 {
			group.Go(func() {
				for range 5 {
					if list, err := c.call(); err != wanted || !slices.Equal(list, want) {
						t.Errorf("%+v: %+v, error %d", c, list, err)
					}
					checkCode(t, made, string(referenceEncode(made)))
					checkCoexist(t, made, other, coexist)
				}
			})
		}
		group.Wait()
	}
}
