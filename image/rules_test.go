package image_test

import (
	"math/rand"
	"slices"
	"strings"
	"sync"
	"testing"

	"multikernel/api"
	"multikernel/image"
)

// results are those of one call of each function.
type results struct {
	built    []byte
	parsed   []api.Module
	index    int
	found    bool
	selected []api.Module
	errors   [2]api.Errno
}

func callAll(modules []api.Module, b []byte) results {
	var s results
	s.built, s.errors[0] = image.Build(modules)
	s.parsed, s.errors[1] = image.Parse(b)
	s.index, s.found = image.Find(modules, "a", 32)
	s.selected = image.Select(modules, 32)
	return s
}

func sameResults(a, b results) bool {
	return slices.Equal(a.built, b.built) && sameModules(a.parsed, b.parsed) && a.index == b.index && a.found == b.found &&
		sameModules(a.selected, b.selected) && a.errors == b.errors
}

// spare returns a copy of b that is followed by bytes 0xEE up to its capacity.
func spare(b []byte) []byte {
	n := len(b)
	return append(slices.Clone(b), []byte(strings.Repeat("\xEE", 70))...)[: n : n+70]
}

func checkSpare(t *testing.T, b []byte) {
	t.Helper()
	for _, x := range b[len(b):cap(b)] {
		if x != 0xEE {
			t.Error("bytes after the end of an argument are changed")
			return
		}
	}
}

func overwrite(b []byte) {
	b = b[:cap(b)]
	for i := range b {
		b[i] ^= 0x55
	}
}

// R4: a call writes nothing into an argument, not even beyond the end of a list, and a result that is overwritten changes
// neither an argument nor a later result.
func TestResultsAreNewMemory(t *testing.T) {
	r := rand.New(rand.NewSource(7))
	for range 500 {
		modules := randomModules(r)
		b := spare(mustBuild(t, modules))
		modules = append(modules, api.Module{Name: "spare", Width: 32})
		modules = modules[:len(modules)-1]
		for i := range modules {
			modules[i].Data = spare(modules[i].Data)
		}
		all := cloneModules(modules[:len(modules)+1])
		image1 := slices.Clone(b)
		want, spoiled := callAll(modules, b), callAll(modules, b)
		overwrite(spoiled.built)
		for _, list := range [][]api.Module{spoiled.parsed, spoiled.selected} {
			for _, m := range list {
				overwrite(m.Data)
			}
			clear(list[:cap(list)])
		}
		if !sameModules(modules[:len(modules)+1], all) || !slices.Equal(b, image1) {
			t.Error("an argument is changed")
		}
		checkSpare(t, b)
		for _, m := range modules {
			checkSpare(t, m.Data)
		}
		if !sameResults(callAll(modules, b), want) {
			t.Error("a result is changed")
		}
	}
}

// The data of two modules share no memory, not even if they did so in the argument.
func TestModulesShareNoMemory(t *testing.T) {
	data := []byte(strings.Repeat("12345678", 16))
	var modules []api.Module
	for i, m := range many(8, 0) {
		m.Data = data[8*i : 8*i+16]
		modules = append(modules, m)
	}
	b := mustBuild(t, modules)
	for i := range modules {
		parsed, err := image.Parse(b)
		if err != api.OK {
			t.Fatal(err)
		}
		for _, list := range [][]api.Module{parsed, image.Select(modules, 32)} {
			overwrite(list[i].Data)
			list[i].Data = modules[i].Data
			if !sameModules(list, modules) {
				t.Error("shared memory:", i)
			}
		}
	}
}

// R5: calls at the same time are not visible.
func TestResultsDependOnArgumentsOnly(t *testing.T) {
	r := rand.New(rand.NewSource(8))
	for range 50 {
		modules := randomModules(r)
		b := mustBuild(t, randomModules(r))
		want := callAll(modules, b)
		var group sync.WaitGroup
		for range 4 {
			group.Go(func() {
				for range 5 {
					if !sameResults(callAll(modules, b), want) {
						t.Error("another result")
					}
				}
			})
		}
		group.Wait()
	}
}

// R6: nil and empty data are the same.
func TestEmptyData(t *testing.T) {
	a := []api.Module{{Name: "a", Kind: api.ModuleData}}
	b := []api.Module{{Name: "a", Kind: api.ModuleData, Data: []byte{}}}
	if !slices.Equal(mustBuild(t, a), mustBuild(t, b)) {
		t.Error("other images")
	}
	checkBuild(t, b)
}
