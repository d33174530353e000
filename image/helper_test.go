package image_test

import (
	"encoding/binary"
	"hash/crc32"
	"math/rand"
	"slices"
	"strings"
	"testing"

	"multikernel/api"
	"multikernel/image"
)

// sample has a module of each kind and width, one name with several widths, data of a length that is a multiple of 64, data
// of other lengths, and none. Its image has a table up to offset 352 and data at 384, 448, 512, 640, 640, 704 and 704.
func sample() []api.Module {
	return []api.Module{
		{Name: "init", Kind: api.ModuleProgram, Width: 32, Entry: 1, Data: []byte("0123456789abcdef")},
		{Name: "init", Kind: api.ModuleProgram, Width: 39, Data: []byte(strings.Repeat("12345678", 8))},
		{Name: "cpu", Kind: api.ModuleKernel, Width: 39, Data: []byte(strings.Repeat("k", 65))},
		{Name: "cpu", Kind: api.ModuleKernel, Width: 32},
		{Name: "init", Kind: api.ModuleData, Data: []byte("i")},
		{Name: "_", Kind: api.ModuleData},
		{Name: "abcdefghijklmnopqrstuvwX", Kind: api.ModuleData, Data: []byte("data \x00\xFF")},
	}
}

// many returns n modules with different names and as many bytes of data as a list says, which is repeated.
func many(n int, lengths ...int) []api.Module {
	var modules []api.Module
	for i := range n {
		name := "m" + string(rune('A'+i/26)) + string(rune('a'+i%26))
		modules = append(modules, api.Module{Name: name, Kind: api.ModuleData, Data: make([]byte, lengths[i%len(lengths)])})
	}
	return modules
}

func cloneModules(modules []api.Module) []api.Module {
	modules = slices.Clone(modules)
	for i, m := range modules {
		modules[i].Data = slices.Clone(m.Data)
	}
	return modules
}

func equalModules(a, b api.Module) bool {
	return a.Name == b.Name && a.Kind == b.Kind && a.Width == b.Width && a.Entry == b.Entry && slices.Equal(a.Data, b.Data)
}

func sameModules(a, b []api.Module) bool { return slices.EqualFunc(a, b, equalModules) }

func pick[T any](r *rand.Rand, list []T) T { return list[r.Intn(len(list))] }

// randomModules returns modules without errors.
func randomModules(r *rand.Rand) []api.Module {
	names := []string{"a", "ab", "b", "_", "A9", "module_of_24_characters_"}
	var modules []api.Module
	for range r.Intn(8) {
		m := api.Module{Name: pick(r, names), Kind: 1 + r.Intn(3), Width: pick(r, []int{32, 39})}
		length := pick(r, []int{0, 1, 8, 56, 63, 64, 65, 128, r.Intn(300)})
		switch m.Kind {
		case api.ModuleProgram:
			length = 8 * (1 + length)
			m.Entry = r.Intn(length / 8)
		case api.ModuleData:
			m.Width = 0
		}
		m.Data = make([]byte, length)
		r.Read(m.Data)
		if _, ok := image.Find(modules, m.Name, m.Width); !ok {
			modules = append(modules, m)
		}
	}
	return modules
}

func mustBuild(t *testing.T, modules []api.Module) []byte {
	t.Helper()
	b, err := image.Build(modules)
	if err != api.OK {
		t.Fatalf("Build: error %d", err)
	}
	return b
}

// checkBuild checks that Build returns the image of the second reading, and that Parse returns the modules.
func checkBuild(t *testing.T, modules []api.Module) {
	t.Helper()
	b, err := image.Build(modules)
	if want := referenceImage(modules); err != api.OK || !slices.Equal(b, want) {
		t.Errorf("Build: %d bytes, error %d, want %d bytes", len(b), err, len(want))
	}
	checkParse(t, b, modules)
}

func checkParse(t *testing.T, b []byte, want []api.Module) {
	t.Helper()
	if got, err := image.Parse(b); err != api.OK || !sameModules(got, want) {
		t.Errorf("Parse: %v, error %d, want %v", got, err, want)
	}
}

// checkBuildError checks that Build returns an error and nothing else, or an image if the error is OK.
func checkBuildError(t *testing.T, modules []api.Module, want api.Errno) {
	t.Helper()
	if b, err := image.Build(modules); err != want || (len(b) == 0) != (want != api.OK) {
		t.Errorf("Build: %d bytes, error %d, want %d", len(b), err, want)
	}
}

// checkParseError checks that Parse returns an error and nothing else.
func checkParseError(t *testing.T, b []byte, want api.Errno) {
	t.Helper()
	if got, err := image.Parse(b); err != want || len(got) != 0 {
		t.Errorf("Parse: %v, error %d, want %d", got, err, want)
	}
}

// changed returns a copy of b with a change and then a right checksum in the header.
func changed(b []byte, change func(b []byte)) []byte {
	b = slices.Clone(b)
	change(b)
	seal(b)
	return b
}

func seal(b []byte) {
	binary.LittleEndian.PutUint32(b[12:], crc32.ChecksumIEEE(b[16:]))
}
