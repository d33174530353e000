package image_test

import (
	"encoding/binary"
	"hash/crc32"
	"math"
	"math/rand"
	"strings"
	"testing"

	"multikernel/api"
)

// P8.1

func TestImageOfNoModules(t *testing.T) {
	zeros := make([]byte, 48)
	want := "MKBI\x01\x00\x00\x00\x40\x00\x00\x00" + string(binary.LittleEndian.AppendUint32(nil, crc32.ChecksumIEEE(zeros))) + string(zeros)
	for _, modules := range [][]api.Module{nil, {}} {
		if b := mustBuild(t, modules); string(b) != want {
			t.Errorf("% x", b)
		}
	}
}

// Every byte of an image, written out. The first CRC32 is that of the digits in the chapter of binenc.
func TestImageOfTwoModules(t *testing.T) {
	program := strings.Repeat("\x00", 0x810)
	modules := []api.Module{
		{Name: "digits_of_24_characters_", Kind: api.ModuleData, Data: []byte("123456789")},
		{Name: "p", Kind: api.ModuleProgram, Width: 39, Entry: 0x101, Data: []byte(program)},
	}
	zeros := func(n int) string { return strings.Repeat("\x00", n) }
	body := "digits_of_24_characters_" + "\x03\x00\x00\x00" + "\x00\x00\x00\x00" + "\x80\x00\x00\x00" + "\x09\x00\x00\x00" + "\x26\x39\xF4\xCB" + "\x00\x00\x00\x00" +
		"p" + zeros(23) + "\x01\x27\x00\x00" + "\x01\x01\x00\x00" + "\xC0\x00\x00\x00" + "\x10\x08\x00\x00" +
		string(binary.LittleEndian.AppendUint32(nil, crc32.ChecksumIEEE([]byte(program)))) + "\x00\x00\x00\x00" +
		zeros(16) + "123456789" + zeros(55) + program + zeros(48)
	want := "MKBI" + "\x01\x00" + "\x02\x00" + "\x00\x09\x00\x00" + string(binary.LittleEndian.AppendUint32(nil, crc32.ChecksumIEEE([]byte(body)))) + body
	if b := mustBuild(t, modules); string(b) != want {
		t.Errorf("% x", b)
	}
}

func TestOffsetsOfSample(t *testing.T) {
	b := mustBuild(t, sample())
	for i, want := range []uint32{384, 448, 512, 640, 640, 704, 704} {
		if got := binary.LittleEndian.Uint32(b[16+48*i+32:]); got != want {
			t.Errorf("the data of module %d are at %d, want %d", i, got, want)
		}
	}
	if len(b) != 768 {
		t.Error(len(b), "bytes")
	}
	checkBuild(t, sample())
}

// The table ends at a multiple of 64 if there are 1, 5, 9 and so on modules.
func TestImagesOfAllCountsAndLengths(t *testing.T) {
	for n := range api.MaxModules + 1 {
		for _, lengths := range [][]int{{0}, {1}, {63}, {64}, {65}, {0, 0, 128, 1}} {
			checkBuild(t, many(n, lengths...))
		}
	}
	checkBuild(t, many(4, 0x10001, 0x20000))
	for length := range 200 {
		checkBuild(t, many(1, length))
		checkBuild(t, many(3, length, 200-length))
	}
}

func TestImagesAgainstReference(t *testing.T) {
	r := rand.New(rand.NewSource(1))
	for range 3000 {
		checkBuild(t, randomModules(r))
	}
}

// P8.2

func TestTooManyModules(t *testing.T) {
	checkBuildError(t, many(64, 1), api.OK)
	checkBuildError(t, many(65, 1), api.ErrLimit)
	checkBuildError(t, make([]api.Module, 65), api.ErrLimit)
	checkBuildError(t, make([]api.Module, 64), api.ErrName)
	checkBuildError(t, make([]api.Module, 1<<16+1), api.ErrLimit)
}

func TestNames(t *testing.T) {
	for name, want := range map[string]api.Errno{
		"a": api.OK, "Z": api.OK, "__": api.OK, "_9": api.OK, "abcdefghijklmnopqrstuvwx": api.OK, "________________________": api.OK,
		"": api.ErrName, "abcdefghijklmnopqrstuvwxy": api.ErrName, "9": api.ErrName, "9a": api.ErrName, "a b": api.ErrName, "a\x00": api.ErrName,
		"\x00a": api.ErrName, "a\x00b": api.ErrName, "a-b": api.ErrName, "a\n": api.ErrName, "\xE4": api.ErrName, "ä": api.ErrName, strings.Repeat("a", 1<<20): api.ErrName,
	} {
		for i := range sample() {
			modules := sample()
			modules[i].Name = name
			checkBuildError(t, modules, want)
		}
	}
}

var oddNumbers = []int{0, 1, 2, 3, 4, -1, 31, 32, 33, 38, 39, 40, 64, 255, 256, 256 + 1, 256 + 32, 256 + 39, 1<<16 + 2, 1<<32 + 3, 1<<32 + 32, math.MaxInt, math.MinInt, math.MinInt + 32}

func TestKindsAndWidths(t *testing.T) {
	for _, kind := range oddNumbers {
		for _, width := range oddNumbers {
			want := api.ErrRange
			switch {
			case (kind == api.ModuleProgram || kind == api.ModuleKernel) && (width == 32 || width == 39):
				want = api.OK
			case kind == api.ModuleData && width == 0:
				want = api.OK
			}
			checkBuildError(t, []api.Module{{Name: "a", Kind: kind, Width: width, Data: make([]byte, 8)}}, want)
		}
	}
}

func TestLengthsAndEntries(t *testing.T) {
	for length := range 40 {
		for _, entry := range append(oddNumbers, 5, 1<<32+4) {
			program, kernel, data := api.OK, api.ErrRange, api.ErrRange
			if length == 0 || length%8 != 0 {
				program = api.ErrAlign
			} else if entry < 0 || entry >= length/8 {
				program = api.ErrRange
			}
			if entry == 0 {
				kernel, data = api.OK, api.OK
			}
			bytes := make([]byte, length)
			checkBuildError(t, []api.Module{{Name: "a", Kind: api.ModuleProgram, Width: 32, Entry: entry, Data: bytes}}, program)
			checkBuildError(t, []api.Module{{Name: "a", Kind: api.ModuleKernel, Width: 32, Entry: entry, Data: bytes}}, kernel)
			checkBuildError(t, []api.Module{{Name: "a", Kind: api.ModuleData, Entry: entry, Data: bytes}}, data)
		}
	}
}

func TestDuplicates(t *testing.T) {
	for i := range sample() {
		for j := range sample() {
			modules := sample()
			twin := modules[i]
			if i == j {
				checkBuildError(t, append(modules, twin), api.ErrDuplicate)
				checkBuildError(t, append([]api.Module{twin}, modules...), api.ErrDuplicate)
				continue
			}
			modules[j] = twin
			checkBuildError(t, modules, api.ErrDuplicate)
		}
	}
	// the name and the width count, not the kind, the entry or the data
	twins := []api.Module{{Name: "a", Kind: api.ModuleProgram, Width: 39, Entry: 1, Data: make([]byte, 16)}, {Name: "a", Kind: api.ModuleKernel, Width: 39}}
	checkBuildError(t, twins, api.ErrDuplicate)
	twins[1].Width = 32
	checkBuildError(t, twins, api.OK)
	twins[1].Width, twins[1].Name = 39, "A"
	checkBuildError(t, twins, api.OK)
}

// Of several errors of one module the first one in the order of the list counts.
func TestErrorsOfOneModule(t *testing.T) {
	faults := []struct {
		err   api.Errno
		apply func(m *api.Module)
	}{
		{api.ErrName, func(m *api.Module) { m.Name = "" }},
		{api.ErrRange, func(m *api.Module) { m.Width = 33 }},
		{api.ErrRange, func(m *api.Module) { m.Kind = 4 }},
		{api.ErrAlign, func(m *api.Module) { m.Data = m.Data[:15] }},
		{api.ErrRange, func(m *api.Module) { m.Entry = 1 << 40 }},
		{api.ErrDuplicate, func(m *api.Module) { m.Name = "init" }},
	}
	const nameOrWidth, duplicate, sixth = 1 | 2, 32, 64
	for set := 1; set < sixth; set++ {
		if set&duplicate != 0 && set&nameOrWidth != 0 {
			continue // no earlier module can have such a name or width
		}
		modules := sample()
		m := &modules[1]
		m.Name, m.Width = "other", 32
		want := api.OK
		for i, f := range faults {
			if set>>i&1 == 1 {
				f.apply(m)
				if want == api.OK {
					want = f.err
				}
			}
		}
		checkBuildError(t, modules, want)
	}
}

// The errors of an earlier module come first, and those of all modules come before a length that exceeds the limit.
func TestErrorsOfTwoModules(t *testing.T) {
	faults := map[api.Errno]func(m *api.Module){
		api.ErrName:      func(m *api.Module) { m.Name = "1" },
		api.ErrRange:     func(m *api.Module) { m.Width = 32 },
		api.ErrAlign:     func(m *api.Module) { m.Kind, m.Width, m.Data = api.ModuleProgram, 32, nil },
		api.ErrDuplicate: func(m *api.Module) { m.Name = "mAa" },
	}
	long := make([]byte, api.MaxImage)
	for earlier, applyEarlier := range faults {
		for later, applyLater := range faults {
			modules := many(4, 8)
			modules[0].Data = long
			applyLater(&modules[3])
			checkBuildError(t, modules, later)
			applyEarlier(&modules[1])
			checkBuildError(t, modules, earlier)
			modules[0].Data = nil
			checkBuildError(t, modules, earlier)
		}
	}
}

func TestBuildErrorsAgainstReference(t *testing.T) {
	r := rand.New(rand.NewSource(2))
	seen := map[api.Errno]int{}
	for range 20000 {
		modules := randomModules(r)
		for range r.Intn(3) {
			if len(modules) > 0 {
				spoil(r, modules)
			}
		}
		want := referenceError(modules)
		checkBuildError(t, modules, want)
		seen[want]++
	}
	for _, err := range []api.Errno{api.OK, api.ErrName, api.ErrRange, api.ErrAlign, api.ErrDuplicate} {
		if seen[err] < 300 {
			t.Error("error", err, "occurs", seen[err], "times")
		}
	}
}

func spoil(r *rand.Rand, modules []api.Module) {
	m := &modules[r.Intn(len(modules))]
	switch r.Intn(6) {
	case 0:
		m.Name = pick(r, []string{"", "9", "a\x00", "module_of_25_characters__", "ok"})
	case 1:
		m.Kind = pick(r, []int{1, 2, 3, r.Intn(6) - 1})
	case 2:
		m.Width = pick(r, []int{0, 32, 39, 40})
	case 3:
		m.Data = m.Data[:r.Intn(len(m.Data)+1)]
	case 4:
		m.Entry = pick(r, []int{0, 1, -1, len(m.Data)/8 - 1, len(m.Data) / 8})
	case 5:
		*m = pick(r, modules)
	}
}

// The table of seven modules ends at 352, so that the first data are at 384.
func TestGreatestImage(t *testing.T) {
	room := api.MaxImage - 384
	for _, at := range []int{0, 6} {
		modules := many(7, 0)
		modules[at].Data = make([]byte, room)
		modules[at].Data[room-1] = 1
		checkBuild(t, modules)
		modules[at].Data = make([]byte, room+1)
		checkBuildError(t, modules, api.ErrLimit)
		modules[at].Data = make([]byte, room-63)
		modules[(at+1)%7].Data = make([]byte, 1)
		checkBuildError(t, modules, api.ErrLimit)
	}
}

func TestImagesThatAreTooLong(t *testing.T) {
	checkBuildError(t, many(1, api.MaxImage), api.ErrLimit)
	checkBuildError(t, many(1, 1<<25), api.ErrLimit)
	checkBuildError(t, many(2, 1<<23), api.ErrLimit)
	// the lengths are too great only together with the zero bytes between the data
	checkBuildError(t, many(64, 1<<18-63), api.ErrLimit)
	checkBuildError(t, many(64, 1<<18-64), api.OK)
	// lengths whose sum has zeros in its lowest 32 bits
	modules := many(64, 0)
	data := make([]byte, 1<<26)
	for i := range modules {
		modules[i].Data = data
	}
	checkBuildError(t, modules, api.ErrLimit)
}
