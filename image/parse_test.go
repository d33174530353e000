package image_test

import (
	"encoding/binary"
	"math/rand"
	"slices"
	"strings"
	"testing"

	"multikernel/api"
	"multikernel/image"
)

// P8.3

func TestParseSample(t *testing.T) {
	checkParse(t, mustBuild(t, nil), nil)
	checkParse(t, mustBuild(t, sample()), sample())
	for i, m := range sample() {
		checkParse(t, mustBuild(t, sample()[i:]), sample()[i:])
		checkParse(t, mustBuild(t, []api.Module{m}), []api.Module{m})
	}
}

func TestParseTruncated(t *testing.T) {
	b := mustBuild(t, sample())
	for n := range b {
		checkParseError(t, b[:n], api.ErrTruncated)
	}
	checkParseError(t, nil, api.ErrTruncated)
	checkParseError(t, []byte("x"), api.ErrTruncated)
	checkParseError(t, []byte("MKBx\x02\x00\x00\x00\x00\x00\x00\x00\x00\x00\x00"), api.ErrTruncated)
}

func TestParseMagic(t *testing.T) {
	b := mustBuild(t, sample())
	for i := range 4 {
		for bit := range 8 {
			checkParseError(t, changed(b, func(b []byte) { b[i] ^= 1 << bit }), api.ErrMagic)
		}
	}
	checkParseError(t, make([]byte, 16), api.ErrMagic)
}

func TestParseVersion(t *testing.T) {
	b := mustBuild(t, sample())
	for _, version := range []uint16{0, 2, 3, 0x0100, 0x0101, 0xFF01, 0xFFFF} {
		checkParseError(t, changed(b, func(b []byte) { binary.LittleEndian.PutUint16(b[4:], version) }), api.ErrVersion)
	}
}

func TestParseLength(t *testing.T) {
	b := mustBuild(t, sample())
	for length, want := range map[uint32]api.Errno{
		769: api.ErrTruncated, 832: api.ErrTruncated, 1<<16 + 768: api.ErrTruncated, 1<<31 + 768: api.ErrTruncated, 1<<32 - 1: api.ErrTruncated,
		767: api.ErrTrailing, 704: api.ErrTrailing, 512: api.ErrTrailing, 16: api.ErrTrailing, 15: api.ErrTrailing, 0: api.ErrTrailing,
	} {
		checkParseError(t, changed(b, func(b []byte) { binary.LittleEndian.PutUint32(b[8:], length) }), want)
	}
	for _, extra := range []int{1, 16, 64, 1 << 16} {
		checkParseError(t, append(slices.Clone(b), make([]byte, extra)...), api.ErrTrailing)
	}
}

// resized returns a copy of b with n bytes, where zeros follow those of b, and with that length and a right checksum.
func resized(b []byte, n int) []byte {
	b = append(slices.Clone(b), make([]byte, max(0, n-len(b)))...)[:n]
	binary.LittleEndian.PutUint32(b[8:], uint32(n))
	seal(b)
	return b
}

// The length counts before the checksum, which counts before the rest.
func TestParseLimit(t *testing.T) {
	b := mustBuild(t, sample())
	checkParseError(t, resized(b, api.MaxImage), api.ErrCanonical)
	for _, n := range []int{api.MaxImage + 1, api.MaxImage + 64, 2 * api.MaxImage} {
		long := resized(b, n)
		checkParseError(t, long, api.ErrLimit)
		checkParseError(t, append(long, 0), api.ErrTrailing)
		checkParseError(t, long[:n-1], api.ErrTruncated)
		long[12] ^= 1
		checkParseError(t, long, api.ErrLimit)
	}
}

func TestParseChecksum(t *testing.T) {
	b := mustBuild(t, sample())
	for i := 12; i < len(b); i++ {
		for bit := range 8 {
			c := slices.Clone(b)
			c[i] ^= 1 << bit
			checkParseError(t, c, api.ErrChecksum)
		}
	}
}

// Of several errors the first one in the order of the list counts.
func TestParseErrorsInOrder(t *testing.T) {
	b := mustBuild(t, sample())
	faults := []struct {
		err   api.Errno
		apply func(b []byte)
	}{
		{api.ErrMagic, func(b []byte) { b[3] = 'i' }},
		{api.ErrVersion, func(b []byte) { b[4] = 2 }},
		{api.ErrTruncated, func(b []byte) { b[10] = 1 }},
		{api.ErrTrailing, func(b []byte) { b[9]-- }},
		{api.ErrChecksum, func(b []byte) { b[12] ^= 1 }},
		{api.ErrCanonical, func(b []byte) { b[42] ^= 1; seal(b) }},
	}
	for set := 1; set < 1<<len(faults); set++ {
		c, want := slices.Clone(b), api.OK
		for i := len(faults) - 1; i >= 0; i-- {
			if set>>i&1 == 1 {
				faults[i].apply(c)
				want = faults[i].err
			}
		}
		checkParseError(t, c, want)
	}
}

// Too short to be an image of any modules, but with the right length and checksum.
func TestParseShort(t *testing.T) {
	for _, count := range []uint16{0, 1, 2, 0xFFFF} {
		b := mustBuild(t, nil)
		binary.LittleEndian.PutUint16(b[6:], count)
		for n := 16; n <= 200; n++ {
			if n != 64 || count != 0 {
				checkParseError(t, resized(b, n), api.ErrCanonical)
			}
		}
	}
}

func TestParseCount(t *testing.T) {
	b := mustBuild(t, sample())
	for _, count := range []uint16{0, 1, 6, 8, 15, 16, 64, 65, 0x0700, 0x0707, 0xFFFF} {
		checkParseError(t, changed(b, func(b []byte) { binary.LittleEndian.PutUint16(b[6:], count) }), api.ErrCanonical)
	}
	checkParse(t, referenceImage(many(64, 1)), many(64, 1))
	checkParseError(t, referenceImage(many(65, 1)), api.ErrCanonical)
	checkParseError(t, referenceImage(slices.Repeat(many(64, 1), 1000)), api.ErrCanonical)
}

// Images that follow the layout, but whose modules Build rejects.
func TestParseBadModules(t *testing.T) {
	for _, change := range []func(modules []api.Module){
		func(modules []api.Module) { modules[0].Name = "" },
		func(modules []api.Module) { modules[6].Name = "9" },
		func(modules []api.Module) { modules[6].Name = "a b" },
		func(modules []api.Module) { modules[3].Name = "a\x00b" },
		func(modules []api.Module) { modules[0].Kind = 0 },
		func(modules []api.Module) { modules[0].Kind = 4 },
		func(modules []api.Module) { modules[0].Kind = 255 },
		func(modules []api.Module) { modules[0].Kind = api.ModuleData },
		func(modules []api.Module) { modules[0].Width = 0 },
		func(modules []api.Module) { modules[0].Width = 33 },
		func(modules []api.Module) { modules[6].Width = 39 },
		func(modules []api.Module) { modules[0].Data = nil },
		func(modules []api.Module) { modules[0].Data = modules[0].Data[:15] },
		func(modules []api.Module) { modules[0].Entry = 2 },
		func(modules []api.Module) { modules[0].Entry = 1 << 31 },
		func(modules []api.Module) { modules[0].Entry = 1<<32 - 1 },
		func(modules []api.Module) { modules[2].Entry = 1 },
		func(modules []api.Module) { modules[6].Entry = 1 << 16 },
		func(modules []api.Module) { modules[1] = modules[0] },
		func(modules []api.Module) { modules[5].Name = "init" },
	} {
		modules := sample()
		change(modules)
		checkParseError(t, referenceImage(modules), api.ErrCanonical)
	}
}

// Every byte of an entry after the name, with every value.
func TestParseEntries(t *testing.T) {
	b := mustBuild(t, sample())
	for i := range sample() {
		for at := 16 + 48*i + 24; at < 16+48*i+48; at++ {
			for value := range 256 {
				c := changed(b, func(b []byte) { b[at] = byte(value) })
				want, err := referenceParse(c)
				if err == api.OK {
					checkParse(t, c, want)
				} else {
					checkParseError(t, c, err)
				}
			}
		}
	}
}

func TestParseNames(t *testing.T) {
	b := mustBuild(t, sample())
	for name, good := range map[string]bool{
		"x": true, "x23456789_123456789_1234": true, "in\x00\x00": true,
		"": false, "9": false, "\x00x": false, "x\x00y": false, "x" + strings.Repeat("\x00", 22) + "y": false,
		"x ": false, "x\xFF": false, "x23456789_123456789_123-": false, "init": false,
	} {
		c := changed(b, func(b []byte) { copy(b[16+48*2:], name+strings.Repeat("\x00", 24-len(name))) })
		if good {
			want := sample()
			want[2].Name = strings.TrimRight(name, "\x00")
			checkParse(t, c, want)
		} else {
			checkParseError(t, c, api.ErrCanonical)
		}
	}
}

// Offsets and lengths of data that leave the image or its layout, some of them with a sum of 2^32.
func TestParsePlaces(t *testing.T) {
	b := mustBuild(t, sample())
	numbers := []uint32{0, 1, 16, 64, 352, 384, 448, 512, 640, 704, 705, 767, 768, 769, 832, 1 << 24, 1 << 31, 1<<32 - 704, 1<<32 - 64, 1<<32 - 16, 1<<32 - 1}
	for i, m := range sample() {
		right := binary.LittleEndian.Uint32(b[16+48*i+32:])
		for _, start := range numbers {
			for _, length := range append(numbers, uint32(len(m.Data))) {
				if start == right && length == uint32(len(m.Data)) {
					continue
				}
				c := changed(b, func(b []byte) {
					binary.LittleEndian.PutUint32(b[16+48*i+32:], start)
					binary.LittleEndian.PutUint32(b[16+48*i+36:], length)
				})
				checkParseError(t, c, api.ErrCanonical)
			}
		}
	}
}

// Bytes that are not zero outside of the header, the table and the data.
func TestParseGaps(t *testing.T) {
	b := mustBuild(t, sample())
	gaps := 0
	for _, gap := range [][2]int{{352, 384}, {384 + 16, 448}, {512 + 65, 640}, {640 + 1, 704}, {704 + 7, 768}} {
		for i := gap[0]; i < gap[1]; i++ {
			checkParseError(t, changed(b, func(b []byte) { b[i] = 1 << (i % 8) }), api.ErrCanonical)
			gaps++
		}
	}
	if gaps != 32+48+63+63+57 {
		t.Error(gaps)
	}
	for n := 64; n < 1024; n++ {
		if n != len(b) {
			checkParseError(t, resized(b, n), api.ErrCanonical)
		}
	}
}

func TestParseAgainstReference(t *testing.T) {
	r := rand.New(rand.NewSource(3))
	seen := map[api.Errno]int{}
	for range 40000 {
		b := referenceImage(randomModules(r))
		for range r.Intn(3) {
			b = spoilImage(r, b)
		}
		want, err := referenceParse(b)
		got, gotErr := image.Parse(b)
		if gotErr != err || !sameModules(got, want) {
			t.Errorf("% x: %v, error %d, want %v, error %d", b, got, gotErr, want, err)
		}
		seen[err]++
	}
	for _, err := range []api.Errno{api.OK, api.ErrMagic, api.ErrVersion, api.ErrTruncated, api.ErrTrailing, api.ErrChecksum, api.ErrCanonical} {
		if seen[err] < 300 {
			t.Error("error", err, "occurs", seen[err], "times")
		}
	}
}

func spoilImage(r *rand.Rand, b []byte) []byte {
	b = slices.Clone(b)
	if len(b) < 64 {
		return b
	}
	count := int(binary.LittleEndian.Uint16(b[6:]))
	switch r.Intn(10) {
	case 0:
		b[r.Intn(len(b))] ^= 1 << r.Intn(8)
		return b
	case 1:
		b[r.Intn(16)] ^= 1 << r.Intn(8)
	case 2:
		return b[:r.Intn(len(b)+1)]
	case 3:
		return resized(b, max(16, len(b)+pick(r, []int{-64, -1, 1, 64})))
	case 4:
		return append(b, make([]byte, 1+r.Intn(64))...)
	case 5:
		b[16+r.Intn(len(b)-16)] = pick(r, []byte{0, 1, 2, 3, 32, 39, 'a', 255})
	default:
		if count == 0 || 16+48*count > len(b) {
			break
		}
		e := b[16+48*r.Intn(count):]
		field := e[pick(r, []int{0, 24, 25, 26, 28, 32, 36, 40, 44}):]
		field[0] += pick(r, []byte{1, 255, 64, 7})
	}
	seal(b)
	return b
}

// P8.5

func TestRoundTrips(t *testing.T) {
	r := rand.New(rand.NewSource(4))
	for range 2000 {
		modules := randomModules(r)
		b := mustBuild(t, modules)
		checkParse(t, b, modules)
		parsed, err := image.Parse(b)
		if err != api.OK || !slices.Equal(mustBuild(t, parsed), b) {
			t.Error("Build does not undo Parse:", modules)
		}
	}
}

// Every change within 32 consecutive bits after the header is noticed. Such bits may begin in the middle of a byte.
func TestBursts(t *testing.T) {
	r := rand.New(rand.NewSource(5))
	b := mustBuild(t, sample())
	for first := 16 * 8; first < len(b)*8; first++ {
		c := slices.Clone(b)
		burst := r.Uint64()>>32 | 1
		for bit := range 32 {
			if at := first + bit; at < len(c)*8 {
				c[at/8] ^= byte(burst>>bit&1) << (at % 8)
			}
		}
		checkParseError(t, c, api.ErrChecksum)
	}
}
