package isa_test

import (
	"math"
	"math/rand"
	"slices"
	"testing"

	"multikernel/api"
	"multikernel/isa"
)

// P9.3

func TestEncode(t *testing.T) {
	for _, c := range []struct {
		in   api.Instr
		want string
	}{
		{api.Instr{}, "\x00\x00\x00\x00\x00\x00\x00\x00"},
		{api.Instr{Op: api.InstrAdd, A: 15, B: 2, C: 9}, "\x04\x0F\x02\x09\x00\x00\x00\x00"},
		{api.Instr{Op: api.InstrSt, A: 1, B: 14, Imm: 0x12345678}, "\x18\x01\x0E\x00\x78\x56\x34\x12"},
		{api.Instr{Op: api.InstrLi, A: 3, Imm: -1}, "\x01\x03\x00\x00\xFF\xFF\xFF\xFF"},
		{api.Instr{Op: api.InstrLi, A: 3, Imm: -256}, "\x01\x03\x00\x00\x00\xFF\xFF\xFF"},
		{api.Instr{Op: api.InstrSys, Imm: math.MinInt32}, "\x19\x00\x00\x00\x00\x00\x00\x80"},
		{api.Instr{Op: api.InstrSys, Imm: math.MaxInt32}, "\x19\x00\x00\x00\xFF\xFF\xFF\x7F"},
		{api.Instr{Op: api.InstrNop}, "\x1B\x00\x00\x00\x00\x00\x00\x00"},
	} {
		for _, n := range []int{1, 3} {
			b, err := isa.Encode(repeat(n, c.in))
			want := slices.Repeat([]byte(c.want), n)
			if err != api.OK || !slices.Equal(b, want) {
				t.Errorf("%v: % x, error %d, want % x", c.in, b, err, want)
			}
			checkDecode(t, want, repeat(n, c.in))
		}
	}
	if b, err := isa.Encode(examples()); err != api.OK || !slices.Equal(b, encoded(examples())) {
		t.Errorf("% x, error %d", b, err)
	}
}

func TestDecodeLength(t *testing.T) {
	checkDecodeError(t, nil, api.ErrLimit)
	checkDecodeError(t, []byte{}, api.ErrLimit)
	zeros := make([]byte, 8*(api.MaxProgram+2))
	for n := 1; n < 8; n++ {
		checkDecodeError(t, zeros[:n], api.ErrTruncated)
		checkDecodeError(t, zeros[:16+n], api.ErrTruncated)
		checkDecodeError(t, zeros[:8*api.MaxProgram+n], api.ErrTruncated)
		checkDecodeError(t, zeros[:8*api.MaxProgram+8+n], api.ErrTruncated)
		checkDecodeError(t, []byte("\xFF\xFF\xFF\xFF\xFF\xFF\xFF\xFF\xFF\xFF\xFF\xFF\xFF\xFF\xFF\xFF")[:8+n], api.ErrTruncated)
	}
	checkDecode(t, zeros[:8], make([]api.Instr, 1))
	checkDecode(t, zeros[:8*api.MaxProgram], make([]api.Instr, api.MaxProgram))
	checkDecodeError(t, zeros[:8*api.MaxProgram+8], api.ErrLimit)
	checkDecodeError(t, zeros, api.ErrLimit)
	checkDecodeError(t, make([]byte, 1<<24), api.ErrLimit)
	zeros[0] = 99
	checkDecodeError(t, zeros[:8*api.MaxProgram], api.ErrOpcode)
	checkDecodeError(t, zeros[:8*api.MaxProgram+8], api.ErrLimit)
}

func TestDecodeErrors(t *testing.T) {
	for _, c := range []struct {
		b    string
		want api.Errno
	}{
		{"\x1C\x00\x00\x00\x00\x00\x00\x00", api.ErrOpcode}, {"\xFF\x00\x00\x00\x00\x00\x00\x00", api.ErrOpcode}, {"\x80\x00\x00\x00\x00\x00\x00\x00", api.ErrOpcode},
		{"\x00\x01\x00\x00\x00\x00\x00\x00", api.ErrOpcode}, {"\x00\x00\x01\x00\x00\x00\x00\x00", api.ErrOpcode}, {"\x00\x00\x00\x01\x00\x00\x00\x00", api.ErrOpcode},
		{"\x04\x10\x00\x00\x00\x00\x00\x00", api.ErrOpcode}, {"\x04\x00\x10\x00\x00\x00\x00\x00", api.ErrOpcode}, {"\x04\x00\x00\x10\x00\x00\x00\x00", api.ErrOpcode},
		{"\x04\xFF\x00\x00\x00\x00\x00\x00", api.ErrOpcode}, {"\x04\x00\x80\x00\x00\x00\x00\x00", api.ErrOpcode},
		{"\x00\x00\x00\x00\x01\x00\x00\x00", api.ErrOpcode}, {"\x00\x00\x00\x00\x00\x01\x00\x00", api.ErrOpcode}, {"\x00\x00\x00\x00\x00\x00\x01\x00", api.ErrOpcode}, {"\x00\x00\x00\x00\x00\x00\x00\x80", api.ErrOpcode},
		{"\x12\x00\x00\x00\x01\x00\x00\x00", api.ErrTarget}, {"\x12\x00\x00\x00\x00\x00\x00\x01", api.ErrTarget}, {"\x12\x00\x00\x00\xFF\xFF\xFF\xFF", api.ErrTarget}, {"\x12\x00\x00\x00\x00\x00\x00\x80", api.ErrTarget},
		{"\x12\x01\x00\x00\x01\x00\x00\x00", api.ErrOpcode},
		{"\x12\x00\x00\x00\x02\x00\x00\x00\x1C\x00\x00\x00\x00\x00\x00\x00", api.ErrTarget}, {"\x1C\x00\x00\x00\x00\x00\x00\x00\x12\x00\x00\x00\x02\x00\x00\x00", api.ErrOpcode},
	} {
		checkDecodeError(t, []byte(c.b), c.want)
	}
	checkDecode(t, []byte("\x12\x00\x00\x00\x01\x00\x00\x00\x00\x00\x00\x00\x00\x00\x00\x00"), []api.Instr{{Op: api.InstrJmp, Imm: 1}, {}})
}

// P9.7, the first half

func TestDecodeUndoesEncode(t *testing.T) {
	r := rand.New(rand.NewSource(2))
	for range 5000 {
		p := randomProgram(r)
		b, err := isa.Encode(p)
		if err != api.OK {
			t.Fatalf("%v: error %d", p, err)
		}
		checkDecode(t, b, p)
	}
}

func TestEncodeUndoesDecode(t *testing.T) {
	r := rand.New(rand.NewSource(3))
	accepted := 0
	for range 50000 {
		b := encoded(randomProgram(r))
		for range r.Intn(3) {
			b[r.Intn(len(b))] = pick(r, []byte{0, 1, 15, 16, 27, 28, 255, byte(r.Intn(256))})
		}
		if r.Intn(8) == 0 {
			b = b[:r.Intn(len(b))]
		}
		p, err := isa.Decode(b)
		if err != api.OK {
			checkDecodeError(t, b, err)
			continue
		}
		accepted++
		if again, err := isa.Encode(p); err != api.OK || !slices.Equal(again, b) {
			t.Fatalf("% x: % x, error %d", b, again, err)
		}
	}
	if accepted < 5000 {
		t.Error(accepted)
	}
}
