package binenc_test

import (
	"bytes"
	"encoding/binary"
	"math"
	"math/rand"
	"testing"

	"multikernel/api"
	"multikernel/binenc"
)

// spare returns a slice with the contents s and capacity for 32 more bytes, all of which are 0xEE.
func spare(s string) []byte {
	b := bytes.Repeat([]byte{0xEE}, len(s)+32)
	copy(b, s)
	return b[:len(s)]
}

// checkNew reports whether the call that made out from b changed b or its spare capacity, or shares memory with it.
func checkNew(t *testing.T, name string, b, out []byte, was string) {
	t.Helper()
	for i := range out {
		out[i] ^= 0xFF
	}
	if string(b) != was {
		t.Errorf("%s: the result shares memory with the argument, or the argument was changed: % x", name, b)
	}
	for _, x := range b[len(b):cap(b)] {
		if x != 0xEE {
			t.Errorf("%s: the spare capacity of the argument was written", name)
			return
		}
	}
}

// P1.1

func TestAppendFixed(t *testing.T) {
	cases := []struct {
		name string
		got  []byte
		want string
	}{
		{"uint16", binenc.AppendUint16(nil, 0x1234), "\x34\x12"},
		{"uint32", binenc.AppendUint32(nil, 0x12345678), "\x78\x56\x34\x12"},
		{"uint64", binenc.AppendUint64(nil, 0x123456789ABCDEF0), "\xF0\xDE\xBC\x9A\x78\x56\x34\x12"},
		{"uint16 zero", binenc.AppendUint16([]byte{}, 0), "\x00\x00"},
		{"uint32 zero", binenc.AppendUint32([]byte{}, 0), "\x00\x00\x00\x00"},
		{"uint64 zero", binenc.AppendUint64([]byte{}, 0), "\x00\x00\x00\x00\x00\x00\x00\x00"},
		{"uint16 greatest", binenc.AppendUint16([]byte("ab"), math.MaxUint16), "ab\xFF\xFF"},
		{"uint32 greatest", binenc.AppendUint32([]byte("ab"), math.MaxUint32), "ab\xFF\xFF\xFF\xFF"},
		{"uint64 greatest", binenc.AppendUint64([]byte("ab"), math.MaxUint64), "ab\xFF\xFF\xFF\xFF\xFF\xFF\xFF\xFF"},
	}
	for _, c := range cases {
		if string(c.got) != c.want {
			t.Errorf("%s: % x, want % x", c.name, c.got, c.want)
		}
	}
}

func TestAppendReturnsNewSlice(t *testing.T) {
	calls := map[string]func(b []byte) []byte{
		"AppendUint16":  func(b []byte) []byte { return binenc.AppendUint16(b, 1) },
		"AppendUint32":  func(b []byte) []byte { return binenc.AppendUint32(b, 1) },
		"AppendUint64":  func(b []byte) []byte { return binenc.AppendUint64(b, 1) },
		"AppendUvarint": func(b []byte) []byte { return binenc.AppendUvarint(b, 300) },
		"AppendVarint":  func(b []byte) []byte { return binenc.AppendVarint(b, -300) },
		"AppendBytes":   func(b []byte) []byte { return binenc.AppendBytes(b, []byte("xyz")) },
		"AppendBytes 0": func(b []byte) []byte { return binenc.AppendBytes(b, nil) },
	}
	for name, call := range calls {
		b := spare("head")
		checkNew(t, name, b, call(b), "head")
	}
}

func TestFixed(t *testing.T) {
	b := []byte{1, 2, 3, 4, 5, 6, 7, 8, 0xF9}
	for off := range len(b) + 1 {
		want16, want32, want64 := uint16(0), uint32(0), uint64(0)
		err16, err32, err64 := api.ErrTruncated, api.ErrTruncated, api.ErrTruncated
		if off+2 <= len(b) {
			want16, err16 = binary.LittleEndian.Uint16(b[off:]), api.OK
		}
		if off+4 <= len(b) {
			want32, err32 = binary.LittleEndian.Uint32(b[off:]), api.OK
		}
		if off+8 <= len(b) {
			want64, err64 = binary.LittleEndian.Uint64(b[off:]), api.OK
		}
		if v, err := binenc.Uint16(b, off); v != want16 || err != err16 {
			t.Errorf("Uint16 at %d: %#x, %d", off, v, err)
		}
		if v, err := binenc.Uint32(b, off); v != want32 || err != err32 {
			t.Errorf("Uint32 at %d: %#x, %d", off, v, err)
		}
		if v, err := binenc.Uint64(b, off); v != want64 || err != err64 {
			t.Errorf("Uint64 at %d: %#x, %d", off, v, err)
		}
	}
}

func TestFixedOffsetOutside(t *testing.T) {
	for _, b := range [][]byte{nil, {1}, make([]byte, 20)} {
		for _, off := range []int{math.MinInt, -8, -1, len(b) + 1, len(b) + 8, math.MaxInt - 1, math.MaxInt} {
			if v, err := binenc.Uint16(b, off); v != 0 || err != api.ErrRange {
				t.Errorf("Uint16 of %d bytes at %d: %d, %d", len(b), off, v, err)
			}
			if v, err := binenc.Uint32(b, off); v != 0 || err != api.ErrRange {
				t.Errorf("Uint32 of %d bytes at %d: %d, %d", len(b), off, v, err)
			}
			if v, err := binenc.Uint64(b, off); v != 0 || err != api.ErrRange {
				t.Errorf("Uint64 of %d bytes at %d: %d, %d", len(b), off, v, err)
			}
		}
	}
}

func TestFixedEmpty(t *testing.T) {
	_, err16 := binenc.Uint16(nil, 0)
	_, err32 := binenc.Uint32(nil, 0)
	_, err64 := binenc.Uint64(nil, 0)
	if err16 != api.ErrTruncated || err32 != api.ErrTruncated || err64 != api.ErrTruncated {
		t.Error(err16, err32, err64)
	}
}

// P1.2

const nine = "\xFF\xFF\xFF\xFF\xFF\xFF\xFF\xFF\xFF" // nine groups of ones, each with another one after it

func TestUvarintEncodings(t *testing.T) {
	cases := []struct {
		v    uint64
		want string
	}{
		{0, "\x00"}, {1, "\x01"}, {127, "\x7F"}, {128, "\x80\x01"}, {300, "\xAC\x02"},
		{1<<14 - 1, "\xFF\x7F"}, {1 << 14, "\x80\x80\x01"},
		{1<<63 - 1, "\xFF\xFF\xFF\xFF\xFF\xFF\xFF\xFF\x7F"},
		{1 << 63, "\x80\x80\x80\x80\x80\x80\x80\x80\x80\x01"},
		{math.MaxUint64, nine + "\x01"},
	}
	for _, c := range cases {
		if b := binenc.AppendUvarint([]byte("h"), c.v); string(b) != "h"+c.want {
			t.Errorf("%d: % x, want h and % x", c.v, b, c.want)
		}
		b := []byte("h" + c.want + "\x00")
		if v, next, err := binenc.Uvarint(b, 1); v != c.v || next != len(b)-1 || err != api.OK {
			t.Errorf("% x: %d, %d, %d", b, v, next, err)
		}
	}
}

func TestUvarintErrors(t *testing.T) {
	cases := []struct {
		b    string
		off  int
		want api.Errno
	}{
		{"", math.MinInt, api.ErrRange}, {"\x05", -1, api.ErrRange}, {"\x05", 2, api.ErrRange}, {"", 1, api.ErrRange}, {"\x05", math.MaxInt, api.ErrRange},
		{"", 0, api.ErrTruncated}, {"\x05", 1, api.ErrTruncated}, {"\x80", 0, api.ErrTruncated}, {"\xFF\xFF", 0, api.ErrTruncated}, {nine, 0, api.ErrTruncated},
		{nine + "\x02", 0, api.ErrRange}, {nine + "\x7F", 0, api.ErrRange}, {nine + "\x80", 0, api.ErrRange}, {nine + "\x81", 0, api.ErrRange}, {nine + "\xFF\x00", 0, api.ErrRange},
		{"\x80\x00", 0, api.ErrCanonical}, {"\xFF\x00", 0, api.ErrCanonical}, {"\x80\x80\x00", 0, api.ErrCanonical}, {"\x05\x80\x00\x05", 1, api.ErrCanonical},
		{nine + "\x00", 0, api.ErrCanonical},
	}
	for _, c := range cases {
		if v, next, err := binenc.Uvarint([]byte(c.b), c.off); v != 0 || next != 0 || err != c.want {
			t.Errorf("Uvarint(% x, %d): %d, %d, %d, want error %d", c.b, c.off, v, next, err, c.want)
		}
		if v, next, err := binenc.Varint([]byte(c.b), c.off); v != 0 || next != 0 || err != c.want {
			t.Errorf("Varint(% x, %d): %d, %d, %d, want error %d", c.b, c.off, v, next, err, c.want)
		}
		if p, next, err := binenc.Bytes([]byte(c.b), c.off, math.MaxInt); len(p) != 0 || next != 0 || err != c.want {
			t.Errorf("Bytes(% x, %d): % x, %d, %d, want error %d", c.b, c.off, p, next, err, c.want)
		}
	}
}

// P1.3

func TestVarintEncodings(t *testing.T) {
	cases := []struct {
		v      int64
		mapped uint64
	}{
		{0, 0}, {-1, 1}, {1, 2}, {-2, 3}, {2, 4}, {63, 126}, {-64, 127}, {64, 128}, {-65, 129},
		{math.MaxInt64, math.MaxUint64 - 1}, {math.MinInt64, math.MaxUint64}, {math.MinInt64 + 1, math.MaxUint64 - 2},
	}
	for _, c := range cases {
		want := binenc.AppendUvarint([]byte("h"), c.mapped)
		if b := binenc.AppendVarint([]byte("h"), c.v); !bytes.Equal(b, want) {
			t.Errorf("%d: % x, want % x", c.v, b, want)
		}
		if v, next, err := binenc.Varint(append(want, 0), 1); v != c.v || next != len(want) || err != api.OK {
			t.Errorf("% x: %d, %d, %d, want %d", want, v, next, err, c.v)
		}
	}
	if b := binenc.AppendVarint(nil, -1); string(b) != "\x01" {
		t.Errorf("-1: % x", b)
	}
}

// P1.4

func TestBytesEncodings(t *testing.T) {
	for _, n := range []int{0, 1, 3, 127, 128, 300, 16383, 16384} {
		p := bytes.Repeat([]byte("p"), n)
		b := binenc.AppendBytes([]byte("head"), p)
		want := append(binary.AppendUvarint([]byte("head"), uint64(n)), p...)
		if !bytes.Equal(b, want) {
			t.Errorf("%d bytes: % x", n, b)
		}
		got, next, err := binenc.Bytes(append(want, 9), 4, n)
		if !bytes.Equal(got, p) || next != len(want) || err != api.OK {
			t.Errorf("%d bytes: %d bytes, %d, %d", n, len(got), next, err)
		}
	}
}

func TestBytesErrors(t *testing.T) {
	cases := []struct {
		b          string
		off, limit int
		want       api.Errno
	}{
		{"\x03abc", -1, 3, api.ErrRange}, {"\x03abc", 5, 3, api.ErrRange}, {"\x03abc", 0, -1, api.ErrRange}, {"\x03abc", 0, math.MinInt, api.ErrRange},
		{"\x80", 0, -1, api.ErrRange}, {"\x80\x00", 0, -1, api.ErrRange}, {"", 0, -1, api.ErrRange}, {"", 1, -1, api.ErrRange},
		{"", 0, 0, api.ErrTruncated}, {"\x80", 0, 0, api.ErrTruncated}, {"\x83\x00", 0, 0, api.ErrCanonical}, {nine + "\x02", 0, 0, api.ErrRange},
		{"\x03abc", 0, 2, api.ErrLimit}, {"\x03abc", 0, 0, api.ErrLimit}, {"\x03ab", 0, 2, api.ErrLimit}, {nine + "\x01", 0, math.MaxInt, api.ErrLimit},
		{"\x80\x80\x80\x80\x80\x80\x80\x80\x80\x01", 0, math.MaxInt, api.ErrLimit},
		{"\x03ab", 0, 3, api.ErrTruncated}, {"\x01", 0, 1, api.ErrTruncated}, {"xy\x04abc", 2, 4, api.ErrTruncated},
		{"\xFF\xFF\xFF\xFF\xFF\xFF\xFF\xFF\x7Fabc", 0, math.MaxInt, api.ErrTruncated},
	}
	for _, c := range cases {
		if p, next, err := binenc.Bytes([]byte(c.b), c.off, c.limit); len(p) != 0 || next != 0 || err != c.want {
			t.Errorf("Bytes(%q, %d, %d): %q, %d, %d, want error %d", c.b, c.off, c.limit, p, next, err, c.want)
		}
	}
}

func TestBytesSharesNothing(t *testing.T) {
	b := spare("\x03abc")
	p, _, _ := binenc.Bytes(b, 0, 3)
	checkNew(t, "Bytes", b, p, "\x03abc")
	_ = append(p, 'x')
	checkNew(t, "Bytes and append", b, nil, "\x03abc")
	arg := spare("xyz")
	checkNew(t, "AppendBytes, second argument", arg, binenc.AppendBytes(nil, arg), "xyz")
}

// P1.6, the first two sentences

func TestDecodingReturnsWhatWasEncoded(t *testing.T) {
	r := rand.New(rand.NewSource(1))
	for range 20000 {
		u := r.Uint64() >> r.Intn(64)
		s := int64(r.Uint64()) >> r.Intn(64)
		p := make([]byte, r.Intn(300))
		r.Read(p)
		b := binenc.AppendUint16(nil, uint16(u))
		b = binenc.AppendUint32(b, uint32(u))
		b = binenc.AppendUint64(b, u)
		b = binenc.AppendUvarint(b, u)
		b = binenc.AppendVarint(b, s)
		b = binenc.AppendBytes(b, p)
		u16, err1 := binenc.Uint16(b, 0)
		u32, err2 := binenc.Uint32(b, 2)
		u64, err3 := binenc.Uint64(b, 6)
		uv, at, err4 := binenc.Uvarint(b, 14)
		sv, at, err5 := binenc.Varint(b, at)
		q, at, err6 := binenc.Bytes(b, at, len(p))
		if u16 != uint16(u) || u32 != uint32(u) || u64 != u || uv != u || sv != s || !bytes.Equal(p, q) || at != len(b) {
			t.Fatal(u, s, p, b)
		}
		if err1|err2|err3|err4|err5|err6 != api.OK {
			t.Fatal(err1, err2, err3, err4, err5, err6)
		}
	}
}

// checkAccepted checks that what the decoders accept at the start of b is the encoding of what they return.
func checkAccepted(t *testing.T, b []byte) {
	t.Helper()
	if v, next, err := binenc.Uvarint(b, 0); err == api.OK && !bytes.Equal(binenc.AppendUvarint(nil, v), b[:next]) {
		t.Fatalf("Uvarint(% x): %d, %d", b, v, next)
	}
	if v, next, err := binenc.Varint(b, 0); err == api.OK && !bytes.Equal(binenc.AppendVarint(nil, v), b[:next]) {
		t.Fatalf("Varint(% x): %d, %d", b, v, next)
	}
	if p, next, err := binenc.Bytes(b, 0, len(b)); err == api.OK && !bytes.Equal(binenc.AppendBytes(nil, p), b[:next]) {
		t.Fatalf("Bytes(% x): % x, %d", b, p, next)
	}
}

func TestAcceptedIsEncoding(t *testing.T) {
	for x := range 1 << 16 {
		checkAccepted(t, []byte{byte(x), byte(x >> 8), 1})
	}
	r := rand.New(rand.NewSource(2))
	special := []byte{0, 1, 2, 0x7F, 0x80, 0x81, 0xFF}
	for range 100000 {
		b := make([]byte, r.Intn(13))
		for i := range b {
			// Mostly bytes that another one follows, so that long encodings occur.
			b[i] = byte(r.Intn(256)) | 0x80
			if r.Intn(8) == 0 {
				b[i] = special[r.Intn(len(special))]
			}
		}
		checkAccepted(t, b)
	}
}

func TestUvarintAgreesWithLibrary(t *testing.T) {
	for shift := range 64 {
		for _, v := range []uint64{1 << shift, 1<<shift - 1, 1<<shift + 1, ^uint64(0) >> shift} {
			if got, want := binenc.AppendUvarint(nil, v), binary.AppendUvarint(nil, v); !bytes.Equal(got, want) {
				t.Errorf("%d: % x, want % x", v, got, want)
			}
			if got, want := binenc.AppendVarint(nil, int64(v)), binary.AppendVarint(nil, int64(v)); !bytes.Equal(got, want) {
				t.Errorf("%d: % x, want % x", int64(v), got, want)
			}
		}
	}
}
