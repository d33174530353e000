package binenc_test

import (
	"hash/crc32"
	"math/rand"
	"strings"
	"testing"

	"multikernel/binenc"
)

// P1.5

func TestCRC32(t *testing.T) {
	cases := []struct {
		b    string
		want uint32
	}{
		{"", 0}, {"\x00", 0xD202EF8D}, {"\xFF", 0xFF000000}, {"a", 0xE8B7BE43}, {"123456789", 0xCBF43926}, {"\x00\x00\x00\x00", 0x2144DF1C},
	}
	for _, c := range cases {
		if got := binenc.CRC32([]byte(c.b)); got != c.want {
			t.Errorf("%q: %#x, want %#x", c.b, got, c.want)
		}
	}
	r := rand.New(rand.NewSource(3))
	for n := range 300 {
		b := make([]byte, n)
		r.Read(b)
		if got, want := binenc.CRC32(b), crc32.ChecksumIEEE(b); got != want {
			t.Errorf("% x: %#x, want %#x", b, got, want)
		}
	}
}

func TestSum16(t *testing.T) {
	cases := []struct {
		b    string
		want uint16
	}{
		{"", 0xFFFF}, {"\x00", 0xFFFF}, {"\x00\x00\x00", 0xFFFF},
		{"\x00\x01\xF2\x03\xF4\xF5\xF6\xF7", 0x220D},
		{"\x12", 0xEDFF}, {"\x12\x34", 0xEDCB}, {"\x12\x34\x56", 0x97CB},
		{"\xFF\xFF", 0}, {"\xFF\xFF\x00\x00", 0}, {"\xFF\xFF\x00\x01", 0xFFFE}, {"\xFF\xFF\xFF\xFF", 0},
		{"\x80\x00\x80\x00", 0xFFFE}, {"\xFF\xFE\x00\x01", 0}, {"\xFF\xFE\x00\x02", 0xFFFE},
	}
	for _, c := range cases {
		if got := binenc.Sum16([]byte(c.b)); got != c.want {
			t.Errorf("%q: %#x, want %#x", c.b, got, c.want)
		}
	}
}

// slowSum16 carries only at the end, in a sum that is wide enough.
func slowSum16(b []byte) uint16 {
	sum := uint64(0)
	for i, x := range b {
		sum += uint64(x) << (8 - 8*(i%2))
	}
	for sum > 0xFFFF {
		sum = sum>>16 + sum&0xFFFF
	}
	return ^uint16(sum)
}

func TestSum16OfLongInput(t *testing.T) {
	// 2^17 words of 0xFFFF overflow a sum of 32 bits that is not carried in time.
	for _, n := range []int{1 << 18, 1<<18 + 1, 1<<20 + 3} {
		b := []byte(strings.Repeat("\xFF", n))
		b[5] = 0x12
		if got, want := binenc.Sum16(b), slowSum16(b); got != want {
			t.Errorf("%d bytes: %#x, want %#x", n, got, want)
		}
	}
	r := rand.New(rand.NewSource(4))
	for n := range 300 {
		b := make([]byte, n)
		r.Read(b)
		if got, want := binenc.Sum16(b), slowSum16(b); got != want {
			t.Errorf("% x: %#x, want %#x", b, got, want)
		}
	}
}

func TestChecksumsKeepArgument(t *testing.T) {
	b := spare("\x01\x02\x03")
	binenc.CRC32(b)
	binenc.Sum16(b)
	checkNew(t, "checksums", b, nil, "\x01\x02\x03")
}

// P1.6, the last sentence

// flip returns b with the bits of burst exclusive-ored in from bit position at on.
func flip(b []byte, at int, burst uint32) []byte {
	out := append([]byte(nil), b...)
	for k := range 32 {
		if p := at + k; burst>>k&1 == 1 && p < 8*len(out) {
			out[p/8] ^= 1 << (p % 8)
		}
	}
	return out
}

func TestCRC32DetectsBursts(t *testing.T) {
	r := rand.New(rand.NewSource(5))
	for _, n := range []int{1, 4, 5, 64} {
		b := make([]byte, n)
		r.Read(b)
		sum := binenc.CRC32(b)
		for at := range 8 * n {
			bursts := []uint32{1, 1<<32 - 1, 1<<31 | 1, 0xEDB88321}
			for k := 1; k < 32; k++ {
				bursts = append(bursts, 1<<k|1)
			}
			for range 50 {
				bursts = append(bursts, r.Uint32()|1)
			}
			for _, burst := range bursts {
				if binenc.CRC32(flip(b, at, burst)) == sum {
					t.Fatalf("%d bytes: the burst %#x at bit %d is not detected", n, burst, at)
				}
			}
		}
	}
}
