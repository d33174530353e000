package captype_test

import (
	"bytes"
	"math/rand"
	"slices"
	"testing"

	"multikernel/api"
	"multikernel/captype"
)

// P11.5

func TestCode(t *testing.T) {
	checkCode(t, at(api.CapUntyped, 0, 6), "\x01\x06\x07\x00\x00\x00\x00\x00\x00\x00")
	checkCode(t, with(0, at(api.CapUntyped, 0, 40)), "\x01\x28\x00\x00\x00\x00\x00\x00\x00\x00")
	checkCode(t, device(with(0, at(api.CapUntyped, top-64, 6))), "\x01\x06\x08\x00\x00\xC0\xFF\xFF\xFF\xFF")
	checkCode(t, device(with(5, at(api.CapFrame, 0x80_0000_0000, 39))), "\x02\x27\x0D\x00\x00\x00\x00\x00\x00\x80")
	checkCode(t, at(api.CapFrame, 0xFE_DCBA_9000, 12), "\x02\x0C\x07\x00\x00\x00\x90\xBA\xDC\xFE")
	checkCode(t, with(5, table(0x12_3456_7000, 39, 2)), "\x03\x0C\x05\x27\x02\x00\x70\x56\x34\x12")
	checkCode(t, with(1, table(4096, 32, 0)), "\x03\x0C\x01\x20\x00\x00\x10\x00\x00\x00")
	checkCode(t, with(2, at(api.CapEndpoint, 0x40, 6)), "\x04\x06\x02\x00\x00\x40\x00\x00\x00\x00")
	checkCode(t, with(3, at(api.CapDispatcher, 0x400, 10)), "\x05\x0A\x03\x00\x00\x00\x04\x00\x00\x00")
	checkCode(t, with(6, at(api.CapKernel, 0x1_0203_0000, 16)), "\x06\x10\x06\x00\x00\x00\x00\x03\x02\x01")
}

func TestCodesOfAllKinds(t *testing.T) {
	for _, c := range goodCaps() {
		for rights := range 8 {
			c := with(rights, c)
			checkCode(t, c, string(referenceEncode(c)))
		}
	}
}

func TestEncodeErrors(t *testing.T) {
	for _, c := range oddCaps() {
		if b, err := captype.Encode(c); err != api.ErrInvalid || len(b) != 0 {
			t.Errorf("%+v: % x, error %d", c, b, err)
		}
	}
	r := rand.New(rand.NewSource(5))
	for range 100000 {
		c := spoil(r, randomCap(r, 40))
		if referenceValid(c) {
			checkCode(t, c, string(referenceEncode(c)))
		} else if b, err := captype.Encode(c); err != api.ErrInvalid || len(b) != 0 {
			t.Errorf("%+v: % x, error %d", c, b, err)
		}
	}
}

func TestDecodeLength(t *testing.T) {
	checkDecodeError(t, nil)
	checkDecodeError(t, []byte{})
	for _, c := range goodCaps() {
		b := append(referenceEncode(c), 0)
		for n := range 10 {
			checkDecodeError(t, b[:n])
		}
		checkDecodeError(t, b)
		checkDecodeError(t, slices.Concat(b[:10], b[:10]))
		checkDecodeError(t, slices.Insert(b[:10:10], 0, 0))
	}
	checkDecodeError(t, make([]byte, 10))
	checkDecodeError(t, bytes.Repeat([]byte{255}, 10))
	checkDecodeError(t, make([]byte, 1<<24))
}

// Each byte of an encoding, replaced by each other one.
func TestDecodeOfEachByte(t *testing.T) {
	for _, c := range []api.Cap{
		at(api.CapUntyped, 4096, 12), device(with(0, at(api.CapUntyped, 0, 40))), with(3, at(api.CapFrame, 8192, 13)), device(at(api.CapFrame, top-4096, 12)),
		table(4096, 32, 1), with(4, table(0, 39, 2)), at(api.CapEndpoint, 64, 6), with(1, at(api.CapDispatcher, 1024, 10)), at(api.CapKernel, 65536, 16),
	} {
		for i := range 10 {
			for v := range 256 {
				b := referenceEncode(c)
				b[i] = byte(v)
				checkDecode(t, b)
			}
		}
	}
}

// checkDecode compares Decode with the reference, and reports whether b is an encoding.
func checkDecode(t *testing.T, b []byte) bool {
	t.Helper()
	want, ok := referenceDecode(b)
	if !ok {
		checkDecodeError(t, b)
		return false
	}
	checkCode(t, want, string(b))
	return true
}

func TestDecodeOfRandomBytes(t *testing.T) {
	r := rand.New(rand.NewSource(6))
	accepted := 0
	for range 200000 {
		b := referenceEncode(randomCap(r, 40))
		for range r.Intn(4) {
			b[r.Intn(10)] = pick(r, []byte{0, 1, 2, 3, 6, 7, 8, 12, 15, 16, 32, 39, 40, 128, 255, byte(r.Intn(256))})
		}
		if checkDecode(t, b) {
			accepted++
		}
	}
	if accepted < 50000 || accepted > 150000 {
		t.Error(accepted, "encodings")
	}
}
