package node_test

import (
	"bytes"
	"encoding/binary"
	"math"
	"math/rand"
	"slices"
	"strings"
	"testing"

	"multikernel/api"
	"multikernel/node"
)

// P12.4

func TestCode(t *testing.T) {
	page := "\x02\x0C\x07\x00\x00\x00\x10\x00\x00\x00"
	checkCode(t, api.Node{Id: id(0, 1, 0), Cap: frame(4096)}, "\x00\x01\x00\x00"+page)
	checkCode(t, api.Node{Id: id(31, 1<<30, 7), Cap: frame(4096)}, "\x1F\x80\x80\x80\x80\x04\x07\x00"+page)
	checkCode(t, api.Node{Id: id(3, 300, 1), Path: []api.Id{id(0, 1, 0)}, Cap: frame(4096)}, "\x03\xAC\x02\x01\x01\x00\x01\x00"+page)
	checkCode(t, api.Node{Id: id(2, 127, 5), Path: []api.Id{id(4, 128, 6), id(1, 3, 7)}, Cap: frame(4096)}, "\x02\x7F\x05\x02\x04\x80\x01\x06\x01\x03\x07"+page)
	table := api.Cap{Kind: api.CapTable, Base: 0x12_3456_7000, Bits: 12, Rights: 5, Width: 39, Level: 2}
	checkCode(t, api.Node{Id: id(9, 16384, 0), Path: []api.Id{id(8, 16383, 0)}, Cap: table}, "\x09\x80\x80\x01\x00\x01\x08\xFF\x7F\x00"+"\x03\x0C\x05\x27\x02\x00\x70\x56\x34\x12")
	full := api.Node{Id: id(0, 9, 0), Cap: frame(4096)}
	code := ""
	for i := range 8 {
		full.Path = append(full.Path, id(i, i+1, 7-i))
		code += string([]byte{byte(i), byte(i + 1), byte(7 - i)})
	}
	checkCode(t, full, "\x00\x09\x00\x08"+code+page)
}

func TestCodesOfAllNodes(t *testing.T) {
	for _, n := range goodNodes() {
		checkCode(t, n, string(referenceEncode(n)))
	}
}

func TestEncodeErrors(t *testing.T) {
	for _, n := range oddNodes() {
		checkEncodeError(t, n)
	}
	r := rand.New(rand.NewSource(3))
	for range 50000 {
		n := spoil(r, randomNode(r))
		if referenceValid(n) {
			checkCode(t, n, string(referenceEncode(n)))
		} else {
			checkEncodeError(t, n)
		}
	}
}

func TestDecodeLength(t *testing.T) {
	checkDecodeError(t, nil)
	checkDecodeError(t, []byte{})
	for n := range 9 {
		b := referenceEncode(chain(n))
		for i := range b {
			checkDecodeError(t, b[:i])
			checkDecode(t, b[i+1:])
			checkDecode(t, slices.Delete(slices.Clone(b), i, i+1))
		}
		for _, more := range []string{"\x00", "\x01", "\x80", "\xFF", string(b), strings.Repeat("\x00", 10)} {
			checkDecodeError(t, append(slices.Clone(b), more...))
		}
	}
	checkDecodeError(t, make([]byte, 1<<24))
	checkDecodeError(t, bytes.Repeat([]byte{1}, 1<<24))
	checkDecodeError(t, bytes.Repeat([]byte{255}, 1<<24))
}

// What Encode would return for nodes that are not valid. The numbers of some of them have no encoding.
func TestDecodeOfOddNodes(t *testing.T) {
	for _, n := range oddNodes() {
		checkDecodeError(t, referenceEncode(n))
	}
}

// Each number is replaced by others, among them those that equal it in an int of 64 or 32 bits, or in a byte.
func TestDecodeOfEachNumber(t *testing.T) {
	r := rand.New(rand.NewSource(4))
	for range 200 {
		n := randomNode(r)
		numbers := numbersOf(n)
		for i, v := range numbers {
			for _, w := range []uint64{0, 1, 7, 8, 31, 32, 1 << 30, 1<<30 + 1, v + 1, v - 1, v + 1<<8, v + 1<<31, v + 1<<32, v + 1<<63, math.MaxInt64, 1 << 63, math.MaxUint64} {
				other := slices.Clone(numbers)
				other[i] = w
				checkDecode(t, append(appendNumbers(other), capCode(n.Cap)...))
			}
		}
	}
}

func numbersOf(n api.Node) []uint64 {
	var numbers []uint64
	for rest := referenceEncode(n); len(rest) > 10; {
		v, used := binary.Uvarint(rest)
		numbers, rest = append(numbers, v), rest[used:]
	}
	return numbers
}

func appendNumbers(numbers []uint64) []byte {
	var b []byte
	for _, v := range numbers {
		b = binary.AppendUvarint(b, v)
	}
	return b
}

// The counts from 0 to 20 and some greater ones, ahead of from 0 to 20 Ids.
func TestDecodeOfCounts(t *testing.T) {
	counts := []uint64{128, 256, 256 + 8, 1 << 32, 1<<32 + 8, math.MaxInt64, 1 << 63, 1<<63 + 8, math.MaxUint64 - 7, math.MaxUint64}
	for count := range uint64(21) {
		counts = append(counts, count)
	}
	for _, count := range counts {
		for ids := range uint64(21) {
			numbers := []uint64{1, 99, 0, count}
			for i := range ids {
				numbers = append(numbers, 0, i+1, 0)
			}
			b := append(appendNumbers(numbers), capCode(frame(0))...)
			if checkDecode(t, b) != (count == ids && count <= 8) {
				t.Errorf("count %d and %d Ids", count, ids)
			}
		}
	}
}

// Each number with bytes that are not needed, or that make it too great.
func TestDecodeOfLongNumbers(t *testing.T) {
	for _, n := range []api.Node{chain(0), chain(1), chain(8), {Id: id(31, 1<<30, 7), Path: []api.Id{id(0, 1, 0)}, Cap: frame(0)}} {
		numbers := numbersOf(n)
		for i := range numbers {
			ahead, number, behind := appendNumbers(numbers[:i]), appendNumbers(numbers[i:i+1]), appendNumbers(numbers[i+1:])
			number[len(number)-1] |= 0x80
			for _, more := range []string{"\x00", "\x80\x00", "\x80\x80\x80\x80\x08", "\x80\x80\x80\x80\x80\x80\x80\x80\x00", "\x80\x80\x80\x80\x80\x80\x80\x80\x80\x00", "\x80\x80\x80\x80\x80\x80\x80\x80\x80\x80\x00"} {
				if checkDecode(t, slices.Concat(ahead, number, []byte(more), behind, []byte(capCode(n.Cap)))) {
					t.Errorf("%+v: number %d followed by % x", n, i, more)
				}
			}
		}
	}
}

func TestDecodeOfOddCaps(t *testing.T) {
	for n := range 9 {
		ahead := encodeNumbers([]int{3, 300, 1, n})
		for _, p := range chain(n).Path {
			ahead = append(ahead, encodeNumbers([]int{p.Core, p.Op, p.Part})...)
		}
		for i := range 10 {
			for v := range 256 {
				code := []byte(capCode(frame(4096)))
				code[i] = byte(v)
				checkDecode(t, slices.Concat(ahead, code))
			}
		}
	}
}

// checkDecode compares Decode with the reference, and reports whether b is an encoding.
func checkDecode(t *testing.T, b []byte) bool {
	t.Helper()
	want, ok := referenceDecode(b)
	if !ok {
		checkDecodeError(t, b)
		return false
	}
	checkCode(t, want, string(b))
	return true
}

// Each byte of encodings, replaced by each other one.
func TestDecodeOfEachByte(t *testing.T) {
	for _, n := range []api.Node{chain(0), chain(2), chain(8), {Id: id(31, 1<<30, 7), Path: []api.Id{id(0, 1<<29, 0)}, Cap: goodCaps()[4]}} {
		b := referenceEncode(n)
		for i := range b {
			for v := range 256 {
				other := slices.Clone(b)
				other[i] = byte(v)
				checkDecode(t, other)
			}
		}
	}
}

func TestDecodeOfRandomBytes(t *testing.T) {
	r := rand.New(rand.NewSource(5))
	accepted := 0
	for range 200000 {
		b := referenceEncode(randomNode(r))
		for range r.Intn(3) {
			i, v := r.Intn(len(b)), pick(r, []byte{0, 1, 2, 3, 7, 8, 9, 31, 32, 127, 128, 129, 255, byte(r.Intn(256))})
			switch r.Intn(4) {
			case 0:
				b = slices.Insert(b, i, v)
			case 1:
				b = slices.Delete(b, i, i+1)
			default:
				b[i] = v
			}
		}
		if checkDecode(t, b) {
			accepted++
		}
	}
	if accepted < 50000 || accepted > 150000 {
		t.Error(accepted, "encodings")
	}
}

// Two nodes have the same encoding only if they are equal.
func TestCodesDiffer(t *testing.T) {
	seen := map[string]api.Node{}
	for _, n := range goodNodes() {
		b, _ := node.Encode(n)
		if other, ok := seen[string(b)]; ok && !node.Equal(other, n) {
			t.Errorf("%+v and %+v have the same encoding", n, other)
		}
		seen[string(b)] = n
	}
}
