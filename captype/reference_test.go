package captype_test

import (
	"bytes"
	"encoding/binary"
	"math/big"
	"slices"

	"multikernel/api"
)

// inMemory reads P10.1 with integers of any size.
func inMemory(c api.Cap) bool {
	if c.Bits < 6 || 40 < c.Bits {
		return false
	}
	base, size := big.NewInt(int64(c.Base)), big.NewInt(1<<c.Bits)
	return base.Sign() >= 0 && new(big.Int).Rem(base, size).Sign() == 0 && base.Add(base, size).Cmp(big.NewInt(top)) <= 0
}

// sizes returns the Bits that objects of a kind may have.
func sizes(kind int) []int {
	var all []int
	for bits := 6; bits <= 40; bits++ {
		all = append(all, bits)
	}
	return map[int][]int{1: all, 2: all[6:], 3: {12}, 4: {6}, 5: {10}, 6: {16}}[kind]
}

// levels returns the levels of page tables of a width.
func levels(width int) []int { return map[int][]int{32: {0, 1}, 39: {0, 1, 2}}[width] }

func referenceValid(c api.Cap) bool {
	if c.Rights != c.Rights&7 || !inMemory(c) || !slices.Contains(sizes(c.Kind), c.Bits) {
		return false
	}
	if c.Kind == 3 {
		return slices.Contains(levels(c.Width), c.Level) && !c.Device
	}
	return c.Width == 0 && c.Level == 0 && !(c.Device && c.Kind >= 4)
}

// blocksOf returns every 32nd address of the object of a capability that has a valid range and is not great.
func blocksOf(c api.Cap) []int {
	var list []int
	if inMemory(c) {
		for b := c.Base; b < c.Base+1<<c.Bits; b += 32 {
			list = append(list, b)
		}
	}
	return list
}

func referenceSame(a, b api.Cap) bool {
	return a.Kind == b.Kind && a.Base == b.Base && a.Bits == b.Bits && a.Width == b.Width && a.Level == b.Level && a.Device == b.Device
}

func referenceCoexist(a, b api.Cap) bool {
	mine, others := blocksOf(a), blocksOf(b)
	shared := 0
	for _, x := range mine {
		if slices.Contains(others, x) {
			shared++
		}
	}
	return shared == 0 || referenceSame(a, b) || a.Kind == 1 && shared == len(others) || b.Kind == 1 && shared == len(mine)
}

// referenceRetype looks at all conditions of P11.4, one after the other, with integers of any size.
func referenceRetype(c retyping) ([]api.Cap, api.Errno) {
	if !referenceValid(c.src) || c.src.Kind != 1 {
		return nil, api.ErrKind
	}
	if !slices.Contains([]int{2, 3, 6, 7}, c.src.Rights) {
		return nil, api.ErrRights
	}
	if !slices.Contains(sizes(c.object), c.bits) || c.object == 3 && !slices.Contains(levels(c.width), c.level) || c.count < 1 || 8 < c.count || c.offset < 0 {
		return nil, api.ErrInvalid
	}
	if c.src.Device && 3 <= c.object {
		return nil, api.ErrKind
	}
	size, end := big.NewInt(1<<c.bits), big.NewInt(int64(c.src.Base)+1<<c.src.Bits)
	base := new(big.Int).Add(big.NewInt(int64(c.src.Base)), big.NewInt(int64(c.offset)))
	if new(big.Int).Rem(big.NewInt(int64(c.offset)), size).Sign() != 0 || c.object == 1 && c.src.Bits <= c.bits {
		return nil, api.ErrRange
	}
	var list []api.Cap
	for range c.count {
		next := new(big.Int).Add(base, size)
		if next.Cmp(end) > 0 {
			return nil, api.ErrRange
		}
		made := api.Cap{Kind: c.object, Base: int(base.Int64()), Bits: c.bits, Rights: c.src.Rights, Device: c.src.Device}
		if c.object == 3 {
			made.Width, made.Level = c.width, c.level
		}
		list, base = append(list, made), next
	}
	return list, api.OK
}

func referenceEncode(c api.Cap) []byte {
	rights := byte(c.Rights)
	if c.Device {
		rights |= 1 << 3
	}
	b := []byte{byte(c.Kind), byte(c.Bits), rights, byte(c.Width), byte(c.Level)}
	return binary.LittleEndian.AppendUint64(b, uint64(c.Base))[:10]
}

func referenceDecode(b []byte) (api.Cap, bool) {
	if len(b) != 10 {
		return api.Cap{}, false
	}
	base := binary.LittleEndian.Uint64(append(bytes.Clone(b[5:]), 0, 0, 0))
	c := api.Cap{
		Kind: int(b[0]), Base: int(base), Bits: int(b[1]), Rights: int(b[2] & 7), Width: int(b[3]), Level: int(b[4]),
		Device: b[2]>>3&1 == 1,
	}
	if !referenceValid(c) || !bytes.Equal(referenceEncode(c), b) {
		return api.Cap{}, false
	}
	return c, true
}
