// Package binenc encodes integers and byte strings and computes checksums (chapter 1).
package binenc

import "multikernel/api"

const (
	groupBits = 7    // bits of a value that one byte of a variable-length encoding carries
	moreFlag  = 0x80 // set in each byte of a variable-length encoding but the last
	maxGroups = 10   // the longest encoding of a uint64
	lastGroup = 1    // the greatest last byte of an encoding of maxGroups bytes
)

// AppendUint16 returns the bytes of b followed by v in little-endian order.
func AppendUint16(b []byte, v uint16) []byte { return appendFixed(b, uint64(v), 2) }

// AppendUint32 returns the bytes of b followed by v in little-endian order.
func AppendUint32(b []byte, v uint32) []byte { return appendFixed(b, uint64(v), 4) }

// AppendUint64 returns the bytes of b followed by v in little-endian order.
func AppendUint64(b []byte, v uint64) []byte { return appendFixed(b, v, 8) }

// Uint16 decodes the two bytes of b at off.
func Uint16(b []byte, off int) (uint16, api.Errno) {
	v, err := fixed(b, off, 2)
	return uint16(v), err
}

// Uint32 decodes the four bytes of b at off.
func Uint32(b []byte, off int) (uint32, api.Errno) {
	v, err := fixed(b, off, 4)
	return uint32(v), err
}

// Uint64 decodes the eight bytes of b at off.
func Uint64(b []byte, off int) (uint64, api.Errno) {
	return fixed(b, off, 8)
}

// AppendUvarint returns the bytes of b followed by the shortest encoding of v.
func AppendUvarint(b []byte, v uint64) []byte {
	var groups [maxGroups]byte
	n := 0
	for v >= moreFlag {
		groups[n] = byte(v) | moreFlag
		v >>= groupBits
		n++
	}
	groups[n] = byte(v)
	return join(b, groups[:n+1])
}

// Uvarint decodes the variable-length encoding in b at off. It returns the value and the offset after it.
func Uvarint(b []byte, off int) (v uint64, next int, err api.Errno) {
	if !within(b, off) {
		return 0, 0, api.ErrRange
	}
	next = off
groups:
	for n := 0; ; n++ {
		if next == len(b) {
			return 0, 0, api.ErrTruncated
		}
		group := b[next]
		next++
		v |= uint64(group&^moreFlag) << (groupBits * n)
		switch {
		case n == maxGroups-1 && group > lastGroup:
			return 0, 0, api.ErrRange
		case n > 0 && group == 0:
			return 0, 0, api.ErrCanonical
		case group < moreFlag:
			break groups
		}
	}
	return v, next, api.OK
}

// AppendVarint returns the bytes of b followed by the shortest encoding of v.
func AppendVarint(b []byte, v int64) []byte {
	// v>>63 is all ones for a negative v, so that the exclusive or turns 2v into -2v - 1.
	return AppendUvarint(b, uint64(v)<<1^uint64(v>>63))
}

// Varint decodes the variable-length encoding in b at off. It returns the value and the offset after it.
func Varint(b []byte, off int) (v int64, next int, err api.Errno) {
	u, next, err := Uvarint(b, off)
	return int64(u>>1) ^ -int64(u&1), next, err
}

// AppendBytes returns the bytes of b, the encoded length of p, and the bytes of p.
func AppendBytes(b []byte, p []byte) []byte {
	return join(b, AppendUvarint(nil, uint64(len(p))), p)
}

// Bytes decodes a byte string of at most limit bytes in b at off. It returns its contents and the offset after it.
func Bytes(b []byte, off int, limit int) (p []byte, next int, err api.Errno) {
	if limit < 0 {
		return nil, 0, api.ErrRange
	}
	length, start, err := Uvarint(b, off)
	switch {
	case err != api.OK:
		return nil, 0, err
	case length > uint64(limit):
		return nil, 0, api.ErrLimit
	case length > uint64(len(b)-start):
		return nil, 0, api.ErrTruncated
	}
	next = start + int(length)
	return join(b[start:next]), next, api.OK
}

// appendFixed returns the bytes of b followed by the n lowest bytes of v, the least significant one first.
func appendFixed(b []byte, v uint64, n int) []byte {
	var low [8]byte
	for i := range n {
		low[i] = byte(v >> (8 * i))
	}
	return join(b, low[:n])
}

// fixed decodes the n bytes of b at off, the least significant one first.
func fixed(b []byte, off, n int) (uint64, api.Errno) {
	if !within(b, off) {
		return 0, api.ErrRange
	}
	if len(b)-off < n {
		return 0, api.ErrTruncated
	}
	v := uint64(0)
	for i := range n {
		v |= uint64(b[off+i]) << (8 * i)
	}
	return v, api.OK
}

// within tells whether off is an offset of b. The offset of its end is one.
func within(b []byte, off int) bool {
	return off >= 0 && off <= len(b)
}

// join returns the bytes of all parts in a new slice. It does not use append, which could write into the spare capacity of an argument.
func join(parts ...[]byte) []byte {
	size := 0
	for _, part := range parts {
		size += len(part)
	}
	out := make([]byte, size)
	at := 0
	for _, part := range parts {
		at += copy(out[at:], part)
	}
	return out
}
