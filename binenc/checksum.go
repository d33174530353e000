package binenc

// polynomial is that of CRC32, with the bits in reflected order.
const polynomial = 0xEDB88320

// CRC32 returns the 32-bit cyclic redundancy check of b.
func CRC32(b []byte) uint32 {
	c := uint32(0xFFFFFFFF)
	for _, x := range b {
		c ^= uint32(x)
		for range 8 {
			// -(c & 1) is all ones if the bit that is shifted out is 1: a mask instead of a branch that would be mispredicted half of the time.
			c = c>>1 ^ polynomial&-(c&1)
		}
	}
	return ^c
}

// Sum16 returns the Internet checksum of b.
func Sum16(b []byte) uint16 {
	sum := uint32(0)
	for i := 0; i < len(b); i += 2 {
		sum += uint32(b[i]) << 8
		if i+1 < len(b) {
			sum += uint32(b[i+1])
		}
		// One step suffices: the sum of two words is at most 0x1FFFE.
		sum = sum>>16 + sum&0xFFFF
	}
	return ^uint16(sum)
}
