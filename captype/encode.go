package captype

import "multikernel/api"

const (
	capSize    = 10 // bytes of an encoded capability
	baseAt     = 5  // offset of Base in them
	deviceFlag = 8  // added to the rights if Device is set
)

// Encode returns the bytes of a capability.
func Encode(c api.Cap) ([]byte, api.Errno) {
	if !Valid(c) {
		return nil, api.ErrInvalid
	}
	rights := c.Rights
	if c.Device {
		rights += deviceFlag
	}
	b := []byte{byte(c.Kind), byte(c.Bits), byte(rights), byte(c.Width), byte(c.Level)}
	for base := c.Base; len(b) < capSize; base >>= 8 {
		b = append(b, byte(base))
	}
	return b, api.OK
}

// Decode returns the capability that b encodes.
func Decode(b []byte) (api.Cap, api.Errno) {
	if len(b) != capSize {
		return api.Cap{}, api.ErrFormat
	}
	base := 0
	for i := capSize - 1; i >= baseAt; i-- {
		base = base<<8 | int(b[i])
	}
	// A bit above deviceFlag is left in the rights, so that Valid rejects it.
	c := api.Cap{
		Kind: int(b[0]), Base: base, Bits: int(b[1]), Rights: int(b[2]) &^ deviceFlag,
		Width: int(b[3]), Level: int(b[4]), Device: b[2]&deviceFlag != 0,
	}
	if !Valid(c) {
		return api.Cap{}, api.ErrFormat
	}
	return c, api.OK
}
