package captype

import "multikernel/api"

// Retype returns count objects of a kind that lie one behind the other in src, from the offset on.
func Retype(src api.Cap, object, bits, level, width, offset, count int) ([]api.Cap, api.Errno) {
	if object != api.CapTable {
		level, width = 0, 0
	}
	if err := checkRetype(src, object, bits, level, width, offset, count); err != api.OK {
		return nil, err
	}
	list := make([]api.Cap, count)
	for i := range list {
		list[i] = api.Cap{
			Kind: object, Base: src.Base + offset + i<<bits, Bits: bits, Rights: src.Rights,
			Width: width, Level: level, Device: src.Device,
		}
	}
	return list, api.OK
}

// checkRetype returns the error of a Retype.
func checkRetype(src api.Cap, object, bits, level, width, offset, count int) api.Errno {
	switch {
	case !Valid(src) || src.Kind != api.CapUntyped:
		return api.ErrKind
	case src.Rights&api.RightWrite == 0:
		return api.ErrRights
	case !permitsBits(object, bits) || object == api.CapTable && !permitsTable(width, level):
		return api.ErrInvalid
	case count < 1 || count > api.MaxCount || offset < 0:
		return api.ErrInvalid
	case src.Device && !permitsDevice(object):
		return api.ErrKind
	// Compared with a difference, because the sum of offset and size could wrap around.
	case offset%(1<<bits) != 0 || offset > 1<<src.Bits-count<<bits:
		return api.ErrRange
	case object == api.CapUntyped && bits >= src.Bits:
		return api.ErrRange
	}
	return api.OK
}
