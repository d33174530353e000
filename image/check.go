package image

import (
	"multikernel/api"
	"multikernel/binenc"
	"multikernel/hwlex"
)

const instrSize = 8 // bytes of an encoded instruction

// check returns the first error of the modules, the length of their image aside.
func check(modules []api.Module) api.Errno {
	if len(modules) > api.MaxModules {
		return api.ErrLimit
	}
	for i, m := range modules {
		if err := checkModule(m); err != api.OK {
			return err
		}
		if _, twice := Find(modules[:i], m.Name, m.Width); twice {
			return api.ErrDuplicate
		}
	}
	return api.OK
}

func checkModule(m api.Module) api.Errno {
	program := m.Kind == api.ModuleProgram
	lastEntry := 0
	if program {
		lastEntry = len(m.Data)/instrSize - 1
	}
	switch {
	case !hwlex.IsName(m.Name):
		return api.ErrName
	case !hasWidth(m.Kind, m.Width):
		return api.ErrRange
	case program && (len(m.Data) == 0 || len(m.Data)%instrSize != 0):
		return api.ErrAlign
	case m.Entry < 0 || m.Entry > lastEntry:
		return api.ErrRange
	}
	return api.OK
}

// hasWidth reports whether a module of the kind, if there is such a kind, may have the width.
func hasWidth(kind, width int) bool {
	switch kind {
	case api.ModuleProgram, api.ModuleKernel:
		return width == 32 || width == 39
	case api.ModuleData:
		return width == 0
	}
	return false
}

// checkHeader returns the first error of b that its header and its checksum show.
func checkHeader(b []byte) api.Errno {
	if len(b) < headerSize {
		return api.ErrTruncated
	}
	header := readFields(b, headerFields())
	length := uint64(header[headLength])
	switch {
	case string(b[:len(magic)]) != magic:
		return api.ErrMagic
	case header[headVersion] != version:
		return api.ErrVersion
	case length > uint64(len(b)):
		return api.ErrTruncated
	case length < uint64(len(b)):
		return api.ErrTrailing
	case length > api.MaxImage:
		return api.ErrLimit
	case header[headChecksum] != binenc.CRC32(b[headerSize:]):
		return api.ErrChecksum
	}
	return api.OK
}
