package image

import (
	"strings"

	"multikernel/api"
	"multikernel/binenc"
)

const (
	magic      = "MKBI"
	version    = 1
	headerSize = 16
	entrySize  = 48
	nameSize   = 24 // bytes of an entry before its first integer
	boundary   = 64 // the data and the end of an image have offsets that are multiples of it
)

// field is the place of an integer in the header or in an entry.
type field struct{ offset, size int }

// The integers of the header.
const (
	headVersion = iota
	headModules
	headLength
	headChecksum
)

func headerFields() []field {
	return []field{headVersion: {4, 2}, headModules: {6, 2}, headLength: {8, 4}, headChecksum: {12, 4}}
}

// The integers of an entry.
const (
	fieldKind = iota
	fieldWidth
	fieldEntry
	fieldOffset
	fieldLength
	fieldChecksum
)

func entryFields() []field {
	return []field{
		fieldKind: {24, 1}, fieldWidth: {25, 1}, fieldEntry: {28, 4},
		fieldOffset: {32, 4}, fieldLength: {36, 4}, fieldChecksum: {40, 4},
	}
}

func readFields(b []byte, fields []field) []uint32 {
	values := make([]uint32, len(fields))
	for i, f := range fields {
		var padded [4]byte // little-endian, so that zero bytes at the end of a short integer do not change it
		copy(padded[:], b[f.offset:f.offset+f.size])
		values[i], _ = binenc.Uint32(padded[:], 0)
	}
	return values
}

// writeFields writes the values, which fit into their fields.
func writeFields(b []byte, fields []field, values []uint32) {
	for i, f := range fields {
		copy(b[f.offset:f.offset+f.size], binenc.AppendUint32(nil, values[i]))
	}
}

// writeHeader comes last: the checksum is that of the finished table and data.
func writeHeader(b []byte, modules int) {
	copy(b, magic)
	writeFields(b, headerFields(), []uint32{
		headVersion: version, headModules: uint32(modules),
		headLength: uint32(len(b)), headChecksum: binenc.CRC32(b[headerSize:]),
	})
}

func writeEntry(b []byte, m api.Module, dataOffset int) {
	copy(b, m.Name)
	writeFields(b, entryFields(), []uint32{
		fieldKind: uint32(m.Kind), fieldWidth: uint32(m.Width), fieldEntry: uint32(m.Entry),
		fieldOffset: uint32(dataOffset), fieldLength: uint32(len(m.Data)), fieldChecksum: binenc.CRC32(m.Data),
	})
}

func entryAt(i int) int { return headerSize + i*entrySize }

// place returns the offset of each module's data and the length of the image, or false if that is more than MaxImage. It
// compares before it adds, so that no sum is out of range.
func place(modules []api.Module) (offsets []int, size int, fits bool) {
	end := entryAt(len(modules))
	for _, m := range modules {
		offset := roundUp(end)
		if len(m.Data) > api.MaxImage-offset {
			return nil, 0, false
		}
		offsets = append(offsets, offset)
		end = offset + len(m.Data)
	}
	return offsets, roundUp(end), true
}

func roundUp(offset int) int { return (offset + boundary - 1) / boundary * boundary }

// views returns the modules that the table of b lists, with parts of b as their data, or false if b is too short.
func views(b []byte) ([]api.Module, bool) {
	count := int(readFields(b, headerFields())[headModules])
	if entryAt(count) > len(b) {
		return nil, false
	}
	var modules []api.Module
	for i := range count {
		m, inside := view(b, b[entryAt(i):])
		if !inside {
			return nil, false
		}
		modules = append(modules, m)
	}
	return modules, true
}

func view(b, entry []byte) (api.Module, bool) {
	values := readFields(entry, entryFields())
	start := uint64(values[fieldOffset])
	end := start + uint64(values[fieldLength])
	if end > uint64(len(b)) {
		return api.Module{}, false
	}
	return api.Module{
		Name: strings.TrimRight(string(entry[:nameSize]), "\x00"),
		Kind: int(values[fieldKind]), Width: int(values[fieldWidth]), Entry: int(values[fieldEntry]),
		Data: b[start:end],
	}, true
}
