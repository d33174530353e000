package image_test

import (
	"bytes"
	"encoding/binary"
	"hash/crc32"
	"regexp"
	"slices"

	"multikernel/api"
)

// This file is a second reading of P8.1 to P8.3, which has nothing in common with the package.

var nameForm = regexp.MustCompile(`^[A-Za-z_][A-Za-z0-9_]{0,23}$`)

// pad appends zero bytes up to the next multiple of 64.
func pad(b []byte) []byte {
	for len(b)%64 != 0 {
		b = append(b, 0)
	}
	return b
}

// referenceImage returns the image of modules that have no error. It writes the data first, behind an empty table.
func referenceImage(modules []api.Module) []byte {
	little := binary.LittleEndian
	body := pad(make([]byte, 16+48*len(modules)))
	var table []byte
	for _, m := range modules {
		table = append(table, m.Name...)
		table = append(table, make([]byte, 24-len(m.Name))...)
		table = append(table, byte(m.Kind), byte(m.Width), 0, 0)
		table = little.AppendUint32(table, uint32(m.Entry))
		table = little.AppendUint32(table, uint32(len(body)))
		table = little.AppendUint32(table, uint32(len(m.Data)))
		table = little.AppendUint32(table, crc32.ChecksumIEEE(m.Data))
		table = append(table, 0, 0, 0, 0)
		body = pad(append(body, m.Data...))
	}
	copy(body[16:], table)
	head := little.AppendUint16([]byte("MKBI\x01\x00"), uint16(len(modules)))
	head = little.AppendUint32(head, uint32(len(body)))
	head = little.AppendUint32(head, crc32.ChecksumIEEE(body[16:]))
	copy(body, head)
	return body
}

// referenceError returns the error of Build.
func referenceError(modules []api.Module) api.Errno {
	if len(modules) > 64 {
		return api.ErrLimit
	}
	for i, m := range modules {
		if err := referenceModuleError(modules[:i], m); err != api.OK {
			return err
		}
	}
	length := (16 + 48*len(modules) + 63) / 64 * 64
	for _, m := range modules {
		length += (len(m.Data) + 63) / 64 * 64
	}
	if length > 1<<24 {
		return api.ErrLimit
	}
	return api.OK
}

func referenceModuleError(earlier []api.Module, m api.Module) api.Errno {
	program, kernel, data := m.Kind == 1, m.Kind == 2, m.Kind == 3
	if !nameForm.MatchString(m.Name) {
		return api.ErrName
	}
	if !program && !kernel && !data || (program || kernel) && m.Width != 32 && m.Width != 39 || data && m.Width != 0 {
		return api.ErrRange
	}
	if program && (len(m.Data) < 8 || len(m.Data)&7 != 0) {
		return api.ErrAlign
	}
	if program && (m.Entry < 0 || m.Entry >= len(m.Data)/8) || !program && m.Entry != 0 {
		return api.ErrRange
	}
	if slices.ContainsFunc(earlier, func(e api.Module) bool { return e.Name == m.Name && e.Width == m.Width }) {
		return api.ErrDuplicate
	}
	return api.OK
}

// referenceParse looks at each byte of b from front to back.
func referenceParse(b []byte) ([]api.Module, api.Errno) {
	if err := referenceHeaderError(b); err != api.OK {
		return nil, err
	}
	count := int(binary.LittleEndian.Uint16(b[6:]))
	at := 16 + 48*count
	if at > len(b) {
		return nil, api.ErrCanonical
	}
	var modules []api.Module
	for i := range count {
		m, end, ok := referenceEntry(b, b[16+48*i:64+48*i], at)
		if !ok {
			return nil, api.ErrCanonical
		}
		modules = append(modules, m)
		at = end
	}
	if zeros, ok := referenceZeros(b, at); !ok || zeros != len(b) || referenceError(modules) != api.OK {
		return nil, api.ErrCanonical
	}
	return modules, api.OK
}

func referenceHeaderError(b []byte) api.Errno {
	if len(b) < 16 {
		return api.ErrTruncated
	}
	length := uint64(binary.LittleEndian.Uint32(b[8:]))
	switch {
	case b[0] != 'M' || b[1] != 'K' || b[2] != 'B' || b[3] != 'I':
		return api.ErrMagic
	case b[4] != 1 || b[5] != 0:
		return api.ErrVersion
	case length > uint64(len(b)):
		return api.ErrTruncated
	case length < uint64(len(b)):
		return api.ErrTrailing
	case length > 1<<24:
		return api.ErrLimit
	case binary.LittleEndian.Uint32(b[12:]) != crc32.ChecksumIEEE(b[16:]):
		return api.ErrChecksum
	}
	return api.OK
}

// referenceZeros returns the first multiple of 64 from at on, and whether all bytes up to there are zero.
func referenceZeros(b []byte, at int) (int, bool) {
	for ; at%64 != 0; at++ {
		if at >= len(b) || b[at] != 0 {
			return 0, false
		}
	}
	return at, true
}

// referenceEntry returns the module of an entry and the end of its data, where the data before it end at the offset at.
func referenceEntry(b, e []byte, at int) (api.Module, int, bool) {
	little := binary.LittleEndian
	start, ok := referenceZeros(b, at)
	length := uint64(little.Uint32(e[36:]))
	if !ok || uint64(little.Uint32(e[32:])) != uint64(start) || uint64(start)+length > uint64(len(b)) {
		return api.Module{}, 0, false
	}
	name, rest, _ := bytes.Cut(e[:24], []byte{0})
	data := b[start : start+int(length)]
	if len(bytes.Trim(rest, "\x00")) != 0 || little.Uint16(e[26:]) != 0 || little.Uint32(e[44:]) != 0 || little.Uint32(e[40:]) != crc32.ChecksumIEEE(data) {
		return api.Module{}, 0, false
	}
	m := api.Module{Name: string(name), Kind: int(e[24]), Width: int(e[25]), Entry: int(little.Uint32(e[28:])), Data: data}
	return m, start + int(length), true
}
