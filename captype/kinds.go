package captype

import "multikernel/api"

// Sizes of the objects of those kinds that have a single one. That of a page table is a page.
const (
	endpointBits   = 6
	dispatcherBits = 10
	kernelBits     = 16
)

// permitsBits reports whether objects of the kind may have 1 << bits bytes. Of a number that is no kind it reports false.
func permitsBits(kind, bits int) bool {
	switch kind {
	case api.CapUntyped:
		return bits >= api.MinBits && bits <= api.AddrBits
	case api.CapFrame:
		return bits >= api.PageBits && bits <= api.AddrBits
	case api.CapTable:
		return bits == api.PageBits
	case api.CapEndpoint:
		return bits == endpointBits
	case api.CapDispatcher:
		return bits == dispatcherBits
	case api.CapKernel:
		return bits == kernelBits
	}
	return false
}

// permitsTable reports whether cores of the width have page tables of the level.
func permitsTable(width, level int) bool {
	switch width {
	case 32:
		return level >= 0 && level <= 1
	case 39:
		return level >= 0 && level <= 2
	}
	return false
}

// permitsDevice reports whether objects of the kind may lie in the memory of a device.
func permitsDevice(kind int) bool { return kind == api.CapUntyped || kind == api.CapFrame }
