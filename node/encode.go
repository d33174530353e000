package node

import (
	"slices"

	"multikernel/api"
	"multikernel/binenc"
	"multikernel/captype"
)

// Encode returns the bytes of a node.
func Encode(n api.Node) ([]byte, api.Errno) {
	if !Valid(n) {
		return nil, api.ErrInvalid
	}
	b := binenc.AppendUvarint(appendId(nil, n.Id), uint64(len(n.Path)))
	for _, id := range n.Path {
		b = appendId(b, id)
	}
	c, err := captype.Encode(n.Cap)
	return slices.Concat(b, c), err
}

// appendId returns the bytes of b followed by those of a valid Id.
func appendId(b []byte, id api.Id) []byte {
	for _, v := range [...]int{id.Core, id.Op, id.Part} {
		b = binenc.AppendUvarint(b, uint64(v))
	}
	return b
}

// Decode returns the node that b encodes.
func Decode(b []byte) (api.Node, api.Errno) {
	r := reader{b: b}
	n := api.Node{Id: r.id()}
	count := r.number()
	if count < 0 || count > api.MaxDepth {
		return api.Node{}, api.ErrFormat
	}
	for range count {
		n.Path = append(n.Path, r.id())
	}
	c, err := captype.Decode(b[r.next:])
	n.Cap = c
	if r.failed || err != api.OK || !Valid(n) {
		return api.Node{}, api.ErrFormat
	}
	return n, api.OK
}

// reader takes numbers from b, one after the other.
type reader struct {
	b      []byte
	next   int  // offset of the next number
	failed bool // whether a number was missing or not canonical; it and all later ones are taken as 0
}

func (r *reader) number() int {
	if r.failed {
		return 0
	}
	v, next, err := binenc.Uvarint(r.b, r.next)
	if err != api.OK {
		r.failed = true
		return 0
	}
	r.next = next
	// A number that is too great for an int turns negative, and no number of a node is negative.
	return int(v)
}

// id takes an Id, which need not be valid.
func (r *reader) id() api.Id {
	core, op, part := r.number(), r.number(), r.number()
	return api.Id{Core: core, Op: op, Part: part}
}
