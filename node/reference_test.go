package node_test

import (
	"bytes"
	"encoding/binary"
	"math/big"

	"multikernel/api"
	"multikernel/captype"
)

func referenceValidId(id api.Id) bool {
	return 0 <= id.Core && id.Core < 32 && 0 < id.Op && id.Op <= 1073741824 && id.Part == id.Part&7
}

// place is the number of an Id in the order of all Ids.
func place(id api.Id) *big.Int {
	sum := big.NewInt(int64(id.Core))
	for _, v := range []int{id.Op, id.Part} {
		sum.Lsh(sum, 65)
		sum.Add(sum, big.NewInt(int64(v)))
	}
	return sum
}

func referenceLess(a, b api.Id) bool { return place(a).Cmp(place(b)) < 0 }

func referenceValid(n api.Node) bool {
	all := map[api.Id]bool{n.Id: true}
	for _, id := range n.Path {
		all[id] = true
	}
	for id := range all {
		if !referenceValidId(id) {
			return false
		}
	}
	return captype.Valid(n.Cap) && len(n.Path) < 9 && len(all) == len(n.Path)+1
}

func referenceEqual(a, b api.Node) bool {
	if a.Id != b.Id || a.Cap != b.Cap || len(a.Path) != len(b.Path) {
		return false
	}
	for i := range a.Path {
		if a.Path[i] != b.Path[i] {
			return false
		}
	}
	return true
}

func referenceBelow(n api.Node, id api.Id) bool {
	all := map[api.Id]bool{}
	for _, p := range n.Path {
		all[p] = true
	}
	return all[id]
}

// referenceParent visits the ancestors from the first to the last one.
func referenceParent(n api.Node, live []api.Id) (parent api.Id, ok bool) {
	for _, p := range n.Path {
		for _, id := range live {
			if id == p {
				parent, ok = p, true
			}
		}
	}
	return parent, ok
}

func referenceChild(src api.Node, id api.Id, c api.Cap) (api.Node, api.Errno) {
	made := api.Node{Id: id, Cap: c}
	made.Path = append(made.Path, src.Path...)
	made.Path = append(made.Path, src.Id)
	if !referenceValid(src) || !referenceValid(api.Node{Id: id, Cap: c}) || referenceBelow(made, id) {
		return api.Node{}, api.ErrInvalid
	}
	if !referenceValid(made) {
		return api.Node{}, api.ErrDepth
	}
	return made, api.OK
}

func referenceEncode(n api.Node) []byte {
	numbers := []int{n.Id.Core, n.Id.Op, n.Id.Part, len(n.Path)}
	for _, id := range n.Path {
		numbers = append(numbers, id.Core, id.Op, id.Part)
	}
	return append(encodeNumbers(numbers), capCode(n.Cap)...)
}

func encodeNumbers(numbers []int) []byte {
	var b []byte
	for _, v := range numbers {
		b = binary.AppendUvarint(b, uint64(v))
	}
	return b
}

// referenceDecode takes as many numbers as there are, and then looks which valid node they could be.
func referenceDecode(b []byte) (api.Node, bool) {
	if len(b) < 10 {
		return api.Node{}, false
	}
	code := bytes.Clone(b[len(b)-10:])
	var numbers []int
	for rest := b[:len(b)-10]; len(rest) > 0; {
		v, used := binary.Uvarint(rest)
		if used <= 0 || v > 1<<31 {
			return api.Node{}, false
		}
		numbers, rest = append(numbers, int(v)), rest[used:]
	}
	if len(numbers) < 4 || len(numbers)%3 != 1 {
		return api.Node{}, false
	}
	n := api.Node{Id: id(numbers[0], numbers[1], numbers[2])}
	for at := 4; at < len(numbers); at += 3 {
		n.Path = append(n.Path, id(numbers[at], numbers[at+1], numbers[at+2]))
	}
	n.Cap, _ = captype.Decode(code)
	if !referenceValid(n) || !bytes.Equal(referenceEncode(n), b) {
		return api.Node{}, false
	}
	return n, true
}
