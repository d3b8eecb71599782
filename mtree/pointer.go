package mtree

import (
	"turnkey/api"
	"turnkey/octets"
)

const (
	numberSize = 4 // bytes of a sector's number
	macSize    = 32
	ptrSize    = numberSize + macSize
	maxSector  = 1<<(8*numberSize) - 1
)

// Room returns how many blocks a tree with that Deep can have.
func Room(deep int) int {
	if !isDeep(deep) {
		return 0
	}
	room := 1
	for range deep {
		room *= api.Fan
	}
	return room
}

// isDeep reports whether a tree can have that Deep.
func isDeep(deep int) bool { return deep >= 0 && deep <= api.MaxDeep }

// Pack returns the encoding of a pointer.
func Pack(p api.Ptr) []byte { return append(octets.Lay(p.Sector, numberSize), p.Mac[:]...) }

// Unpack returns the pointer of which b is the encoding; false if there is none.
func Unpack(b []byte) (api.Ptr, bool) {
	if len(b) != ptrSize {
		return api.Ptr{}, false
	}
	p := api.Ptr{Sector: octets.Number(b[:numberSize]...), Mac: [macSize]byte(b[numberSize:])}
	if p.Sector == 0 && p.Mac != [macSize]byte{} {
		return api.Ptr{}, false
	}
	return p, true
}

// pointers are those of a sector, in order.
type pointers [api.Fan]api.Ptr

// pack returns the bytes of a sector of pointers.
func (ps pointers) pack() []byte {
	var b []byte
	for _, p := range ps {
		b = append(b, Pack(p)...)
	}
	return octets.Fill(b, api.Sector)
}

// unpackAll returns the pointers of a sector's bytes; false if one of them is none.
func unpackAll(b []byte) (pointers, bool) {
	var ps pointers
	for i := range ps {
		p, ok := Unpack(b[i*ptrSize : (i+1)*ptrSize])
		if !ok {
			return pointers{}, false
		}
		ps[i] = p
	}
	return ps, true
}

// place is a pointer at its place in a tree.
type place struct {
	api.Ptr
	level int // of what it points to: 0 is a block
	first int // the number of the first block below it
}

// top returns the place of a tree's root.
func top(t api.Tree) place {
	if t.Root.Sector == 0 {
		return place{level: t.Deep}
	}
	return place{t.Root, t.Deep, 0}
}

// end returns the number behind that of the last block below p.
func (p place) end() int { return p.first + Room(p.level) }

// child returns the place of that pointer, the one with index i of those of the sector of p.
func (p place) child(i int, to api.Ptr) place {
	return place{to, p.level - 1, p.first + i*Room(p.level-1)}
}

// toward returns the place, below p, of the one of its pointers that leads to a block.
func (p place) toward(block int, ps pointers) place {
	i := (block - p.first) / Room(p.level-1)
	return p.child(i, ps[i])
}
