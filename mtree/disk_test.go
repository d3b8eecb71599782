package mtree_test

import (
	"bytes"
	"crypto/hmac"
	"crypto/sha512"
	"encoding/binary"
	"maps"
	"math/rand/v2"
	"slices"
	"testing"

	"turnkey/api"
	"turnkey/mtree"
	"turnkey/oracle"
)

// Calls of a store.
const (
	load = "Load"
	save = "Save"
	drop = "Drop"
)

type call struct {
	what string
	at   int
}

// disk is a store that notes its calls. It keeps what it is given, and returns what it keeps: neither is a copy.
type disk struct {
	sectors map[int][]byte
	next    int // the number of the next sector
	calls   []call
	trees   []*planted // all that it has
	// These answer in place of the disk, if they are not nil and return true.
	onLoad func(at int) ([]byte, api.Errno, bool)
	onSave func(b []byte) (int, api.Errno, bool)
	onDrop func(at int) (api.Errno, bool)
}

func newDisk(first int) *disk { return &disk{sectors: map[int][]byte{}, next: first} }

func (d *disk) Load(at int) ([]byte, api.Errno) {
	d.calls = append(d.calls, call{load, at})
	if d.onLoad != nil {
		if b, err, ok := d.onLoad(at); ok {
			return b, err
		}
	}
	b, ok := d.sectors[at]
	if !ok {
		return nil, api.ErrArg
	}
	return b, api.OK
}

func (d *disk) Save(b []byte) (int, api.Errno) {
	if d.onSave != nil {
		if at, err, ok := d.onSave(b); ok {
			d.calls = append(d.calls, call{save, at})
			return at, err
		}
	}
	at := d.next
	d.next++
	d.calls = append(d.calls, call{save, at})
	d.sectors[at] = b
	return at, api.OK
}

func (d *disk) Drop(at int) api.Errno {
	d.calls = append(d.calls, call{drop, at})
	if d.onDrop != nil {
		if err, ok := d.onDrop(at); ok {
			return err
		}
	}
	if _, ok := d.sectors[at]; !ok {
		return api.ErrArg
	}
	delete(d.sectors, at)
	return api.OK
}

// of are the sectors of the calls of one kind, in order.
func (d *disk) of(what string) []int {
	var out []int
	for _, c := range d.calls {
		if c.what == what {
			out = append(out, c.at)
		}
	}
	return out
}

// image is a copy of all sectors.
func (d *disk) image() map[int]string {
	out := map[int]string{}
	for at, b := range d.sectors {
		out[at] = string(b)
	}
	return out
}

// macs computes the Mac of a sector.
type macs func(level, first int, b []byte) [32]byte

// realMacs are those of a grove with a real oracle, by the standard library.
func realMacs(key, name []byte) macs {
	return func(level, first int, b []byte) [32]byte {
		h := hmac.New(sha512.New, key)
		h.Write(macText(name, level, first, b))
		return [32]byte(h.Sum(nil)[:32])
	}
}

// idealMacs are those of a grove with that oracle. A question that was asked before changes nothing.
func idealMacs(o *oracle.Oracle, key, name []byte) macs {
	return func(level, first int, b []byte) [32]byte { return o.Tag(key, macText(name, level, first, b)) }
}

func macText(name []byte, level, first int, b []byte) []byte {
	text := binary.BigEndian.AppendUint16(nil, uint16(len(name)))
	text = append(text, name...)
	text = append(text, byte(level))
	text = binary.BigEndian.AppendUint64(text, uint64(first))
	return append(text, b...)
}

// spot is a place in a tree.
type spot struct{ level, first int }

// has reports whether a block is below it.
func (s spot) has(i int) bool { return i >= s.first && i < s.first+rooms[s.level] }

// rooms are the numbers of blocks below the levels.
var rooms = []int{1, 14, 196, 2744, 38416, 537824}

// reading is a tree as a disk has it.
type reading struct {
	blocks  map[int]string
	sectors []int // those of pointers before what is below them
	at      map[spot]api.Ptr
}

// read reads a tree by the words of the chapter, without package mtree.
func (d *disk) read(t *testing.T, mac macs, tree api.Tree) reading {
	t.Helper()
	r := reading{map[int]string{}, nil, map[spot]api.Ptr{}}
	d.readAt(t, mac, tree.Root, spot{tree.Deep, 0}, r.blocks, &r.sectors, r.at)
	return r
}

func (d *disk) readAt(t *testing.T, mac macs, p api.Ptr, s spot, blocks map[int]string, sectors *[]int, at map[spot]api.Ptr) {
	t.Helper()
	if p.Sector == 0 {
		if p.Mac != [32]byte{} {
			t.Fatalf("P16.1: at %v a pointer to nothing has a Mac", s)
		}
		return
	}
	b := d.sectors[p.Sector]
	if len(b) != 512 || mac(s.level, s.first, b) != p.Mac {
		t.Fatalf("P16.3: at %v sector %d has %d bytes, and the Mac is wrong", s, p.Sector, len(b))
	}
	*sectors = append(*sectors, p.Sector)
	at[s] = p
	if s.level == 0 {
		blocks[s.first] = string(b)
		return
	}
	if !bytes.Equal(b[14*36:], make([]byte, 8)) || bytes.Equal(b, make([]byte, 512)) {
		t.Fatalf("P16.3: at %v sector %d has no zeros at its end, or only zeros", s, p.Sector)
	}
	for i := range 14 {
		to := api.Ptr{Sector: int(binary.BigEndian.Uint32(b[36*i:])), Mac: [32]byte(b[36*i+4:])}
		d.readAt(t, mac, to, spot{s.level - 1, s.first + i*rooms[s.level-1]}, blocks, sectors, at)
	}
}

// build makes a tree by the words of the chapter, without package mtree.
func (d *disk) build(mac macs, deep int, blocks map[int]string) api.Tree {
	return api.Tree{Root: d.buildAt(mac, spot{deep, 0}, blocks), Deep: deep}
}

func (d *disk) buildAt(mac macs, s spot, blocks map[int]string) api.Ptr {
	below := maps.Clone(blocks)
	maps.DeleteFunc(below, func(i int, _ string) bool { return !s.has(i) })
	if len(below) == 0 {
		return api.Ptr{}
	}
	b := []byte(below[s.first])
	if s.level > 0 {
		b = nil
		for i := range 14 {
			p := d.buildAt(mac, spot{s.level - 1, s.first + i*rooms[s.level-1]}, below)
			b = binary.BigEndian.AppendUint32(b, uint32(p.Sector))
			b = append(b, p.Mac[:]...)
		}
		b = append(b, make([]byte, 8)...)
	}
	return d.forge(mac, s, b)
}

// forge saves a sector with a right Mac, whatever it has.
func (d *disk) forge(mac macs, s spot, b []byte) api.Ptr {
	at, _ := d.Save(b)
	return api.Ptr{Sector: at, Mac: mac(s.level, s.first, b)}
}

// block is one that differs from those of other numbers.
func block(n int) []byte {
	var b []byte
	for len(b) < 512 {
		b = binary.BigEndian.AppendUint64(b, uint64(n)<<8+uint64(len(b)/8))
	}
	return b
}

// source has a fixed seed: each run of the tests tries the same inputs.
func source() *rand.Rand { return rand.New(rand.NewPCG(1, 2)) }

// spoil changes all of a slice, and what its capacity has behind it.
func spoil(b []byte) {
	b = b[:cap(b)]
	for i := range b {
		b[i] ^= 0xff
	}
}

// argument is a piece of a larger slice, so that a write before it or into its spare capacity is seen.
type argument struct{ whole, before []byte }

const margin = 600

func newArgument(b []byte) argument {
	whole := slices.Concat(bytes.Repeat([]byte{'<'}, margin), b, bytes.Repeat([]byte{'>'}, margin))
	return argument{whole, bytes.Clone(whole)}
}

func (a argument) bytes() []byte { return a.whole[margin : len(a.whole)-margin] }

func (a argument) unchanged() bool { return bytes.Equal(a.whole, a.before) }

func newGrove(t *testing.T, s mtree.Store, o *oracle.Oracle, key, name []byte) *mtree.Grove {
	t.Helper()
	g, err := mtree.New(s, o, key, name)
	if g == nil || err != api.OK {
		t.Fatalf("P16.1: New with a key of %d and a name of %d bytes = %v, %d", len(key), len(name), g, err)
	}
	return g
}

func checkErr(t *testing.T, what string, got, want api.Errno) {
	t.Helper()
	if got != want {
		t.Errorf("%s = %d, want %d", what, got, want)
	}
}

// checkNoTree expects an error, and nothing beside it.
func checkNoTree(t *testing.T, what string, got api.Tree, err, want api.Errno) {
	t.Helper()
	if got != (api.Tree{}) || err != want {
		t.Errorf("%s = %v, %d, want the zero tree, %d", what, got, err, want)
	}
}

// checkGet expects a block, or none for an empty one, or an error and none.
func checkGet(t *testing.T, what string, g *mtree.Grove, tree api.Tree, i int, want string, wantErr api.Errno) {
	t.Helper()
	got, err := g.Get(tree, i)
	if err != wantErr || string(got) != want {
		t.Fatalf("%s: Get(%d) = %.16x (%d bytes), %d, want %.16x (%d bytes), %d", what, i, got, len(got), err, want, len(want), wantErr)
	}
	spoil(got)
}

// checkSectors expects these sectors, or an error and none.
func checkSectors(t *testing.T, what string, g *mtree.Grove, tree api.Tree, want []int, wantErr api.Errno) {
	t.Helper()
	got, err := g.Sectors(tree)
	if err != wantErr || !slices.Equal(got, want) {
		t.Fatalf("%s: Sectors = %v, %d, want %v, %d", what, got, err, want, wantErr)
	}
	for i := range got {
		got[i] = -1
	}
}

// edges are numbers of blocks around those where a tree gets deeper.
func edges() []int {
	out := []int{0}
	for _, n := range rooms {
		out = append(out, n-1, n, n+1)
	}
	slices.Sort(out)
	return slices.Compact(out)
}
