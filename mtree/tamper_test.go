package mtree_test

import (
	"bytes"
	"fmt"
	"maps"
	"math/rand/v2"
	"slices"
	"testing"

	"turnkey/api"
	"turnkey/oracle"
)

// checkTampered expects ErrCorrupt of all that needs a sector, and no change of it elsewhere.
func (p *planted) checkTampered(what string, at int) {
	p.t.Helper()
	for i := range p.blocks {
		p.checkTamperedBlock(what, at, i)
		p.checkTamperedBlock(what, at, i+1)
	}
	checkSectors(p.t, "P16.4: "+what, p.g, p.tree, nil, api.ErrCorrupt)
}

func (p *planted) checkTamperedBlock(what string, at, i int) {
	p.t.Helper()
	if p.isOnTheWay(at, i) {
		checkGet(p.t, "P16.5: "+what, p.g, p.tree, i, "", api.ErrCorrupt)
		return
	}
	checkGet(p.t, "P16.5: "+what, p.g, p.tree, i, p.blocks[i], api.OK)
}

// Each byte of each sector is changed.
func TestChangedBytes(t *testing.T) {
	p := grown(t, 3, 0, 20, 21, 300)
	for n, at := range p.last.sectors {
		for i := range 512 {
			p.d.sectors[at][i] ^= 1 << (i % 8)
			p.checkTampered(fmt.Sprintf("byte %d of the sector with index %d is changed", i, n), at)
			p.d.sectors[at][i] ^= 1 << (i % 8)
		}
	}
	p.stays("all changes")
}

// Each sector is replaced by each other one, and by whatever was in a sector before.
func TestReplacedSectors(t *testing.T) {
	p := grown(t, 0)
	old := [][]byte{make([]byte, 512)}
	for n, i := range []int{0, 20, 21, 300, 20, 0, 2744, 21} {
		p.put(i, block(n))
		for _, at := range p.last.sectors {
			old = append(old, bytes.Clone(p.d.sectors[at]))
		}
	}
	for n, at := range p.last.sectors {
		own := p.d.sectors[at]
		for m, b := range old {
			if !bytes.Equal(b, own) {
				p.d.sectors[at] = b
				p.checkTampered(fmt.Sprintf("the sector with index %d is replaced by what was there before, %d", n, m), at)
			}
		}
		p.d.sectors[at] = own
	}
	p.stays("all replacements")
}

// A sector is not there, or has another length.
func TestLengthsOfSectors(t *testing.T) {
	p := grown(t, 2, 0, 20, 21)
	for n, at := range p.last.sectors {
		own := p.d.sectors[at]
		long := append(bytes.Clone(own), make([]byte, 512)...)
		for _, size := range []int{0, 1, 36, 504, 510, 511, 513, 514, 1023, 1024} {
			p.d.sectors[at] = long[:size]
			p.checkTampered(fmt.Sprintf("the sector with index %d has %d bytes", n, size), at)
		}
		delete(p.d.sectors, at)
		p.checkTampered(fmt.Sprintf("the sector with index %d is not there", n), at)
		p.d.sectors[at] = own
	}
	p.stays("all lengths")
}

// Each pointer of a tree is taken for the root of a tree with each Deep.
func TestMovedPointers(t *testing.T) {
	p := grown(t, 3, 0, 13, 14, 20, 300, 2743)
	for s, to := range p.last.at {
		for deep := range 6 {
			if s == (spot{deep, 0}) {
				continue
			}
			what := fmt.Sprintf("P16.5: %v as a root with Deep %d", s, deep)
			tree := api.Tree{Root: to, Deep: deep}
			for _, i := range []int{0, s.first, 13} {
				want := api.ErrCorrupt
				if i >= rooms[deep] {
					want = api.OK
				}
				checkGet(t, what, p.g, tree, i, "", want)
			}
			checkSectors(t, what, p.g, tree, nil, api.ErrCorrupt)
		}
		if s.first == 0 {
			for i, b := range p.blocks {
				if s.has(i) {
					checkGet(t, "P16.2: a tree within a tree", p.g, api.Tree{Root: to, Deep: s.level}, i, b, api.OK)
				}
			}
		}
	}
}

// A root has another sector or another Mac.
func TestChangedRoots(t *testing.T) {
	p := grown(t, 2, 0, 20)
	for bit := range 8 * 32 {
		tree := p.tree
		tree.Root.Mac[bit/8] ^= 1 << (bit % 8)
		checkGet(t, "P16.5: with a changed Mac", p.g, tree, 20, "", api.ErrCorrupt)
		checkSectors(t, "P16.5: with a changed Mac", p.g, tree, nil, api.ErrCorrupt)
		p.refused("P16.5: Put with a changed Mac", api.ErrCorrupt, func() (api.Tree, api.Errno) { return p.g.Put(tree, 20, block(3)) })
		p.refused("P16.5: Cut with a changed Mac", api.ErrCorrupt, func() (api.Tree, api.Errno) { return p.g.Cut(tree, 20) })
	}
	for _, at := range []int{-1, -p.tree.Root.Sector, p.tree.Root.Sector + 1, p.tree.Root.Sector - 1, p.tree.Root.Sector + 1<<32, 1 << 62, -1 << 63} {
		tree := p.tree
		tree.Root.Sector = at
		checkGet(t, "P16.5: with another sector", p.g, tree, 20, "", api.ErrCorrupt)
		checkSectors(t, "P16.5: with another sector", p.g, tree, nil, api.ErrCorrupt)
	}
}

// Groves with other keys and names take nothing from each other, but those with the same ones do.
func TestGrovesAreApart(t *testing.T) {
	long := bytes.Repeat([]byte{7}, 256)
	names := [][]byte{nil, {0}, {0, 0}, {0, 0, 0}, {1}, []byte("a"), []byte("b"), []byte("ab"), []byte("ba"), long[:255], long, append(long[:255:255], 8)}
	keys := [][]byte{nil, []byte("key"), []byte("kez"), []byte("key "), long}
	d := newDisk(1)
	type grove struct {
		p         *planted
		key, name int
	}
	var all []grove
	for k, key := range keys {
		for n, name := range names {
			p := d.add(&planted{t: t, d: d, g: newGrove(t, d, oracle.Real(), key, name), mac: realMacs(key, name), blocks: map[int]string{}})
			p.put(0, block(1))
			p.put(20, block(2))
			all = append(all, grove{p, k, n})
		}
	}
	for _, one := range all {
		for _, two := range all {
			want, wantErr := "", api.ErrCorrupt
			if one.key == two.key && one.name == two.name {
				want, wantErr = string(block(2)), api.OK
			}
			what := fmt.Sprintf("P16.5: a tree with the key %d and the name %d in a grove with %d and %d", one.key, one.name, two.key, two.name)
			checkGet(t, what, two.p.g, one.p.tree, 20, want, wantErr)
		}
		same := newGrove(t, d, oracle.Real(), keys[one.key], names[one.name])
		checkGet(t, "P16.2: in a second grove with the same key and name", same, one.p.tree, 20, string(block(2)), api.OK)
	}
}

// Sectors with right Macs that have no pointers: one that points to nothing has a Mac.
func TestSectorsThatAreNoPointers(t *testing.T) {
	for i := range 14 {
		p := newDisk(1).plant(t, "name")
		b := make([]byte, 512)
		copy(b[36*((i+1)%14):], []byte{0, 0, 0, 77})
		b[36*i+35] = 1
		tree := api.Tree{Root: p.d.forge(p.mac, spot{1, 0}, b), Deep: 1}
		checkGet(t, "P16.2: of no pointers", p.g, tree, i, "", api.ErrCorrupt)
		checkSectors(t, "P16.4: of no pointers", p.g, tree, nil, api.ErrCorrupt)
		p.refused("P16.4: Cut of no pointers", api.ErrCorrupt, func() (api.Tree, api.Errno) { return p.g.Cut(tree, 0) })
	}
}

// Whatever is done to the sectors, a change and each Get have the model's result, or ErrCorrupt and no effect.
func TestRandomTampering(t *testing.T) {
	r := source()
	results := map[api.Errno]int{}
	for range 300 {
		p := grown(t, 0, 0, 3, 20, 21, 300, 2744)
		var old []string
		for range 8 {
			for _, at := range slices.Sorted(maps.Keys(p.d.sectors)) {
				old = append(old, string(p.d.sectors[at]))
			}
			if len(p.d.sectors) > 0 {
				p.tamper(r, old)
			}
			cut := rooms[5]
			if r.IntN(4) == 0 {
				cut = randomBlock(r)
			}
			results[p.changedOrCorrupt(cut, randomTurns(r))]++
		}
	}
	if len(results) != 2 || results[api.OK] < 100 || results[api.ErrCorrupt] < 100 {
		t.Errorf("P16.5: the changes have the results %v", results)
	}
}

// tamper replaces a sector by an old one, or by itself with a changed bit.
func (p *planted) tamper(r *rand.Rand, old []string) {
	ats := slices.Sorted(maps.Keys(p.d.sectors))
	at := ats[r.IntN(len(ats))]
	b := bytes.Clone(p.d.sectors[at])
	if r.IntN(2) == 0 {
		b = []byte(old[r.IntN(len(old))])
	} else {
		b[r.IntN(512)] ^= 1 << r.IntN(8)
	}
	p.d.sectors[at] = b
}

// changedOrCorrupt makes a Turn, of a tree some of whose sectors are not what they were, and returns its error.
func (p *planted) changedOrCorrupt(cut int, xs []api.Turn) api.Errno {
	p.t.Helper()
	before := p.d.image()
	tree, err := p.g.Turn(p.tree, cut, xs...)
	switch {
	case err == api.OK:
		p.tree = tree
		p.model(cut, xs)
	case err != api.ErrCorrupt || tree != (api.Tree{}) || !maps.Equal(p.d.image(), before):
		p.t.Fatalf("P16.5: a Turn of a tree that was tampered with = %v, %d", tree, err)
	}
	for _, i := range p.asked() {
		if b, err := p.g.Get(p.tree, i); err != api.ErrCorrupt && (err != api.OK || string(b) != p.blocks[i]) {
			p.t.Fatalf("P16.5: Get(%d) of a tree that was tampered with = %.16x, %d", i, b, err)
		}
	}
	return err
}
