package mtree_test

import (
	"bytes"
	"fmt"
	"maps"
	"slices"
	"testing"

	"turnkey/api"
	"turnkey/mtree"
	"turnkey/oracle"
)

// planted is a grove with one tree, and the model of the tree: its Deep, and its blocks.
type planted struct {
	t      *testing.T
	d      *disk
	g      *mtree.Grove
	mac    macs
	tree   api.Tree
	deep   int
	blocks map[int]string
	last   reading
}

// plant makes an empty tree on a disk.
func (d *disk) plant(t *testing.T, name string) *planted {
	t.Helper()
	key := []byte("key")
	g := newGrove(t, d, oracle.Real(), key, []byte(name))
	return d.add(&planted{t: t, d: d, g: g, mac: realMacs(key, []byte(name)), blocks: map[int]string{}})
}

// plantIdeal makes one with an ideal oracle.
func (d *disk) plantIdeal(t *testing.T, o *oracle.Oracle, name string) *planted {
	t.Helper()
	key := []byte("key")
	g := newGrove(t, d, o, key, []byte(name))
	return d.add(&planted{t: t, d: d, g: g, mac: idealMacs(o, key, []byte(name)), blocks: map[int]string{}})
}

func (d *disk) add(p *planted) *planted {
	d.trees = append(d.trees, p)
	return p
}

// copy is the same tree on a disk of its own, which has all sectors of the other one.
func (p *planted) copy() *planted {
	p.t.Helper()
	d := newDisk(p.d.next)
	for at, b := range p.d.sectors {
		d.sectors[at] = bytes.Clone(b)
	}
	q := *p
	q.d, q.blocks = d, maps.Clone(p.blocks)
	q.g = newGrove(p.t, d, oracle.Real(), []byte("key"), []byte("name"))
	q.mac = realMacs([]byte("key"), []byte("name"))
	d.add(&q)
	return &q
}

// grown is a tree, Deep deep at least, with these blocks.
func grown(t *testing.T, deep int, is ...int) *planted {
	t.Helper()
	p := newDisk(1).plant(t, "name")
	for n, i := range is {
		p.blocks[i] = string(block(n + 1))
		for i >= rooms[deep] {
			deep++
		}
	}
	p.deep = deep
	p.tree = p.d.build(p.mac, deep, p.blocks)
	p.last = p.d.read(t, p.mac, p.tree)
	return p
}

func (p *planted) put(i int, b []byte) {
	p.t.Helper()
	what := fmt.Sprintf("P16.3: Put(%d)", i)
	a := newArgument(b)
	p.changed(what, rooms[5], []api.Turn{{I: i, B: b}}, func() (api.Tree, api.Errno) { return p.g.Put(p.tree, i, a.bytes()) })
	if !a.unchanged() {
		p.t.Fatalf("P16.5: %s changes its argument", what)
	}
	// The disk would have this, if a block were not copied.
	spoil(a.whole)
	p.stays(what + " when its argument was changed")
}

func (p *planted) cut(n int) {
	p.t.Helper()
	p.changed(fmt.Sprintf("P16.4: Cut(%d)", n), n, nil, func() (api.Tree, api.Errno) { return p.g.Cut(p.tree, n) })
}

func (p *planted) turn(cut int, xs ...api.Turn) {
	p.t.Helper()
	what := "P16.4: " + turnText(cut, xs)
	given, whole := turnsArgument(xs)
	p.changed(what, cut, xs, func() (api.Tree, api.Errno) { return p.g.Turn(p.tree, cut, given...) })
	if !sameTurns(whole, slices.Concat(spareTurns(), xs, spareTurns())) {
		p.t.Fatalf("P16.5: %s changes its arguments", what)
	}
	for _, x := range whole {
		spoil(x.B)
	}
	p.stays(what + " when its arguments were changed")
}

func turnText(cut int, xs []api.Turn) string {
	text := fmt.Sprintf("Turn(%d", cut)
	for _, x := range xs {
		text += fmt.Sprintf(", %d: %.8x", x.I, x.B)
	}
	return text + ")"
}

// turnsArgument returns a copy of xs within a larger slice, and that slice.
func turnsArgument(xs []api.Turn) (given, whole []api.Turn) {
	whole = slices.Concat(spareTurns(), xs, spareTurns())
	for i := range whole {
		whole[i].B = bytes.Clone(whole[i].B)
	}
	n := len(spareTurns())
	return whole[n : n+len(xs)], whole
}

// spareTurns stand around those that are given.
func spareTurns() []api.Turn { return []api.Turn{{I: 7, B: block(7)}, {I: 3}, {I: 7}} }

func sameTurns(a, b []api.Turn) bool {
	return slices.EqualFunc(a, b, func(x, y api.Turn) bool { return x.I == y.I && bytes.Equal(x.B, y.B) })
}

// touched are the blocks that a change puts or removes.
func (p *planted) touched(cut int, xs []api.Turn) []int {
	var out []int
	for i := range p.blocks {
		if i >= cut {
			out = append(out, i)
		}
	}
	last := map[int][]byte{}
	for _, x := range xs {
		last[x.I] = x.B
	}
	for i, b := range last {
		if _, was := p.blocks[i]; was || len(b) > 0 {
			out = append(out, i)
		}
	}
	return out
}

// model does in the model what a Turn does.
func (p *planted) model(cut int, xs []api.Turn) {
	maps.DeleteFunc(p.blocks, func(i int, _ string) bool { return i >= cut })
	for _, x := range xs {
		if len(x.B) == 0 {
			delete(p.blocks, x.I)
			continue
		}
		for x.I >= rooms[p.deep] {
			p.deep++
		}
		p.blocks[x.I] = string(x.B)
	}
}

// changed makes a call that is to do what Turn does with that cut and these elements.
func (p *planted) changed(what string, cut int, xs []api.Turn, call func() (api.Tree, api.Errno)) {
	p.t.Helper()
	before, touched := p.last, p.touched(cut, xs)
	p.model(cut, xs)
	p.d.calls = nil
	tree, err := call()
	if err != api.OK || tree.Deep != p.deep {
		p.t.Fatalf("%s = %v, %d, want Deep %d", what, tree, err, p.deep)
	}
	p.tree = tree
	p.stays(what)
	p.checkPlaces(what, before, touched)
	p.checkCalls(what, before)
	p.checkGets(what)
}

// stays holds what the disk has against the model.
func (p *planted) stays(after string) {
	p.t.Helper()
	p.last = p.d.read(p.t, p.mac, p.tree)
	if !maps.Equal(p.last.blocks, p.blocks) {
		p.t.Fatalf("P16.5: after %s the blocks %v are there, want %v", after, keys(p.last.blocks), keys(p.blocks))
	}
	all := 0
	for _, q := range p.d.trees {
		all += len(q.last.sectors)
	}
	if len(p.d.sectors) != all {
		p.t.Fatalf("P16.3: after %s there are %d sectors, want %d", after, len(p.d.sectors), all)
	}
}

func keys(m map[int]string) []int { return slices.Sorted(maps.Keys(m)) }

// checkPlaces expects new sectors where something was put or removed below, and where nothing was before; otherwise the old ones.
func (p *planted) checkPlaces(what string, before reading, touched []int) {
	p.t.Helper()
	saved := p.d.of(save)
	for s, now := range p.last.at {
		was, there := before.at[s]
		same := there && !slices.ContainsFunc(touched, s.has)
		if same && now != was || !same && !slices.Contains(saved, now.Sector) {
			p.t.Fatalf("%s: at %v there is %v, and was %v; saved are %v", what, s, now, was, saved)
		}
	}
}

// checkCalls expects that each new sector is saved once, after those below it, and then each old one that is left is dropped once.
func (p *planted) checkCalls(what string, before reading) {
	p.t.Helper()
	isOld := func(at int) bool { return slices.Contains(before.sectors, at) }
	isNew := func(at int) bool { return slices.Contains(p.last.sectors, at) }
	saved, dropped := p.d.of(save), p.d.of(drop)
	if got, want := sorted(saved), sorted(slices.DeleteFunc(slices.Clone(p.last.sectors), isOld)); !slices.Equal(got, want) {
		p.t.Fatalf("%s saves %v, want %v", what, got, want)
	}
	if got, want := sorted(dropped), sorted(slices.DeleteFunc(slices.Clone(before.sectors), isNew)); !slices.Equal(got, want) {
		p.t.Fatalf("%s drops %v, want %v", what, got, want)
	}
	if n := len(p.d.calls); !slices.Equal(p.d.calls[n-len(dropped):], calls(drop, dropped)) {
		p.t.Fatalf("%s drops before the last sector is saved", what)
	}
	for s, one := range p.last.at {
		for u, other := range p.last.at {
			if i := slices.Index(saved, one.Sector); i >= 0 && s.level > u.level && s.has(u.first) && i < slices.Index(saved, other.Sector) {
				p.t.Fatalf("%s: %v is saved before %v below it", what, s, u)
			}
		}
	}
}

func sorted(list []int) []int { return slices.Sorted(slices.Values(list)) }

func calls(what string, at []int) []call {
	var out []call
	for _, x := range at {
		out = append(out, call{what, x})
	}
	return out
}

// checkGets asks for blocks that are there, and for some that are not.
func (p *planted) checkGets(after string) {
	p.t.Helper()
	for _, i := range p.asked() {
		checkGet(p.t, "P16.2: after "+after, p.g, p.tree, i, p.blocks[i], api.OK)
	}
	checkSectors(p.t, "P16.4: after "+after, p.g, p.tree, p.last.sectors, api.OK)
}

// asked are all blocks that are there, their neighbours, and those at the edges.
func (p *planted) asked() []int {
	is := append(edges(), 1<<31, 1<<32, 1<<32+1, 1<<60, 1<<63-1)
	for i := range p.blocks {
		is = append(is, i-14, i-1, i, i+1, i+14, i+1<<16, i+1<<32)
	}
	is = slices.DeleteFunc(is, func(i int) bool { return i < 0 })
	slices.Sort(is)
	return slices.Compact(is)
}
