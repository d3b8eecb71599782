package mtree_test

import (
	"fmt"
	"maps"
	"math"
	"math/rand/v2"
	"slices"
	"testing"

	"turnkey/api"
	"turnkey/mtree"
	"turnkey/oracle"
)

func TestExample(t *testing.T) {
	d := newDisk(1)
	g := newGrove(t, d, oracle.Real(), []byte("key"), []byte("name"))
	tree, err := g.Put(api.Tree{}, 20, block(1))
	if err != api.OK || tree.Deep != 2 {
		t.Fatalf("P16.3: Put(20) = %v, %d", tree, err)
	}
	checkGet(t, "P16.2: the example", g, tree, 20, string(block(1)), api.OK)
	checkGet(t, "P16.2: the example", g, tree, 3, "", api.OK)
}

// Each tree of one block gets a second one.
func TestPutAtEdges(t *testing.T) {
	for _, first := range edges() {
		for _, second := range edges() {
			if max(first, second) < rooms[5] {
				p := newDisk(1).plant(t, "name")
				p.put(first, block(1))
				p.put(second, block(2))
				p.put(first, block(3))
			}
		}
	}
}

// The trees are the least ones, and deeper ones than that.
func TestPutInDeepTrees(t *testing.T) {
	for deep := range 6 {
		for _, i := range edges() {
			if i < rooms[5] {
				p := grown(t, deep)
				p.put(i, block(1))
				p = grown(t, deep, 0)
				p.put(i, block(2))
			}
		}
	}
}

// A block of zeros is not missing, and the same block at two places is at two sectors.
func TestBlocksOfZeros(t *testing.T) {
	p := newDisk(1).plant(t, "name")
	zeros := make([]byte, 512)
	for _, i := range []int{0, 1, 14, 1, 2744, 0} {
		p.put(i, zeros)
	}
	p.turn(14, api.Turn{I: 5, B: zeros}, api.Turn{I: 200, B: zeros})
	p.cut(200)
}

// The numbers of sectors have up to four bytes.
func TestNumbersOfSectors(t *testing.T) {
	for _, first := range []int{1, 2, 250, 65530, 1<<24 - 5, 1<<31 - 5, 1<<32 - 8, 0x01020304, 0xf1e2d3c4} {
		p := newDisk(first).plant(t, "name")
		p.put(0, block(1))
		p.put(14, block(2))
		p.put(15, block(3))
	}
}

// No pointer can point to these: the change is refused, and what was saved is dropped.
func TestNumbersThatAreNone(t *testing.T) {
	for _, at := range []int{0, -1, -1 << 31, -1 << 32, 1 - 1<<32, 1 << 32, 1<<32 + 1, 1<<40 + 5, math.MinInt, math.MaxInt} {
		for n := range 3 {
			p := grown(t, 2, 0, 1, 14)
			p.d.onSave = func(b []byte) (int, api.Errno, bool) {
				return at, api.OK, len(p.d.of(save)) == n
			}
			p.refused(fmt.Sprintf("P16.3: Put when the store saves in %d", at), api.ErrCorrupt, func() (api.Tree, api.Errno) {
				return p.g.Put(p.tree, 14, block(9))
			})
			if got := p.d.of(drop); len(got) != n+1 || !slices.Contains(got, at) {
				t.Errorf("P16.3: after a store saved in %d, %v are dropped", at, got)
			}
		}
	}
}

// refused expects that a call returns an error, and that all is as before.
func (p *planted) refused(what string, want api.Errno, call func() (api.Tree, api.Errno)) {
	p.t.Helper()
	before := p.d.image()
	p.d.calls = nil
	tree, err := call()
	p.d.onLoad, p.d.onSave = nil, nil
	checkNoTree(p.t, what, tree, err, want)
	if !maps.Equal(p.d.image(), before) {
		p.t.Fatalf("%s changes the sectors", what)
	}
	saved := p.d.of(save)
	for _, at := range p.d.of(drop) {
		if !slices.Contains(saved, at) {
			p.t.Fatalf("%s drops sector %d, which it did not save", what, at)
		}
	}
}

// A cut at each number, of trees that have many blocks and few.
func TestCuts(t *testing.T) {
	for deep := range 6 {
		for _, is := range [][]int{nil, {0}, {5}, {0, 5, 13}, {13, 14}, {0, 195, 196}, {20, 21, 300, 2743, 2744, 2745}, {0, 38415, 38416, 500000, 537823}} {
			for _, n := range cutsOf(is) {
				grown(t, deep, is...).cut(n)
			}
		}
	}
}

// cutsOf are numbers to cut at, around blocks and edges.
func cutsOf(is []int) []int {
	ns := append(edges(), 7, 28, 29, 392, 1<<20, 1<<32, 1<<32+5, math.MaxInt-1, math.MaxInt)
	for _, i := range is {
		ns = append(ns, i-1, i, i+1)
	}
	ns = slices.DeleteFunc(ns, func(n int) bool { return n < 0 })
	slices.Sort(ns)
	return slices.Compact(ns)
}

// What a Cut left is cut again, and put into.
func TestCutsInTurns(t *testing.T) {
	p := grown(t, 4, 0, 3, 13, 14, 100, 195, 196, 300, 2743, 2744, 5000)
	for _, n := range []int{6000, 2745, 2744, 2744, 300, 197, 196, 101, 14, 4} {
		p.cut(n)
		p.put(n, block(n))
		p.cut(n)
	}
	p.cut(0)
	p.put(5, block(5))
}

// Turns in which the order of the elements counts, or does not.
func TestTurns(t *testing.T) {
	x := func(i, n int) api.Turn { return api.Turn{I: i, B: block(n)} }
	no := func(i int) api.Turn { return api.Turn{I: i} }
	none := func(i int) api.Turn { return api.Turn{I: i, B: []byte{}} }
	lists := [][]api.Turn{
		nil,
		{no(3)}, {none(3)}, {x(3, 9)}, {x(3, 9), x(3, 8)}, {x(3, 8), x(3, 9)}, {x(3, 9), no(3)}, {no(3), x(3, 9)}, {no(3), no(3)},
		{x(3, 9), x(3, 8), no(3)}, {x(3, 9), none(3), x(3, 7)}, {no(3), x(3, 9), no(3)}, {x(4, 9), no(4)}, {no(4), x(4, 9)},
		{x(20, 9), x(3, 8), x(0, 7)}, {x(0, 9), x(3, 8), x(20, 7)}, {x(3, 8), x(20, 9), x(3, 7), x(20, 6)}, {no(0), no(3), no(20)},
		{no(20), no(3), no(0)}, {x(20, 9), no(3), no(0)}, {no(537823)}, {no(537823), x(14, 3)}, {x(14, 3), no(537823)},
		{x(537823, 4), no(537823)}, {x(200, 4), no(200), x(20, 7)}, {x(20, 7), x(200, 4), no(200)}, {no(200), x(200, 4)},
		{x(3, 9), no(20), x(537823, 8), x(196, 5), no(2744), x(2743, 2), no(0)}, {x(14, 3), x(13, 2), x(14, 5), no(13), x(0, 1)},
	}
	for _, is := range [][]int{nil, {0}, {3}, {0, 3}, {3, 20}, {0, 3, 20, 300}, {20, 21}} {
		for _, deep := range []int{0, 2, 5} {
			for _, cut := range []int{0, 3, 4, 20, 21, 1000, rooms[5], math.MaxInt} {
				for _, xs := range lists {
					grown(t, deep, is...).turn(cut, xs...)
				}
			}
		}
	}
}

// The Deep is one by which all that is put has room; what is removed or cut counts for nothing.
func TestDeepOfTurns(t *testing.T) {
	g := newGrove(t, newDisk(1), oracle.Real(), nil, nil)
	for deep := range 6 {
		for _, i := range edges() {
			if i >= rooms[5] {
				continue
			}
			for _, xs := range [][]api.Turn{{{I: i}}, {{I: i}, {I: i, B: []byte{}}}} {
				if tree, err := g.Turn(api.Tree{Deep: deep}, 0, xs...); err != api.OK || tree != (api.Tree{Deep: deep}) {
					t.Errorf("P16.4: removing %d from a tree with Deep %d = %v, %d", i, deep, tree, err)
				}
			}
			want := deep
			for i >= rooms[want] {
				want++
			}
			if tree, err := g.Turn(api.Tree{Deep: deep}, 0, api.Turn{I: i, B: block(1)}, api.Turn{I: i}); err != api.OK || tree != (api.Tree{Deep: want}) {
				t.Errorf("P16.4: putting and removing %d in a tree with Deep %d = %v, %d", i, deep, tree, err)
			}
		}
	}
}

// A change of nothing saves nothing and drops nothing.
func TestTurnsOfNothing(t *testing.T) {
	for _, p := range []*planted{grown(t, 0), grown(t, 3), grown(t, 0, 0), grown(t, 2, 0, 20), grown(t, 5, 3, 2744)} {
		was := p.tree
		for _, call := range []func(){
			func() { p.turn(math.MaxInt) }, func() { p.turn(3000) }, func() { p.cut(2745) }, func() { p.turn(rooms[5], api.Turn{I: 4}) },
			func() { p.turn(5000, api.Turn{I: 537823}, api.Turn{I: 2}, api.Turn{I: 21}) },
		} {
			call()
			if saved := p.d.of(save); p.tree != was || len(saved) > 0 {
				t.Errorf("P16.4: a change of nothing saves %v, and %v becomes %v", saved, was, p.tree)
			}
		}
	}
}

// sequences does all sequences of that many numbers below n.
func sequences(n, length int, do func(list []int)) {
	if length == 0 {
		do(nil)
		return
	}
	for first := range n {
		sequences(n, length-1, func(list []int) { do(append([]int{first}, list...)) })
	}
}

func TestAllSequences(t *testing.T) {
	ops := []func(p *planted, n int){
		func(p *planted, n int) { p.put(0, block(n)) },
		func(p *planted, n int) { p.put(13, block(n)) },
		func(p *planted, n int) { p.put(14, block(n)) },
		func(p *planted, n int) { p.cut(0) },
		func(p *planted, n int) { p.cut(1) },
		func(p *planted, n int) { p.turn(500, api.Turn{I: 0}) },
		func(p *planted, n int) { p.turn(500, api.Turn{I: 14}) },
		func(p *planted, n int) { p.turn(14, api.Turn{I: 196, B: block(n)}, api.Turn{I: 13}) },
	}
	count := 0
	sequences(len(ops), 4, func(list []int) {
		count++
		p := newDisk(1).plant(t, "name")
		for n, i := range list {
			ops[i](p, n)
		}
	})
	if count != 8*8*8*8 {
		t.Errorf("%d sequences, want 4096", count)
	}
}

// A tree with all of its blocks: made at once, changed here and there, and cut down.
func TestFullTrees(t *testing.T) {
	for deep := range 4 {
		p := grown(t, 0)
		var xs []api.Turn
		for i := range rooms[deep] {
			xs = append(xs, api.Turn{I: i, B: block(i)})
		}
		tree, err := p.g.Turn(p.tree, 0, xs...)
		want := 0
		for level := range deep + 1 {
			want += rooms[level]
		}
		if err != api.OK || len(p.d.of(save)) != want || len(p.d.sectors) != want {
			t.Fatalf("P16.4: a full tree with Deep %d has %d sectors, %d, want %d", deep, len(p.d.sectors), err, want)
		}
		r := p.d.read(t, p.mac, tree)
		checkSectors(t, "P16.4: a full tree", p.g, tree, r.sectors, api.OK)
		for i := range rooms[deep] {
			checkGet(t, "P16.2: a full tree", p.g, tree, i, string(block(i)), api.OK)
		}
		for n := rooms[deep]; n > 0; n /= 3 {
			if tree, err = p.g.Cut(tree, n); err != api.OK {
				t.Fatalf("P16.4: Cut(%d) of a full tree = %d", n, err)
			}
			if r := p.d.read(t, p.mac, tree); len(r.blocks) != n || len(r.sectors) != len(p.d.sectors) {
				t.Fatalf("P16.4: after Cut(%d) of a full tree it has %d blocks in %d sectors of %d", n, len(r.blocks), len(r.sectors), len(p.d.sectors))
			}
		}
	}
}

// Blocks come one by one, in order and in disorder, and go in another order.
func TestBlocksOneByOne(t *testing.T) {
	for _, step := range []int{1, 5, 70} {
		p := newDisk(1).plant(t, "name")
		for n := range 70 {
			p.put(n*step%71, block(n))
		}
		for n := range 70 {
			p.turn(rooms[5], api.Turn{I: n * 3 % 71})
		}
	}
}

// randomTurns are some, of numbers that are often near those of others.
func randomTurns(r *rand.Rand) []api.Turn {
	var xs []api.Turn
	for range r.IntN(6) {
		x := api.Turn{I: randomBlock(r)}
		if r.IntN(3) > 0 {
			x.B = block(r.IntN(1 << 30))
		}
		xs = append(xs, x)
	}
	return xs
}

func randomBlock(r *rand.Rand) int {
	room := rooms[1+r.IntN(5)]
	if r.IntN(2) == 0 {
		return r.IntN(room)
	}
	return max(0, min(room-3+r.IntN(6), rooms[5]-1))
}

// Three trees on one disk, which are changed in turns.
func TestRandomChanges(t *testing.T) {
	r := source()
	for range 30 {
		d := newDisk(1 + r.IntN(1<<20))
		trees := []*planted{d.plant(t, "one"), d.plant(t, "two"), d.plant(t, "")}
		for range 60 {
			p := trees[r.IntN(len(trees))]
			cut := rooms[5]
			switch r.IntN(6) {
			case 0:
				p.cut(randomBlock(r))
			case 1, 2:
				p.put(randomBlock(r), block(r.IntN(1<<30)))
			case 3:
				cut = randomBlock(r)
				fallthrough
			default:
				p.turn(cut, randomTurns(r)...)
			}
		}
		for _, p := range trees {
			p.checkGets("all changes")
			p.cut(0)
		}
		if len(d.sectors) > 0 {
			t.Errorf("P16.4: %d sectors are left of three empty trees", len(d.sectors))
		}
	}
}

// Nothing that a tree has is written over: where dropped sectors stay, all old trees do.
func TestOldTreesStay(t *testing.T) {
	r := source()
	p := newDisk(1).plant(t, "name")
	p.d.onDrop = func(int) (api.Errno, bool) { return api.OK, true }
	var trees []api.Tree
	var blocks []map[int]string
	for range 60 {
		trees, blocks = append(trees, p.tree), append(blocks, maps.Clone(p.blocks))
		cut, xs := rooms[5], randomTurns(r)
		if r.IntN(4) == 0 {
			cut = randomBlock(r)
		}
		tree, err := p.g.Turn(p.tree, cut, xs...)
		if err != api.OK {
			t.Fatalf("P16.4: %s = %d", turnText(cut, xs), err)
		}
		p.tree = tree
		p.model(cut, xs)
	}
	for n, tree := range trees {
		if r := p.d.read(t, p.mac, tree); !maps.Equal(r.blocks, blocks[n]) {
			t.Errorf("P16.3: tree %d has the blocks %v, want %v", n, keys(r.blocks), keys(blocks[n]))
		}
		for i, b := range blocks[n] {
			checkGet(t, "P16.3: an old tree", p.g, tree, i, b, api.OK)
		}
	}
}

// What Drop returns changes nothing.
func TestDropsThatFail(t *testing.T) {
	for _, err := range []api.Errno{api.ErrOff, api.ErrArg, api.ErrCorrupt, -3} {
		p := grown(t, 2, 0, 20, 21)
		p.d.onDrop = func(int) (api.Errno, bool) { return err, true }
		tree, got := p.g.Turn(p.tree, 21, api.Turn{I: 0, B: block(9)}, api.Turn{I: 1, B: block(8)})
		if got != api.OK || len(p.d.of(drop)) != 5 {
			t.Errorf("P16.4: a Turn whose drops fail with %d = %d, with %d drops, want 5", err, got, len(p.d.of(drop)))
		}
		want := map[int]string{0: string(block(9)), 1: string(block(8)), 20: string(block(2))}
		if r := p.d.read(t, p.mac, tree); !maps.Equal(r.blocks, want) {
			t.Errorf("P16.4: after a Turn whose drops fail with %d the blocks %v are there", err, keys(r.blocks))
		}
		p.d.onSave = func([]byte) (int, api.Errno, bool) { return 0, api.ErrFull, len(p.d.of(save)) == 2 }
		p.d.calls = nil
		tree, got = p.g.Put(p.tree, 22, block(7))
		checkNoTree(t, "P16.3: a Put whose drops fail too", tree, got, api.ErrFull)
		if n := len(p.d.of(drop)); n != 2 {
			t.Errorf("P16.3: a Put whose third Save fails drops %d sectors, want 2", n)
		}
	}
}

// change is a Turn that loads some sectors and saves some.
type change struct {
	name string
	cut  int
	xs   []api.Turn
}

func changes() []change {
	return []change{
		{"a block is put anew", rooms[5], []api.Turn{{I: 20, B: block(90)}}},
		{"a block is put", rooms[5], []api.Turn{{I: 22, B: block(90)}}},
		{"the tree gets deeper", rooms[5], []api.Turn{{I: 537823, B: block(90)}}},
		{"a block is removed", rooms[5], []api.Turn{{I: 300}}},
		{"all is cut", 0, nil},
		{"some is cut", 21, nil},
		{"all is cut, and some put", 0, []api.Turn{{I: 20, B: block(91)}, {I: 3000, B: block(92)}}},
		{"many are put and removed", 2744, []api.Turn{{I: 20, B: block(91)}, {I: 2743}, {I: 3000, B: block(92)}, {I: 0}, {I: 14, B: block(93)}}},
	}
}

// Each Load and each Save of a change fails, in each way.
func TestChangesThatFail(t *testing.T) {
	for _, c := range changes() {
		for _, p := range []*planted{grown(t, 0, 0), grown(t, 4, 0, 20, 21, 300, 2743, 2744, 2745), grown(t, 2, 20)} {
			call := func(q *planted) func() (api.Tree, api.Errno) {
				return func() (api.Tree, api.Errno) { return q.g.Turn(q.tree, c.cut, c.xs...) }
			}
			trial := p.copy()
			if _, err := call(trial)(); err != api.OK {
				t.Fatalf("P16.4: %s = %d", c.name, err)
			}
			for n := range len(trial.d.of(load)) {
				for _, f := range brokenLoads() {
					p.d.onLoad = func(at int) ([]byte, api.Errno, bool) {
						if len(p.d.of(load)) != n+1 {
							return nil, api.OK, false
						}
						b, err := f.load(p.d.sectors[at])
						return b, err, true
					}
					p.refused(fmt.Sprintf("P16.4: %s when Load %d %s", c.name, n, f.name), f.want, call(p))
				}
			}
			for n := range len(trial.d.of(save)) {
				for _, err := range []api.Errno{api.ErrFull, api.ErrOff, api.ErrArg, api.ErrNil, api.ErrCorrupt, api.ErrNone, -5, 77} {
					p.d.onSave = func([]byte) (int, api.Errno, bool) { return 1, err, len(p.d.of(save)) == n }
					p.refusedAfter(fmt.Sprintf("P16.4: %s when Save %d fails", c.name, n), n, err, call(p))
				}
			}
			p.turn(c.cut, c.xs...)
		}
	}
}

// refusedAfter expects also that so many sectors were saved and dropped again.
func (p *planted) refusedAfter(what string, n int, want api.Errno, call func() (api.Tree, api.Errno)) {
	p.t.Helper()
	p.refused(what, want, call)
	saved := p.d.of(save)
	if got, want := sorted(p.d.of(drop)), sorted(saved[:len(saved)-1]); len(want) != n || !slices.Equal(got, want) {
		p.t.Fatalf("%s drops %v, want %v", what, got, want)
	}
}

// brokenLoad is what a store returns in place of a sector, and what a call then returns.
type brokenLoad struct {
	name string
	load func(b []byte) ([]byte, api.Errno)
	want api.Errno
}

func brokenLoads() []brokenLoad {
	out := []brokenLoad{
		{"is short", func(b []byte) ([]byte, api.Errno) { return b[:511], api.OK }, api.ErrCorrupt},
		{"is long", func(b []byte) ([]byte, api.Errno) { return append(slices.Clone(b), 0), api.OK }, api.ErrCorrupt},
		{"is twice as long", func(b []byte) ([]byte, api.Errno) { return slices.Concat(b, b), api.OK }, api.ErrCorrupt},
		{"is nothing", func([]byte) ([]byte, api.Errno) { return nil, api.OK }, api.ErrCorrupt},
		{"is zeros", func([]byte) ([]byte, api.Errno) { return make([]byte, 512), api.OK }, api.ErrCorrupt},
		{"is another block", func([]byte) ([]byte, api.Errno) { return block(12345), api.OK }, api.ErrCorrupt},
		{"panics", func([]byte) ([]byte, api.Errno) { panic("a broken store") }, api.ErrCorrupt},
	}
	for _, err := range []api.Errno{api.ErrOff, api.ErrNil, api.ErrArg, api.ErrFull, api.ErrCorrupt, api.ErrNone, api.ErrKey, -1, -10, 9, 99} {
		want := api.ErrCorrupt
		if err == api.ErrOff {
			want = api.ErrOff
		}
		out = append(out,
			brokenLoad{fmt.Sprintf("fails with %d", err), func([]byte) ([]byte, api.Errno) { return nil, err }, want},
			brokenLoad{fmt.Sprintf("fails with %d beside the sector", err), func(b []byte) ([]byte, api.Errno) { return b, err }, want})
	}
	return out
}

// Each Load of a Get, or of Sectors, fails in each way.
func TestReadsThatFail(t *testing.T) {
	p := grown(t, 4, 0, 20, 21, 300, 2743, 2744, 2745)
	for n, at := range p.last.sectors {
		for _, f := range brokenLoads() {
			p.d.onLoad = func(x int) ([]byte, api.Errno, bool) {
				if x != at {
					return nil, api.OK, false
				}
				b, err := f.load(p.d.sectors[x])
				return b, err, true
			}
			checkSectors(t, fmt.Sprintf("P16.4: when the sector with index %d %s", n, f.name), p.g, p.tree, nil, f.want)
			for _, i := range p.asked() {
				want, wantErr := p.blocks[i], api.OK
				if p.isOnTheWay(at, i) {
					want, wantErr = "", f.want
				}
				checkGet(t, fmt.Sprintf("P16.2: when the sector with index %d %s", n, f.name), p.g, p.tree, i, want, wantErr)
			}
		}
	}
}

// isOnTheWay reports whether a sector is on the way to a block, which may be missing.
func (p *planted) isOnTheWay(at, i int) bool {
	for s, to := range p.last.at {
		if to.Sector == at {
			return s.has(i)
		}
	}
	return false
}

// What need not be read may be broken: the blocks that are put or removed, and what is beside the way to them.
func TestChangesBesideBrokenSectors(t *testing.T) {
	for _, c := range changes()[:4] {
		p := grown(t, 4, 0, 20, 21, 300, 2743, 2744, 2745)
		i := c.xs[0].I
		for s, to := range p.last.at {
			q := p.copy()
			q.d.sectors[to.Sector][100] ^= 1
			if s.has(i) && s.level > 0 {
				q.refused("P16.3: "+c.name, api.ErrCorrupt, func() (api.Tree, api.Errno) { return q.g.Turn(q.tree, c.cut, c.xs...) })
				continue
			}
			tree, err := q.g.Turn(q.tree, c.cut, c.xs...)
			if err != api.OK {
				t.Fatalf("P16.3: %s when %v is broken = %d", c.name, s, err)
			}
			checkGet(t, "P16.3: "+c.name, q.g, tree, i, string(c.xs[0].B), api.OK)
		}
	}
}

// A change needs only as many sectors as are new in its result.
func TestSpaceOfChanges(t *testing.T) {
	for _, c := range changes() {
		for _, p := range []*planted{grown(t, 0, 0), grown(t, 4, 0, 20, 21, 300, 2743, 2744, 2745), grown(t, 2, 20)} {
			trial := p.copy()
			trial.turn(c.cut, c.xs...)
			was := map[int]bool{}
			for _, at := range p.last.sectors {
				was[at] = true
			}
			need := 0
			for _, at := range trial.last.sectors {
				if !was[at] {
					need++
				}
			}
			p.d.onSave = func([]byte) (int, api.Errno, bool) { return 0, api.ErrFull, len(p.d.of(save)) == need }
			p.turn(c.cut, c.xs...)
		}
	}
}

// A store that panics is like one that fails.
func TestSavesThatPanic(t *testing.T) {
	for _, c := range changes() {
		p := grown(t, 4, 0, 20, 21, 300, 2743, 2744, 2745)
		trial := p.copy()
		trial.turn(c.cut, c.xs...)
		for n := range len(trial.d.of(save)) {
			p.d.onSave = func([]byte) (int, api.Errno, bool) {
				if len(p.d.of(save)) == n {
					panic("a broken store")
				}
				return 0, api.OK, false
			}
			p.refused("P16.3: "+c.name+" when a Save panics", api.ErrCorrupt, func() (api.Tree, api.Errno) {
				return p.g.Turn(p.tree, c.cut, c.xs...)
			})
		}
		p.d.onDrop = func(int) (api.Errno, bool) { panic("a broken store") }
		p.d.onSave = func([]byte) (int, api.Errno, bool) { return 0, api.ErrFull, len(p.d.of(save)) > 0 }
		tree, err := p.g.Turn(p.tree, 0, api.Turn{I: 1000, B: block(1)})
		checkNoTree(t, "P16.4: a Turn whose drops panic, too", tree, err, api.ErrFull)
		p.d.onSave = nil
		if _, err := p.g.Turn(p.tree, c.cut, c.xs...); err != api.OK {
			t.Errorf("P16.4: %s when drops panic = %d", c.name, err)
		}
	}
}

// A nil pointer is a store that panics.
func TestNilPointers(t *testing.T) {
	var d *disk
	g := newGrove(t, d, oracle.Real(), nil, nil)
	tree := api.Tree{Root: api.Ptr{Sector: 5}, Deep: 1}
	checkGet(t, "P16.2: of a nil pointer", g, tree, 3, "", api.ErrCorrupt)
	checkGet(t, "P16.2: of a nil pointer, that is not used", g, tree, 14, "", api.OK)
	checkSectors(t, "P16.4: of a nil pointer", g, tree, nil, api.ErrCorrupt)
	got, err := g.Put(api.Tree{}, 0, block(1))
	checkNoTree(t, "P16.3: Put of a nil pointer", got, err, api.ErrCorrupt)
	got, err = g.Cut(tree, 0)
	checkNoTree(t, "P16.4: Cut of a nil pointer", got, err, api.ErrCorrupt)
	if got, err := g.Cut(api.Tree{Root: api.Ptr{Sector: 5}}, 0); err != api.OK || got != (api.Tree{}) {
		t.Errorf("P16.4: Cut of a block of a nil pointer = %v, %d", got, err)
	}
}

var _ mtree.Store = (*disk)(nil)
