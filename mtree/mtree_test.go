package mtree_test

import (
	"bytes"
	"fmt"
	"go/ast"
	"go/parser"
	"go/token"
	"maps"
	"math"
	"slices"
	"testing"

	"turnkey/api"
	"turnkey/mtree"
	"turnkey/oracle"
)

func TestNew(t *testing.T) {
	for _, size := range []int{0, 1, 31, 32, 64, 128, 129, 255, 256, 257, 1000, 1 << 16} {
		for _, name := range []int{0, 1, 2, 32, 100, 255, 256} {
			newGrove(t, newDisk(1), oracle.Real(), make([]byte, size), make([]byte, name))
		}
	}
	newGrove(t, newDisk(1), oracle.Ideal(nil), nil, nil)
}

func TestNewRefuses(t *testing.T) {
	d, o := newDisk(1), oracle.Real()
	refused := func(s mtree.Store, o *oracle.Oracle, key, name int, want api.Errno) {
		t.Helper()
		if g, err := mtree.New(s, o, make([]byte, key), make([]byte, name)); g != nil || err != want {
			t.Errorf("P16.1: New with a key of %d and a name of %d bytes = %v, %d, want nil, %d", key, name, g, err, want)
		}
	}
	for _, name := range []int{257, 258, 300, 511, 512, 1000, 1 << 16, 1<<16 + 1} {
		refused(d, o, 3, name, api.ErrArg)
		refused(d, oracle.Ideal(nil), 0, name, api.ErrArg)
		refused(nil, o, 3, name, api.ErrNil)
		refused(d, nil, 3, name, api.ErrNil)
	}
	for _, name := range []int{0, 1, 256} {
		refused(nil, o, 3, name, api.ErrNil)
		refused(d, nil, 3, name, api.ErrNil)
		refused(nil, nil, 3, name, api.ErrNil)
	}
	if len(d.calls) > 0 {
		t.Errorf("P16.1: New makes the calls %v", d.calls)
	}
}

func TestRoom(t *testing.T) {
	for deep, want := range rooms {
		if got := mtree.Room(deep); got != want {
			t.Errorf("P16.1: Room(%d) = %d, want %d", deep, got, want)
		}
	}
	for _, deep := range wrongDeeps() {
		if got := mtree.Room(deep); got != 0 {
			t.Errorf("P16.1: Room(%d) = %d, want 0", deep, got)
		}
	}
}

func wrongDeeps() []int {
	return []int{-1, -2, -5, 6, 7, 14, 63, 64, 255, 256, 1 << 31, 1 << 32, 1<<32 + 2, -1 << 32, 2 - 1<<32, math.MaxInt, math.MinInt}
}

func TestPack(t *testing.T) {
	mac := [32]byte(block(1))
	for _, c := range []struct {
		sector int
		want   string
	}{
		{1, "\x00\x00\x00\x01"}, {255, "\x00\x00\x00\xff"}, {256, "\x00\x00\x01\x00"}, {65536, "\x00\x01\x00\x00"},
		{0x01020304, "\x01\x02\x03\x04"}, {0xfffefdfc, "\xff\xfe\xfd\xfc"}, {1<<32 - 1, "\xff\xff\xff\xff"},
	} {
		p := api.Ptr{Sector: c.sector, Mac: mac}
		got := mtree.Pack(p)
		if string(got) != c.want+string(mac[:]) {
			t.Errorf("P16.1: Pack of sector %d = %x", c.sector, got)
		}
		if back, ok := mtree.Unpack(got); !ok || back != p {
			t.Errorf("P16.1: Unpack of Pack of sector %d = %v, %t", c.sector, back, ok)
		}
		checkUnpack(t, append([]byte(c.want), make([]byte, 32)...), api.Ptr{Sector: c.sector}, true)
	}
	if got := mtree.Pack(api.Ptr{}); !bytes.Equal(got, make([]byte, 36)) {
		t.Errorf("P16.1: Pack of the zero pointer = %x", got)
	}
	checkUnpack(t, make([]byte, 36), api.Ptr{}, true)
}

func checkUnpack(t *testing.T, b []byte, want api.Ptr, wantOK bool) {
	t.Helper()
	a := newArgument(b)
	if got, ok := mtree.Unpack(a.bytes()); got != want || ok != wantOK || !a.unchanged() {
		t.Errorf("P16.1: Unpack(%x) = %v, %t, want %v, %t", b, got, ok, want, wantOK)
	}
}

func TestUnpackRefuses(t *testing.T) {
	checkUnpack(t, nil, api.Ptr{}, false)
	for n := range 200 {
		if n != 36 {
			checkUnpack(t, make([]byte, n), api.Ptr{}, false)
			checkUnpack(t, bytes.Repeat([]byte{5}, n), api.Ptr{}, false)
		}
	}
	for bit := range 32 * 8 {
		b := make([]byte, 36)
		b[4+bit/8] = 1 << (bit % 8)
		checkUnpack(t, b, api.Ptr{}, false)
		for _, i := range []int{0, 1, 2, 3} {
			b := bytes.Clone(b)
			b[i] = 1
			checkUnpack(t, b, api.Ptr{Sector: 1 << (24 - 8*i), Mac: [32]byte(b[4:])}, true)
		}
	}
}

func TestPointersAreNewMemory(t *testing.T) {
	p := api.Ptr{Sector: 5, Mac: [32]byte(block(1))}
	one, two := mtree.Pack(p), mtree.Pack(p)
	spoil(one)
	if back, ok := mtree.Unpack(two); !ok || back != p {
		t.Errorf("P16.5: two results of Pack share memory")
	}
	got, _ := mtree.Unpack(two)
	spoil(two)
	if got != p {
		t.Errorf("P16.5: what Unpack returned changes later")
	}
}

// Trees made by the words of the chapter are read, cut and put into.
func TestTreesOfTheChapter(t *testing.T) {
	for deep := range 6 {
		for _, is := range [][]int{nil, {0}, {5}, {13}, {0, 13, 14}, {195}, {0, 3, 20, 21, 300, 2743, 2744, 2745, 38415, 38416, 537823}} {
			p := grown(t, deep, is...)
			if p.stays("build"); len(p.blocks) != len(is) {
				t.Fatalf("%d blocks are built, want %d", len(p.blocks), len(is))
			}
			p.checkGets("build")
			if len(p.d.of(save)) != len(p.last.sectors) || len(p.d.of(drop)) > 0 {
				t.Errorf("P16.2: Get or Sectors changes the store: %v", p.d.calls)
			}
		}
	}
}

// A tree's root that points to nothing has no blocks, whatever its Mac is.
func TestRootsOfNothing(t *testing.T) {
	for deep := range 6 {
		for _, root := range []api.Ptr{{}, {Mac: [32]byte{1}}, {Mac: [32]byte(block(5))}} {
			p := newDisk(1).plant(t, "name")
			p.tree, p.deep = api.Tree{Root: root, Deep: deep}, deep
			for _, i := range append(edges(), math.MaxInt) {
				checkGet(t, "P16.2: of nothing", p.g, p.tree, i, "", api.OK)
			}
			checkSectors(t, "P16.4: of nothing", p.g, p.tree, nil, api.OK)
			tree, err := p.g.Cut(p.tree, 0)
			if err != api.OK || tree != (api.Tree{Deep: deep}) || len(p.d.calls) > 0 {
				t.Errorf("P16.4: Cut of nothing = %v, %d, and makes the calls %v", tree, err, p.d.calls)
			}
			p.put(20, block(1))
		}
	}
}

// wrongTurns are elements of which one is enough for ErrArg.
func wrongTurns() []api.Turn {
	out := []api.Turn{{I: 3, B: block(1)[:1]}, {I: 3, B: block(1)[:511]}, {I: 3, B: make([]byte, 513)}, {I: 3, B: make([]byte, 1024)}}
	for _, i := range []int{-1, -14, rooms[5], rooms[5] + 1, 1 << 31, 1 << 32, 1<<32 + 3, 3 - 1<<32, math.MinInt, math.MaxInt} {
		out = append(out, api.Turn{I: i}, api.Turn{I: i, B: block(1)})
	}
	return out
}

// All functions with a wrong Deep, and each one with its other wrong arguments. The store is not asked.
func TestWrongArguments(t *testing.T) {
	p := grown(t, 2, 0, 20)
	var refusals []func() (api.Tree, api.Errno)
	refuse := func(call func() (api.Tree, api.Errno)) { refusals = append(refusals, call) }
	put := func(tree api.Tree, i int, b []byte) {
		refuse(func() (api.Tree, api.Errno) { return p.g.Put(tree, i, b) })
	}
	turn := func(tree api.Tree, cut int, xs ...api.Turn) {
		refuse(func() (api.Tree, api.Errno) { return p.g.Turn(tree, cut, xs...) })
	}
	cut := func(tree api.Tree, n int) {
		refuse(func() (api.Tree, api.Errno) { return p.g.Cut(tree, n) })
		turn(tree, n)
		turn(tree, n, api.Turn{I: 1, B: block(1)})
	}
	for _, deep := range wrongDeeps() {
		for _, tree := range []api.Tree{{Root: p.tree.Root, Deep: deep}, {Deep: deep}} {
			for _, i := range []int{-1, 0, 1, 20, rooms[5], math.MaxInt} {
				checkGet(t, "P16.2: with a wrong Deep", p.g, tree, i, "", api.ErrArg)
				put(tree, i, block(1))
				put(tree, i, nil)
				cut(tree, i)
			}
			checkSectors(t, "P16.4: with a wrong Deep", p.g, tree, nil, api.ErrArg)
		}
	}
	for _, tree := range []api.Tree{p.tree, {}, {Deep: 5}} {
		for _, i := range []int{-1, -2, -14, -1 << 31, -1 << 32, 1 - 1<<32, math.MinInt} {
			checkGet(t, "P16.2: with a negative number", p.g, tree, i, "", api.ErrArg)
			cut(tree, i)
		}
		for _, x := range wrongTurns() {
			put(tree, x.I, x.B)
			turn(tree, 30, x)
			turn(tree, 0, api.Turn{I: 1}, x, api.Turn{I: 3, B: block(3)})
			turn(tree, math.MaxInt, api.Turn{I: 3, B: block(3)}, api.Turn{I: 3}, x)
		}
		put(tree, 3, nil)
		put(tree, 3, []byte{})
	}
	for n, call := range refusals {
		p.refused(fmt.Sprintf("P16.3: wrong call %d", n), api.ErrArg, call)
		if len(p.d.calls) > 0 {
			t.Fatalf("P16.3: wrong call %d makes the calls %v", n, p.d.calls)
		}
	}
}

// Keys and names of all kinds of lengths, with what they make of the Macs.
func TestKeysAndNames(t *testing.T) {
	for _, size := range []int{0, 1, 32, 64, 127, 128, 129, 300} {
		for _, length := range []int{0, 1, 2, 32, 255, 256} {
			key, name := block(size)[:size], block(length + 1)[:length]
			d := newDisk(1)
			p := d.add(&planted{t: t, d: d, mac: realMacs(key, name), blocks: map[int]string{}})
			p.g = newGrove(t, d, oracle.Real(), key, name)
			p.put(3, block(1))
			p.put(300, block(2))
		}
	}
}

// A key and a name are changed as soon as the grove is there.
func TestKeysAndNamesAreNotKept(t *testing.T) {
	key, name := newArgument([]byte("a key")), newArgument([]byte("a name"))
	d := newDisk(1)
	p := d.add(&planted{t: t, d: d, mac: realMacs([]byte("a key"), []byte("a name")), blocks: map[int]string{}})
	p.g = newGrove(t, d, oracle.Real(), key.bytes(), name.bytes())
	p.put(3, block(1))
	if !key.unchanged() || !name.unchanged() {
		t.Errorf("P16.5: a key or a name is changed")
	}
	spoil(key.whole)
	spoil(name.whole)
	p.put(20, block(2))
	p.checkGets("a change of the key and the name")
}

// What a call returned changes neither the store nor another result, and is not changed by later calls.
func TestResultsAreNewMemory(t *testing.T) {
	p := grown(t, 2, 0, 20)
	before := p.d.image()
	one, _ := p.g.Get(p.tree, 20)
	two, _ := p.g.Get(p.tree, 20)
	spoil(one)
	if string(two) != p.blocks[20] {
		t.Errorf("P16.5: two results of Get share memory")
	}
	list, _ := p.g.Sectors(p.tree)
	again, _ := p.g.Sectors(p.tree)
	list = list[:cap(list)]
	for i := range list {
		list[i] = -1
	}
	if !slices.Equal(again, p.last.sectors) {
		t.Errorf("P16.5: two results of Sectors share memory")
	}
	if !maps.Equal(p.d.image(), before) {
		t.Errorf("P16.5: the store is changed by a change of a result")
	}
	for at := range p.d.sectors {
		spoil(p.d.sectors[at])
	}
	if string(two) != p.blocks[20] {
		t.Errorf("P16.5: a result of Get changes with the store")
	}
}

// The Macs are the Tags of the oracle, each of which is asked for once in a tape.
func TestIdealOracles(t *testing.T) {
	tape := make([]byte, 0, 1<<14)
	for n := range 1 << 5 {
		tape = append(tape, block(n)...)
	}
	o := oracle.Ideal(tape)
	d := newDisk(1)
	p := d.plantIdeal(t, o, "name")
	p.put(0, block(1))
	if p.tree.Root.Mac != [32]byte(tape) {
		t.Errorf("P16.3: the first Mac is %x, want the beginning of the tape", p.tree.Root.Mac)
	}
	q := d.plantIdeal(t, o, "other")
	for n := range 10 {
		p.put(n*n, block(n))
		q.put(n*n, block(n))
		q.turn(n*n, api.Turn{I: 20, B: block(7)}, api.Turn{I: n})
		p.cut(70)
	}
	if n := len(p.last.sectors) + len(q.last.sectors); o.Bad() || o.Queries() < n {
		t.Errorf("P16.3: after %d queries an ideal oracle is bad, or there are fewer than %d sectors", o.Queries(), n)
	}
}

// How Macs are compared does not show in results: this looks for the call of octets.Same.
func TestMacsAreComparedBySame(t *testing.T) {
	file, err := parser.ParseFile(token.NewFileSet(), "mtree.go", nil, 0)
	if err != nil {
		t.Fatal(err)
	}
	called := false
	for _, d := range file.Decls {
		if f, ok := d.(*ast.FuncDecl); !ok || f.Name.Name != "hasMac" {
			continue
		}
		ast.Inspect(d, func(n ast.Node) bool {
			switch x := n.(type) {
			case *ast.BinaryExpr:
				t.Errorf("P16.2: hasMac compares by %s", x.Op)
			case *ast.SelectorExpr:
				p, ok := x.X.(*ast.Ident)
				called = called || ok && p.Name == "octets" && x.Sel.Name == "Same"
			}
			return true
		})
	}
	if !called {
		t.Errorf("P16.2: hasMac does not compare by octets.Same")
	}
}

// Where all Tags are the same, nothing is promised of the blocks, but everything ends.
func TestEqualTags(t *testing.T) {
	d := newDisk(1)
	g := newGrove(t, d, oracle.Ideal(nil), nil, nil)
	b := make([]byte, 512)
	for i := range 14 {
		b[36*i+3] = 1
	}
	d.sectors[1] = b
	tree := api.Tree{Root: api.Ptr{Sector: 1}, Deep: 3}
	if got, err := g.Sectors(tree); err != api.OK || len(got) != 1+14+196+2744 {
		t.Errorf("P16.4: Sectors of a sector that points to itself = %d sectors, %d", len(got), err)
	}
	checkGet(t, "P16.2: of a sector that points to itself", g, tree, 2743, string(b), api.OK)
}
