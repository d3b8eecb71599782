package tape_test

import (
	"bytes"
	"fmt"
	"math"
	"math/big"
	"math/rand/v2"
	"slices"
	"strconv"
	"strings"
	"testing"

	"turnkey/tape"
)

// model is lazy tables by the words of the chapter, searched from one end to the other.
type model struct {
	tape    []byte
	answers []answer
	pairs   []pair
	bad     bool
	queries int
}

type answer struct{ name, query, text string }

type pair struct{ name, x, y string }

func newModel(seed []byte) *model { return &model{tape: bytes.Clone(seed)} }

func (m *model) draw(n int) []byte {
	var out []byte
	for len(out) < n {
		if len(m.tape) == 0 {
			out = append(out, 0)
			continue
		}
		out = append(out, m.tape[0])
		m.tape = m.tape[1:]
	}
	return out
}

func (m *model) function(name, query string, n int) []byte {
	for _, a := range m.answers {
		if a.name == name && a.query == query {
			return []byte(a.text)
		}
	}
	m.queries++
	text := string(m.draw(n))
	for _, a := range m.answers {
		m.bad = m.bad || a.name == name && a.text == text
	}
	m.answers = append(m.answers, answer{name, query, text})
	return []byte(text)
}

func (m *model) forward(name string, x []byte) []byte {
	for _, p := range m.pairs {
		if p.name == name && p.x == string(x) {
			return []byte(p.y)
		}
	}
	if len(x) == 0 {
		return nil
	}
	y := m.partner(len(x), func(y string) bool {
		return slices.ContainsFunc(m.pairs, func(p pair) bool { return p.name == name && p.y == y })
	})
	m.pairs = append(m.pairs, pair{name, string(x), y})
	return []byte(y)
}

func (m *model) backward(name string, y []byte) []byte {
	for _, p := range m.pairs {
		if p.name == name && p.y == string(y) {
			return []byte(p.x)
		}
	}
	if len(y) == 0 {
		return nil
	}
	x := m.partner(len(y), func(x string) bool {
		return slices.ContainsFunc(m.pairs, func(p pair) bool { return p.name == name && p.x == x })
	})
	m.pairs = append(m.pairs, pair{name, x, string(y)})
	return []byte(x)
}

// partner draws a text of n bytes, and goes on from it while it is paired.
func (m *model) partner(n int, paired func(string) bool) string {
	m.queries++
	text := string(m.draw(n))
	for paired(text) {
		m.bad = true
		text = follower(text)
	}
	return text
}

// follower is the next text, by arithmetic with whole numbers.
func follower(text string) string {
	number := new(big.Int).SetBytes([]byte(text))
	number.Add(number, big.NewInt(1))
	number.Mod(number, new(big.Int).Lsh(big.NewInt(1), uint(8*len(text))))
	return string(number.FillBytes(make([]byte, len(text))))
}

const (
	drawing = iota
	function
	forward
	backward
	allKinds
)

// call is a call of one of the kinds; a permutation's text is query.
type call struct {
	kind        int
	name, query string
	n           int
}

func (c call) String() string {
	kind := [...]string{"Draw", "Function", "Forward", "Backward"}[c.kind]
	return fmt.Sprintf("%s(%q, %q, %d)", kind, c.name, c.query, c.n)
}

func (c call) of(l *tape.Lazy) []byte {
	switch c.kind {
	case drawing:
		return l.Draw(c.n)
	case function:
		return l.Function(c.name, c.query, c.n)
	case forward:
		return l.Forward(c.name, []byte(c.query))
	}
	return l.Backward(c.name, []byte(c.query))
}

func (c call) ofModel(m *model) []byte {
	switch c.kind {
	case drawing:
		return m.draw(c.n)
	case function:
		return m.function(c.name, c.query, c.n)
	case forward:
		return m.forward(c.name, []byte(c.query))
	}
	return m.backward(c.name, []byte(c.query))
}

// both are lazy tables and their model.
type both struct {
	l *tape.Lazy
	m *model
}

func newBoth(seed []byte) both { return both{tape.New(seed), newModel(seed)} }

// check makes the call on both, and holds all that they tell against each other.
func (b both) check(t *testing.T, c call) {
	t.Helper()
	if got, want := c.of(b.l), c.ofModel(b.m); !bytes.Equal(got, want) {
		t.Fatalf("P11.1: %s = %v, want %v", c, got, want)
	}
	if b.l.Bad() != b.m.bad {
		t.Fatalf("P11.2: after %s Bad is %t", c, b.l.Bad())
	}
	if b.l.Queries() != b.m.queries {
		t.Fatalf("P11.1: after %s there are %d queries, want %d", c, b.l.Queries(), b.m.queries)
	}
}

// checkState expects Bad, Queries, and the tape's next byte, which it draws.
func checkState(t *testing.T, l *tape.Lazy, bad bool, queries int, next byte) {
	t.Helper()
	if l.Bad() != bad || l.Queries() != queries {
		t.Errorf("P11.1: Bad is %t and there are %d queries, want %t and %d", l.Bad(), l.Queries(), bad, queries)
	}
	if got := l.Draw(1); !bytes.Equal(got, []byte{next}) {
		t.Errorf("P11.1: the next byte of the tape is %v, want %d", got, next)
	}
}

func checkBytes(t *testing.T, what string, got []byte, want ...byte) {
	t.Helper()
	if !bytes.Equal(got, want) {
		t.Errorf("%s is %v, want %v", what, got, want)
	}
}

func TestExamples(t *testing.T) {
	l := tape.New([]byte{1, 2, 3})
	checkBytes(t, "P11.1: Function(f, q, 2)", l.Function("f", "q", 2), 1, 2)
	checkBytes(t, "P11.1: Function(f, q, 2) again", l.Function("f", "q", 2), 1, 2)
	checkBytes(t, "P11.1: Forward(p, 9)", l.Forward("p", []byte{9}), 3)
	checkBytes(t, "P11.1: Backward(p, 3)", l.Backward("p", []byte{3}), 9)
	checkBytes(t, "P11.1: Forward(p, 8)", l.Forward("p", []byte{8}), 0)
	checkState(t, l, false, 3, 0)
}

func TestNew(t *testing.T) {
	for _, seed := range [][]byte{nil, {}, {7}} {
		l := tape.New(seed)
		if l.Bad() || l.Queries() != 0 {
			t.Errorf("P11.1: with the tape %v Bad is %t and there are %d queries from the start", seed, l.Bad(), l.Queries())
		}
		checkBytes(t, "P11.1: all of the tape and a byte behind it", l.Draw(len(seed)+1), append(bytes.Clone(seed), 0)...)
	}
}

func TestDraw(t *testing.T) {
	l := tape.New([]byte{1, 2, 3, 4, 5, 6})
	checkBytes(t, "P11.1: Draw(1)", l.Draw(1), 1)
	checkBytes(t, "P11.1: Draw(0)", l.Draw(0))
	checkBytes(t, "P11.1: Draw(-1)", l.Draw(-1))
	checkBytes(t, "P11.1: Draw(-3)", l.Draw(-3))
	checkBytes(t, "P11.1: Draw of the least number", l.Draw(math.MinInt))
	checkBytes(t, "P11.1: Draw(3)", l.Draw(3), 2, 3, 4)
	checkBytes(t, "P11.1: Draw(4), half of it behind the end", l.Draw(4), 5, 6, 0, 0)
	checkBytes(t, "P11.1: Draw(2) behind the end", l.Draw(2), 0, 0)
	checkBytes(t, "P11.1: Draw(-1) behind the end", l.Draw(-1))
	checkState(t, l, false, 0, 0)
}

// Draws of all lengths, from tapes of all lengths.
func TestDrawsOfAllLengths(t *testing.T) {
	r := source()
	for size := range 40 {
		seed := randomBytes(r, size)
		for n := range 50 {
			l, whole := tape.New(seed), append(bytes.Clone(seed), make([]byte, 200)...)
			for range 3 {
				checkBytes(t, "P11.1: a draw", l.Draw(n), whole[:n]...)
				whole = whole[n:]
			}
		}
	}
}

// A result of more than 2^31 - 1 bytes is beyond what is promised; the call ends all the same.
func TestHugeDraws(t *testing.T) {
	l := tape.New([]byte{1, 2, 3})
	for _, n := range []int{1 << 31, 1 << 40, 1 << 60, math.MaxInt} {
		l.Draw(n)
		l.Function("f", strconv.Itoa(n), n)
	}
	if l.Queries() != 4 {
		t.Errorf("P11.1: a new query counts, whatever n is: there are %d queries", l.Queries())
	}
}

// The longest result that is promised. Nearly all of it is never touched, and so takes no memory.
func TestLongestDraw(t *testing.T) {
	const n = 1<<31 - 1
	l := tape.New([]byte{1, 2, 3})
	l.Draw(1)
	got := l.Draw(n)
	if len(got) != n {
		t.Fatalf("P11.1: Draw(%d) has %d bytes", n, len(got))
	}
	checkBytes(t, "P11.1: the beginning of the longest draw", got[:4], 2, 3, 0, 0)
	checkBytes(t, "P11.1: the end of the longest draw", got[n-2:], 0, 0)
}

func TestLongDraw(t *testing.T) {
	const n = 1 << 20
	r := source()
	seed := randomBytes(r, n)
	l := tape.New(seed)
	checkBytes(t, "P11.1: the first byte of a long tape", l.Draw(1), seed[0])
	if got := l.Draw(2 * n); !bytes.Equal(got[:n-1], seed[1:]) || !bytes.Equal(got[n-1:], make([]byte, n+1)) {
		t.Errorf("P11.1: a long draw is neither the tape nor zeros")
	}
}

func TestFunction(t *testing.T) {
	l := tape.New([]byte{1, 2, 3, 4, 5, 6, 7, 8, 9})
	checkBytes(t, "P11.1: the answer to a", l.Function("f", "a", 2), 1, 2)
	checkBytes(t, "P11.1: the answer to b", l.Function("f", "b", 1), 3)
	checkBytes(t, "P11.1: the answer of another function to a", l.Function("g", "a", 3), 4, 5, 6)
	checkBytes(t, "P11.1: the answer to the empty query", l.Function("f", "", 1), 7)
	checkBytes(t, "P11.1: the answer of the function without a name", l.Function("", "a", 1), 8)
	checkBytes(t, "P11.1: its answer to the empty query", l.Function("", "", 3), 9, 0, 0)
	for _, n := range []int{-1, 0, 1, 2, 3, 100, math.MinInt, math.MaxInt} {
		checkBytes(t, "P11.1: the answer to a", l.Function("f", "a", n), 1, 2)
		checkBytes(t, "P11.1: the answer to b", l.Function("f", "b", n), 3)
		checkBytes(t, "P11.1: the answer of another function to a", l.Function("g", "a", n), 4, 5, 6)
		checkBytes(t, "P11.1: the answer to the empty query", l.Function("f", "", n), 7)
	}
	checkState(t, l, false, 6, 0)
}

// A name and a query that are the same as others when one follows the other are not the same.
func TestNamesAndQueriesAreApart(t *testing.T) {
	names := []string{"", "a", "ab", "b", "a\x00", "\x00", "\x00a", "A", " a", "\xff", "aa"}
	seed := counted(len(names) * len(names))
	l, next := tape.New(seed), 0
	for range 2 {
		next = 0
		for _, name := range names {
			for _, query := range names {
				checkBytes(t, "P11.1: the answer of "+name+" to "+query, l.Function(name, query, 1), byte(next))
				next++
			}
		}
	}
	checkState(t, l, false, next, 0)
}

// A new query whose answer has no bytes counts, and its answer stays.
func TestEmptyAnswers(t *testing.T) {
	for _, n := range []int{0, -1, -7, math.MinInt} {
		l := tape.New([]byte{1, 2})
		checkBytes(t, "P11.1: an answer without bytes", l.Function("f", "a", n))
		if l.Bad() || l.Queries() != 1 {
			t.Errorf("P11.1: after Function with %d Bad is %t and there are %d queries", n, l.Bad(), l.Queries())
		}
		checkBytes(t, "P11.2: the answer without bytes, asked for a byte", l.Function("f", "a", 1))
		checkBytes(t, "P11.1: the answer of another function", l.Function("g", "a", n))
		if l.Bad() || l.Queries() != 2 {
			t.Errorf("P11.2: after another function Bad is %t and there are %d queries", l.Bad(), l.Queries())
		}
		// The same answer, though it has no bytes, to another query.
		checkBytes(t, "P11.1: the second answer without bytes", l.Function("f", "b", 0))
		checkState(t, l, true, 3, 1)
	}
}

func TestBadFunctions(t *testing.T) {
	for _, c := range []struct {
		what  string
		seed  []byte
		calls []call
		bad   bool
	}{
		{"two answers", []byte{1, 2}, []call{{function, "f", "a", 1}, {function, "f", "b", 1}}, false},
		{"the same answer to two queries", []byte{1, 1}, []call{{function, "f", "a", 1}, {function, "f", "b", 1}}, true},
		{"the same answer to one query", []byte{1, 1}, []call{{function, "f", "a", 1}, {function, "f", "a", 1}}, false},
		{"the same answer of two functions", []byte{1, 1}, []call{{function, "f", "a", 1}, {function, "g", "b", 1}}, false},
		{"the same answer of two functions to one query", []byte{1, 1}, []call{{function, "f", "a", 1}, {function, "g", "a", 1}}, false},
		{"an answer that begins another", []byte{1, 1, 2}, []call{{function, "f", "a", 1}, {function, "f", "b", 2}}, false},
		{"answers of zeros of two lengths", nil, []call{{function, "f", "a", 1}, {function, "f", "b", 2}}, false},
		{"answers of zeros of one length", nil, []call{{function, "f", "a", 2}, {function, "f", "b", 2}}, true},
		{"answers of no bytes and of a zero", nil, []call{{function, "f", "a", 0}, {function, "f", "b", 1}}, false},
		{"an answer that is a query", []byte("aab"), []call{{function, "f", "a", 1}, {function, "f", "b", 2}}, false},
		{"the same answer with one between", []byte{1, 2, 1}, []call{{function, "f", "a", 1}, {function, "f", "b", 1}, {function, "f", "c", 1}}, true},
		{"what was drawn without a question", []byte{1, 1, 1}, []call{{drawing, "", "", 1}, {function, "f", "a", 1}, {drawing, "", "", 1}}, false},
		{"what a permutation of that name drew", []byte{1, 1}, []call{{forward, "f", "a", 0}, {function, "f", "b", 1}}, false},
		{"what a function of that name drew", []byte{1, 1}, []call{{function, "f", "a", 1}, {forward, "f", "b", 0}}, false},
	} {
		l := tape.New(c.seed)
		for _, x := range c.calls {
			x.of(l)
		}
		if l.Bad() != c.bad {
			t.Errorf("P11.2: %s: Bad is %t", c.what, l.Bad())
		}
	}
}

func TestPermutation(t *testing.T) {
	l := tape.New([]byte{10, 20, 30, 40, 50, 60})
	checkBytes(t, "P11.1: the partner of 1", l.Forward("p", []byte{1}), 10)
	checkBytes(t, "P11.1: whose partner 2 is", l.Backward("p", []byte{2}), 20)
	checkBytes(t, "P11.1: whose partner 1 is", l.Backward("p", []byte{1}), 30)
	checkBytes(t, "P11.1: the partner of 10", l.Forward("p", []byte{10}), 40)
	checkBytes(t, "P11.1: the partner of 1 in another permutation", l.Forward("q", []byte{1}), 50)
	checkBytes(t, "P11.1: the partner of 1 in the one without a name", l.Forward("", []byte{1}), 60)
	for range 2 {
		checkBytes(t, "P11.2: whose partner 10 is", l.Backward("p", []byte{10}), 1)
		checkBytes(t, "P11.2: the partner of 20", l.Forward("p", []byte{20}), 2)
		checkBytes(t, "P11.2: the partner of 30", l.Forward("p", []byte{30}), 1)
		checkBytes(t, "P11.2: whose partner 40 is", l.Backward("p", []byte{40}), 10)
		checkBytes(t, "P11.2: whose partner 50 is in another permutation", l.Backward("q", []byte{50}), 1)
		checkBytes(t, "P11.2: whose partner 60 is in the one without a name", l.Backward("", []byte{60}), 1)
		checkBytes(t, "P11.2: the partner of 1", l.Forward("p", []byte{1}), 10)
	}
	checkState(t, l, false, 6, 0)
}

// Permutations of one name and of different sizes, texts that begin one another among them.
func TestSizesAreApart(t *testing.T) {
	l := tape.New(nil)
	for n := 1; n <= 600; n++ {
		zeros := make([]byte, n)
		checkBytes(t, "P11.1: the partner of zeros", l.Forward("p", zeros), zeros...)
		checkBytes(t, "P11.1: whose partner zeros are", l.Backward("p", zeros), zeros...)
	}
	checkState(t, l, false, 600, 0)
}

// A name and a text that are the same as others when one follows the other are not the same.
func TestNamesAndTextsAreApart(t *testing.T) {
	names := []string{"", "a", "ab", "b", "a\x00", "\x00", "\x00a", "abc", "\xff", "c"}
	l, queries := tape.New(nil), 0
	for _, name := range names {
		for n := 1; n <= 3; n++ {
			text := bytes.Repeat([]byte{'a'}, n)
			checkBytes(t, "P11.1: the partner in "+name, l.Forward(name, text), make([]byte, n)...)
			queries++
		}
	}
	checkState(t, l, false, queries, 0)
}

// For an empty text nothing is drawn, and nothing is counted.
func TestEmptyTexts(t *testing.T) {
	l := tape.New([]byte{1, 2, 3})
	for _, name := range []string{"", "p", "q"} {
		for _, text := range [][]byte{nil, {}, make([]byte, 0, 8)} {
			for range 2 {
				checkBytes(t, "P11.1: the partner of no bytes", l.Forward(name, text))
				checkBytes(t, "P11.1: whose partner no bytes are", l.Backward(name, text))
			}
		}
	}
	checkState(t, l, false, 0, 1)
}

// The next text that is not paired takes the place of one that is.
func TestNextText(t *testing.T) {
	for _, c := range []struct {
		drawn, want string
	}{
		{"\x00", "\x01"},
		{"\x7f", "\x80"},
		{"\xfe", "\xff"},
		{"\xff", "\x00"},
		{"\x00\x00", "\x00\x01"},
		{"\x00\xff", "\x01\x00"},
		{"\xff\x00", "\xff\x01"},
		{"\xfe\xff", "\xff\x00"},
		{"\xff\xfe", "\xff\xff"},
		{"\xff\xff", "\x00\x00"},
		{"\x01\x02\x03", "\x01\x02\x04"},
		{"\x01\x02\xff", "\x01\x03\x00"},
		{"\x01\xff\xff", "\x02\x00\x00"},
		{"\x7f\xff\xff\xff\xff\xff\xff\xff", "\x80\x00\x00\x00\x00\x00\x00\x00"},
		{"\xff\xff\xff\xff\xff\xff\xff\xff", "\x00\x00\x00\x00\x00\x00\x00\x00"},
		{"\x00\xff\xff\xff\xff\xff\xff\xff\xff", "\x01\x00\x00\x00\x00\x00\x00\x00\x00"},
		{strings.Repeat("\xff", 512), strings.Repeat("\x00", 512)},
		{"a" + strings.Repeat("\xff", 511), "b" + strings.Repeat("\x00", 511)},
	} {
		one, two := bytes.Repeat([]byte{1}, len(c.drawn)), bytes.Repeat([]byte{2}, len(c.drawn))
		seed := []byte(c.drawn + c.drawn)
		for _, kinds := range [][2]int{{forward, backward}, {backward, forward}} {
			there, back := kinds[0], kinds[1]
			l := tape.New(seed)
			checkBytes(t, "P11.1: the first partner", call{there, "p", string(one), 0}.of(l), []byte(c.drawn)...)
			if l.Bad() {
				t.Errorf("P11.2: Bad at the first question")
			}
			checkBytes(t, "P11.1: the second partner", call{there, "p", string(two), 0}.of(l), []byte(c.want)...)
			checkBytes(t, "P11.2: whose partner the second one is", call{back, "p", c.want, 0}.of(l), two...)
			checkBytes(t, "P11.2: whose partner the first one is", call{back, "p", c.drawn, 0}.of(l), one...)
			checkState(t, l, true, 2, 0)
		}
	}
}

// A drawn text that is paired on the other side only is not replaced.
func TestSidesAreApart(t *testing.T) {
	l := tape.New([]byte{1, 2, 3, 3})
	checkBytes(t, "P11.1: the partner of 2", l.Forward("p", []byte{2}), 1)
	checkBytes(t, "P11.1: the partner of 1", l.Forward("p", []byte{1}), 2)
	checkBytes(t, "P11.1: the partner of 3", l.Forward("p", []byte{3}), 3)
	if l.Bad() {
		t.Errorf("P11.2: Bad, though nothing was drawn twice")
	}
	// 3 is paired on this side too, by the question before.
	checkBytes(t, "P11.1: whose partner 4 is", l.Backward("p", []byte{4}), 4)
	checkState(t, l, true, 4, 0)
}

// A text that the caller asked about is paired too, so that drawing it afterwards is bad.
func TestBadByAskedTexts(t *testing.T) {
	for _, kinds := range [][2]int{{forward, backward}, {backward, forward}} {
		l := tape.New([]byte{5, 9})
		checkBytes(t, "P11.1: the partner of 9", call{kinds[0], "p", "\x09", 0}.of(l), 5)
		checkBytes(t, "P11.1: on the other side, the partner of 7", call{kinds[1], "p", "\x07", 0}.of(l), 10)
		checkState(t, l, true, 2, 0)
	}
}

// Once it is true, nothing else changes, and later draws that are new do not make it false.
func TestBadStays(t *testing.T) {
	l := tape.New([]byte{1, 1, 2, 3, 4})
	l.Function("f", "a", 1)
	l.Function("f", "b", 1)
	for range 2 {
		checkBytes(t, "P11.1: the answer to c", l.Function("f", "c", 1), 2)
		checkBytes(t, "P11.1: the partner of 1", l.Forward("f", []byte{1}), 3)
		checkBytes(t, "P11.1: the answer to b", l.Function("f", "b", 1), 1)
		if !l.Bad() || !l.Bad() {
			t.Errorf("P11.2: Bad does not stay true")
		}
	}
	checkState(t, l, true, 4, 4)
}

// Functions and permutations of one name have nothing in common.
func TestKindsAreApart(t *testing.T) {
	l := tape.New([]byte{1, 2, 3})
	checkBytes(t, "P11.1: the answer to 9", l.Function("x", "\x09", 1), 1)
	checkBytes(t, "P11.1: the partner of 9", l.Forward("x", []byte{9}), 2)
	checkBytes(t, "P11.1: whose partner 9 is", l.Backward("x", []byte{9}), 3)
	checkBytes(t, "P11.1: the answer to 2", l.Function("x", "\x02", 1), 0)
	checkState(t, l, false, 4, 0)
}

// All texts of one byte get partners, by questions on both sides: the last ones take the few that are left.
func TestWholePermutation(t *testing.T) {
	r := source()
	for round := range 60 {
		b := newBoth(randomBytes(r, 256*(round%3)/2))
		order := r.Perm(256)
		for i, x := range order {
			kind := forward
			if round%2 == 1 && i%2 == 1 {
				kind = backward
			}
			b.check(t, call{kind, "p", string([]byte{byte(x)}), 0})
		}
		checkPairs(t, b.l, order)
	}
}

// checkPairs expects that each text of one byte has a partner, that all of them differ, and that both directions agree.
func checkPairs(t *testing.T, l *tape.Lazy, order []int) {
	t.Helper()
	seen := map[string]int{}
	for _, x := range order {
		text := []byte{byte(x)}
		y := l.Forward("p", text)
		if other, ok := seen[string(y)]; ok {
			t.Errorf("P11.2: %d and %d have the same partner", x, other)
		}
		seen[string(y)] = x
		checkBytes(t, "P11.2: Backward of Forward", l.Backward("p", y), text...)
		checkBytes(t, "P11.2: Forward of Backward", l.Forward("p", l.Backward("p", text)), text...)
	}
	if len(seen) != 256 {
		t.Errorf("P11.2: there are %d partners", len(seen))
	}
	if queries := l.Queries(); queries > 256 {
		t.Errorf("P11.1: %d questions drew something, for 256 pairs", queries)
	}
}

// After the tape's end the texts are paired in order; each question must not pass all pairs again.
func TestPermutationAfterTheEnd(t *testing.T) {
	for _, kind := range []int{forward, backward} {
		l := tape.New(nil)
		for i := range 1 << 16 {
			text := []byte{byte(i), byte(i >> 8)}
			got := call{kind, "p", string(text), 0}.of(l)
			if !bytes.Equal(got, []byte{byte(i >> 8), byte(i)}) {
				t.Fatalf("P11.1: the partner of %v is %v", text, got)
			}
		}
		checkState(t, l, true, 1<<16, 0)
	}
}

// The pairs are made from the greatest to the least, so that no draw meets one; afterwards each draw begins before all of them.
func TestRunMadeBackwards(t *testing.T) {
	const n = 1 << 15
	var seed []byte
	for i := n; i > 0; i-- {
		seed = append(seed, byte(i>>8), byte(i))
	}
	l := tape.New(seed)
	for i := range 2*n - 1 {
		text, want := []byte{byte(i >> 8), byte(i)}, n-i
		if i == n {
			want = 0
		} else if i > n {
			want = i
		}
		if got := l.Forward("p", text); !bytes.Equal(got, []byte{byte(want >> 8), byte(want)}) {
			t.Fatalf("P11.1: the partner of %v is %v, want %d", text, got, want)
		}
	}
}

// randomCall is a call whose name, text and length are often those of another one.
func randomCall(r *rand.Rand) call {
	names := []string{"p", "q", ""}
	c := call{r.IntN(allKinds), names[r.IntN(len(names))], string(randomBytes(r, r.IntN(3))), r.IntN(4) - 1}
	if c.kind == drawing && r.IntN(4) > 0 {
		c.kind = forward
	}
	return c
}

// Tapes of few different bytes, and of many zeros and greatest bytes, make draws that meet pairs and pass the greatest text.
func randomTape(r *rand.Rand) []byte {
	seed := randomBytes(r, r.IntN(800))
	switch r.IntN(4) {
	case 0:
		for i := range seed {
			seed[i] %= 3
		}
	case 1:
		for i := range seed {
			seed[i] |= 0xf8
		}
	}
	return seed
}

func TestRandomCalls(t *testing.T) {
	r := source()
	for range 150 {
		b := newBoth(randomTape(r))
		for range 500 {
			b.check(t, randomCall(r))
		}
	}
}

// One name and texts of one byte: nearly all are paired in the end.
func TestCrowdedPermutations(t *testing.T) {
	r := source()
	for range 60 {
		b := newBoth(randomTape(r))
		for range 400 {
			b.check(t, call{forward + r.IntN(2), "p", string(randomBytes(r, 1)), 0})
		}
	}
}

// Few different answers: Bad becomes true at the same call as the model's.
func TestCrowdedFunctions(t *testing.T) {
	r := source()
	for range 2000 {
		b := newBoth(randomBytes(r, 30))
		for range 20 {
			b.check(t, call{function, []string{"f", "g"}[r.IntN(2)], string(randomBytes(r, 1)), 1 + r.IntN(2)})
		}
	}
}

// Whole blocks and units, as the oracle draws them.
func TestBlocksAndUnits(t *testing.T) {
	r := source()
	b := newBoth(randomBytes(r, 20000))
	for range 300 {
		n := []int{16, 64, 512}[r.IntN(3)]
		x := randomBytes(r, n)
		y := b.l.Forward("unit", x)
		checkBytes(t, "P11.1: a unit's partner", y, b.m.forward("unit", x)...)
		checkBytes(t, "P11.2: Backward of Forward", b.l.Backward("unit", y), x...)
		b.check(t, call{backward, "unit", string(randomBytes(r, n)), 0})
		b.check(t, call{function, "seal", string(randomBytes(r, n)), 64})
	}
}

// The answers that a run of calls gave are given again, in any order, and nothing more is drawn.
func TestAnswersStay(t *testing.T) {
	r := source()
	for range 40 {
		l := tape.New(randomTape(r))
		var calls []call
		var answers [][]byte
		for range 200 {
			c := randomCall(r)
			if c.kind != drawing {
				calls, answers = append(calls, c), append(answers, c.of(l))
			}
		}
		bad, queries := l.Bad(), l.Queries()
		for _, i := range r.Perm(len(calls)) {
			c := calls[i]
			c.n = r.IntN(10) - 2
			checkBytes(t, "P11.2: the answer again to "+c.String(), c.of(l), answers[i]...)
			checkBack(t, l, c, answers[i])
		}
		if l.Bad() != bad || l.Queries() != queries {
			t.Errorf("P11.2: questions that were answered make %d queries %d", queries, l.Queries())
		}
	}
}

// checkBack asks for the partner of a partner.
func checkBack(t *testing.T, l *tape.Lazy, c call, answer []byte) {
	t.Helper()
	switch c.kind {
	case forward:
		checkBytes(t, "P11.2: Backward of Forward", l.Backward(c.name, answer), []byte(c.query)...)
	case backward:
		checkBytes(t, "P11.2: Forward of Backward", l.Forward(c.name, answer), []byte(c.query)...)
	}
}

// The same calls have the same results, whatever calls others get between them.
func TestTapeAndQuestionsAlone(t *testing.T) {
	r := source()
	for range 40 {
		seed := randomTape(r)
		one, two, other := tape.New(seed), tape.New(seed), tape.New(randomTape(r))
		for range 300 {
			c := randomCall(r)
			got := c.of(one)
			randomCall(r).of(other)
			checkBytes(t, "P11.3: the other result of "+c.String(), c.of(two), got...)
		}
		if one.Bad() != two.Bad() || one.Queries() != two.Queries() {
			t.Errorf("P11.3: the same calls end differently")
		}
	}
}

// spoil changes all of a slice, and what its capacity has behind it.
func spoil(b []byte) {
	b = b[:cap(b)]
	for i := range b {
		b[i] ^= 0xff
	}
}

// Every result is changed as soon as it is there, and every argument as soon as it was used.
func TestResultsAreNewMemory(t *testing.T) {
	r := source()
	for range 40 {
		seed := randomTape(r)
		b := newBoth(seed)
		spoil(seed)
		for range 300 {
			c := randomCall(r)
			text := []byte(c.query)
			var got []byte
			switch c.kind {
			case forward:
				got = b.l.Forward(c.name, text)
			case backward:
				got = b.l.Backward(c.name, text)
			default:
				got = c.of(b.l)
			}
			checkBytes(t, "P11.3: the result of "+c.String(), got, c.ofModel(b.m)...)
			if string(text) != c.query {
				t.Errorf("P11.3: %s changes its argument", c)
			}
			spoil(got)
			spoil(text)
		}
	}
}

// Two results of the same question do not share memory; nor do draws with what is drawn next.
func TestResultsDoNotShare(t *testing.T) {
	l := tape.New(counted(100))
	for range 2 {
		for _, c := range []call{{function, "f", "a", 3}, {forward, "p", "abc", 0}, {backward, "p", "abc", 0}} {
			first, second := c.of(l), c.of(l)
			keep := bytes.Clone(first)
			spoil(second)
			checkBytes(t, "P11.3: the first result of "+c.String(), first, keep...)
		}
	}
	one := l.Draw(5)
	spoil(one)
	checkBytes(t, "P11.3: what is drawn behind a result that was changed", l.Draw(5), 14, 15, 16, 17, 18)
}

// The arguments are pieces of a larger slice, so that a write before them or into their spare capacity is seen.
func TestArgumentsStay(t *testing.T) {
	r := source()
	for n := range 70 {
		around := bytes.Repeat([]byte{'x'}, 100)
		whole := slices.Concat(around, randomBytes(r, n), around)
		before := bytes.Clone(whole)
		text := whole[100 : 100+n]
		l := tape.New(text)
		for range 2 {
			l.Draw(n / 2)
			l.Forward("p", text)
			l.Backward("p", text)
			l.Draw(2 * n)
		}
		if !bytes.Equal(whole, before) {
			t.Errorf("P11.3: an argument of %d bytes is changed, or what is around it", n)
		}
		checkBytes(t, "P11.3: the tape's spare capacity is no part of it", tape.New(text).Draw(n + 100)[n:], make([]byte, 100)...)
	}
}

// The tape is not the slice that New was given.
func TestTapeIsNotKept(t *testing.T) {
	seed := counted(20)
	l := tape.New(seed)
	checkBytes(t, "P11.3: a draw", l.Draw(5), 0, 1, 2, 3, 4)
	spoil(seed)
	checkBytes(t, "P11.3: a draw when the argument was changed", l.Draw(5), 5, 6, 7, 8, 9)
	checkBytes(t, "P11.3: the argument's use for other tables", tape.New(seed).Draw(2), 255, 254)
}

// source has a fixed seed: each run of the tests tries the same inputs.
func source() *rand.Rand { return rand.New(rand.NewPCG(1, 2)) }

func randomBytes(r *rand.Rand, n int) []byte {
	b := make([]byte, n)
	for i := range b {
		b[i] = byte(r.Uint32())
	}
	return b
}

// counted returns n bytes from 0 on.
func counted(n int) []byte {
	b := make([]byte, n)
	for i := range b {
		b[i] = byte(i)
	}
	return b
}
