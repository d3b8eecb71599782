package octets_test

import (
	"bytes"
	"math"
	"math/rand/v2"
	"strings"
	"testing"

	"turnkey/octets"
)

func TestLay(t *testing.T) {
	for _, c := range []struct {
		n, size int
		want    []byte
	}{
		{258, 3, []byte{0, 1, 2}},
		{0, 1, []byte{0}},
		{1, 1, []byte{1}},
		{255, 1, []byte{255}},
		{256, 1, []byte{0}},
		{0x1234567, 2, []byte{0x45, 0x67}},
		{0x0102030405060708, 8, []byte{1, 2, 3, 4, 5, 6, 7, 8}},
		{0x0102030405060708, 7, []byte{2, 3, 4, 5, 6, 7, 8}},
		{-1, 1, []byte{255}},
		{-2, 3, []byte{255, 255, 254}},
		{math.MinInt, 8, []byte{128, 0, 0, 0, 0, 0, 0, 0}},
		{math.MaxInt, 8, []byte{127, 255, 255, 255, 255, 255, 255, 255}},
		{math.MinInt, 7, make([]byte, 7)},
		{5, 0, nil},
		{5, -1, nil},
		{5, math.MinInt, nil},
		{5, 9, []byte{0, 0, 0, 0, 0, 0, 0, 5}},
		{-5, 9, []byte{255, 255, 255, 255, 255, 255, 255, 251}},
		{5, math.MaxInt, []byte{0, 0, 0, 0, 0, 0, 0, 5}},
	} {
		if got := octets.Lay(c.n, c.size); !bytes.Equal(got, c.want) {
			t.Errorf("P1.1: Lay(%d, %d) = %v, want %v", c.n, c.size, got, c.want)
		}
	}
}

func TestNumber(t *testing.T) {
	for _, c := range []struct {
		bs   []byte
		want int
	}{
		{nil, 0},
		{[]byte{}, 0},
		{[]byte{0}, 0},
		{[]byte{255}, 255},
		{[]byte{1, 0}, 256},
		{[]byte{0, 1, 2}, 258},
		{[]byte{255, 255, 255, 255, 255, 255, 255}, 1<<56 - 1},
		{[]byte{1, 2, 3, 4, 5, 6, 7, 8}, 0x0102030405060708},
		{[]byte{127, 255, 255, 255, 255, 255, 255, 255}, math.MaxInt},
		{[]byte{128, 0, 0, 0, 0, 0, 0, 0}, math.MinInt},
		{[]byte{255, 255, 255, 255, 255, 255, 255, 255}, -1},
		{[]byte{9, 0, 0, 0, 0, 0, 0, 0, 7}, 7},
		{[]byte{255, 255, 128, 0, 0, 0, 0, 0, 0, 1}, math.MinInt + 1},
	} {
		if got := octets.Number(c.bs...); got != c.want {
			t.Errorf("P1.1: Number(%v) = %d, want %d", c.bs, got, c.want)
		}
	}
	if got := octets.Number(); got != 0 {
		t.Errorf("P1.1: Number() = %d", got)
	}
}

func TestXor(t *testing.T) {
	for _, c := range []struct{ a, b, want []byte }{
		{nil, nil, nil},
		{[]byte{1}, nil, nil},
		{nil, []byte{1}, nil},
		{[]byte{0x0f}, []byte{0xff}, []byte{0xf0}},
		{[]byte{1, 2, 3}, []byte{255, 2}, []byte{254, 0}},
		{[]byte{255, 2}, []byte{1, 2, 3}, []byte{254, 0}},
		{[]byte{1, 2, 3}, []byte{1, 2, 3}, []byte{0, 0, 0}},
	} {
		if got := octets.Xor(c.a, c.b); !bytes.Equal(got, c.want) {
			t.Errorf("P1.2: Xor(%v, %v) = %v, want %v", c.a, c.b, got, c.want)
		}
	}
}

func TestSame(t *testing.T) {
	for _, c := range []struct {
		a, b []byte
		want bool
	}{
		{nil, nil, true},
		{nil, []byte{}, true},
		{[]byte{}, nil, true},
		{[]byte{0}, nil, false},
		{nil, []byte{0}, false},
		{[]byte{0}, []byte{0, 0}, false},
		{[]byte("ab"), []byte("ab"), true},
		{[]byte("ab"), []byte("abc"), false},
		{[]byte("abc"), []byte("ab"), false},
		// Two differences that cancel each other out if they are summed or XORed.
		{[]byte{1, 2}, []byte{2, 1}, false},
		{[]byte{1, 1}, []byte{2, 2}, false},
	} {
		if got := octets.Same(c.a, c.b); got != c.want {
			t.Errorf("P1.2: Same(%v, %v) = %t", c.a, c.b, got)
		}
	}
}

func TestSameSeesEachBit(t *testing.T) {
	a := []byte("the tag of a sector has 32 bytes")
	for bit := range 8 * len(a) {
		b := bytes.Clone(a)
		if !octets.Same(a, b) {
			t.Fatalf("P1.2: a copy differs")
		}
		b[bit/8] ^= 1 << (bit % 8)
		if octets.Same(a, b) || octets.Same(b, a) {
			t.Errorf("P1.2: bit %d is not seen", bit)
		}
	}
}

func TestSameSeesLengths(t *testing.T) {
	// The lengths' low bytes are equal, and the longer one ends in zeros.
	for _, n := range []int{1, 255, 256, 512, 65536} {
		short, long := make([]byte, 3), make([]byte, 3+n)
		if octets.Same(short, long) || octets.Same(long, short) {
			t.Errorf("P1.2: %d zeros more are not seen", n)
		}
	}
}

func TestCut(t *testing.T) {
	for _, c := range []struct {
		b    string
		size int
		want string // the pieces, joined by |
	}{
		{"abcde", 2, "ab|cd|e"},
		{"abcd", 2, "ab|cd"},
		{"abc", 1, "a|b|c"},
		{"abc", 3, "abc"},
		{"abc", 4, "abc"},
		{"abc", math.MaxInt, "abc"},
	} {
		got := string(bytes.Join(octets.Cut([]byte(c.b), c.size), []byte("|")))
		if got != c.want {
			t.Errorf("P1.3: Cut(%q, %d) = %q, want %q", c.b, c.size, got, c.want)
		}
	}
}

func TestCutIntoNothing(t *testing.T) {
	for _, c := range []struct {
		b    []byte
		size int
	}{
		{nil, 2}, {[]byte{}, 2}, {nil, 0}, {nil, math.MaxInt},
		{[]byte("a"), 0}, {[]byte("a"), -1}, {[]byte("a"), math.MinInt},
	} {
		if got := octets.Cut(c.b, c.size); len(got) != 0 {
			t.Errorf("P1.3: Cut(%q, %d) = %q", c.b, c.size, got)
		}
	}
}

func TestFill(t *testing.T) {
	for _, c := range []struct {
		b    string
		size int
		want string
	}{
		{"", 0, ""},
		{"", 2, "\x00\x00"},
		{"a", 3, "a\x00\x00"},
		{"abc", 3, "abc"},
		{"abc", 2, "abc"},
		{"abc", 0, "abc"},
		{"abc", -1, "abc"},
		{"abc", math.MinInt, "abc"},
		{"a", 512, "a" + strings.Repeat("\x00", 511)},
	} {
		if got := octets.Fill([]byte(c.b), c.size); string(got) != c.want {
			t.Errorf("P1.3: Fill(%q, %d) = %q, want %q", c.b, c.size, got, c.want)
		}
	}
	if got := octets.Fill(nil, 2); string(got) != "\x00\x00" {
		t.Errorf("P1.3: Fill(nil, 2) = %q", got)
	}
}

func TestFillIgnoresSpareCapacity(t *testing.T) {
	b := []byte("abcdef")[:2]
	if got := octets.Fill(b, 4); string(got) != "ab\x00\x00" {
		t.Errorf("P1.3: Fill pads with %q", got)
	}
}

// Nothing is promised of a result that large, but no call of the document may panic.
func TestFillDoesNotPanic(t *testing.T) {
	for _, size := range []int{1 << 31, 1 << 50, math.MaxInt} {
		if got := octets.Fill([]byte("ab"), size); !bytes.HasPrefix(got, []byte("ab")) {
			t.Errorf("Fill(ab, %d) = %q", size, got)
		}
	}
}

func TestHex(t *testing.T) {
	for _, c := range []struct {
		b    []byte
		want string
	}{
		{nil, ""},
		{[]byte{}, ""},
		{[]byte{0, 255}, "00ff"},
		{[]byte{0x01, 0x23, 0x45, 0x67, 0x89, 0xab, 0xcd, 0xef}, "0123456789abcdef"},
		{[]byte{0x10, 0x0a, 0xa0}, "100aa0"},
	} {
		if got := octets.Hex(c.b); got != c.want {
			t.Errorf("P1.4: Hex(%v) = %q, want %q", c.b, got, c.want)
		}
	}
}

// Every text of two bytes is tried: those of two digits have a byte, and no other has one.
func TestUnhexOfTwoBytes(t *testing.T) {
	const digits = "0123456789abcdef"
	for i := range 1 << 16 {
		s := string([]byte{byte(i >> 8), byte(i)})
		high, low := strings.IndexByte(digits, s[0]), strings.IndexByte(digits, s[1])
		got, ok := octets.Unhex(s)
		if high < 0 || low < 0 {
			if ok || len(got) != 0 {
				t.Errorf("P1.4: Unhex(%q) = %v, %t", s, got, ok)
			}
			continue
		}
		if !ok || len(got) != 1 || got[0] != byte(16*high+low) {
			t.Errorf("P1.4: Unhex(%q) = %v, %t", s, got, ok)
		}
	}
}

func TestUnhexOfOtherLengths(t *testing.T) {
	if got, ok := octets.Unhex(""); !ok || len(got) != 0 {
		t.Errorf("P1.4: Unhex of nothing = %v, %t", got, ok)
	}
	if got, ok := octets.Unhex("00ff1a"); !ok || string(got) != "\x00\xff\x1a" {
		t.Errorf("P1.4: Unhex(00ff1a) = %v, %t", got, ok)
	}
	for _, s := range []string{"0", "f", "000", "00f", "00ff1", "g", "0g00", "000g", "00FF", "0x00", "00 0", "00\n0", "00é", "٠٠", " 00 ", "-1", "+1", "00ff\x00\x00"} {
		if got, ok := octets.Unhex(s); ok || len(got) != 0 {
			t.Errorf("P1.4: Unhex(%q) = %v, %t", s, got, ok)
		}
	}
}

func TestUnhexOfHex(t *testing.T) {
	for _, b := range samples() {
		s := octets.Hex(b)
		if len(s) != 2*len(b) {
			t.Errorf("P1.4: Hex of %d bytes has %d digits", len(b), len(s))
		}
		if got, ok := octets.Unhex(s); !ok || !bytes.Equal(got, b) {
			t.Errorf("P1.4: Unhex(Hex(%v)) = %v, %t", b, got, ok)
		}
	}
}

func TestNumberOfLay(t *testing.T) {
	r := source()
	for size := 1; size <= 8; size++ {
		for range 200 {
			n := int(r.Uint64())
			if size < 8 {
				n &= 1<<(8*size) - 1
			}
			if got := octets.Number(octets.Lay(n, size)...); got != n {
				t.Errorf("P1.5: Number(Lay(%d, %d)) = %d", n, size, got)
			}
		}
	}
}

func TestLayOfNumber(t *testing.T) {
	for _, b := range samples() {
		b = b[:min(len(b), 8)]
		if got := octets.Lay(octets.Number(b...), len(b)); !bytes.Equal(got, b) {
			t.Errorf("P1.5: Lay(Number(%v)) = %v", b, got)
		}
	}
}

func TestPiecesAreTheWhole(t *testing.T) {
	for _, b := range samples() {
		for _, size := range []int{1, 2, 3, 7, 16, 64, 1000} {
			pieces := octets.Cut(b, size)
			if !bytes.Equal(bytes.Join(pieces, nil), b) {
				t.Errorf("P1.5: the pieces of %d bytes, by %d, are not the whole", len(b), size)
			}
			if len(pieces) != (len(b)+size-1)/size {
				t.Errorf("P1.3: %d bytes, by %d: %d pieces", len(b), size, len(pieces))
			}
			for i, p := range pieces {
				if len(p) != size && i < len(pieces)-1 {
					t.Errorf("P1.3: %d bytes, by %d: piece %d has %d", len(b), size, i, len(p))
				}
			}
		}
	}
}

func TestXorTwice(t *testing.T) {
	r := source()
	for _, a := range samples() {
		b := randomBytes(r, len(a)+3)
		if got := octets.Xor(octets.Xor(a, b), b); !bytes.Equal(got, a) {
			t.Errorf("P1.5: XORing %v twice gives %v", a, got)
		}
		if !bytes.Equal(octets.Xor(a, b), octets.Xor(b, a)) {
			t.Errorf("P1.2: Xor of %v and %v depends on their order", a, b)
		}
	}
}

// argument is a piece of a larger slice, so that a write before it or into its spare capacity is seen.
type argument struct{ whole, before []byte }

func newArgument(text string) argument {
	whole := []byte("<<<<" + text + ">>>>>>>>>>>>>>>>")
	return argument{whole, bytes.Clone(whole)}
}

func (a argument) bytes() []byte { return a.whole[4 : len(a.whole)-16] }

func (a argument) unchanged() bool { return bytes.Equal(a.whole, a.before) }

func (a argument) spoil() { spoil(a.whole) }

// spoil changes all of a slice, with its spare capacity.
func spoil(b []byte) {
	b = b[:cap(b)]
	for i := range b {
		b[i] ^= 0xff
	}
}

// calls are those whose results are slices of bytes made of others.
func calls() map[string]func(a, b []byte) [][]byte {
	one := func(b []byte) [][]byte { return [][]byte{b} }
	return map[string]func(a, b []byte) [][]byte{
		"Xor":       func(a, b []byte) [][]byte { return one(octets.Xor(a, b)) },
		"Cut":       func(a, b []byte) [][]byte { return octets.Cut(a, 2) },
		"Cut whole": func(a, b []byte) [][]byte { return octets.Cut(a, len(a)) },
		"Fill more": func(a, b []byte) [][]byte { return one(octets.Fill(a, len(a)+8)) },
		"Fill same": func(a, b []byte) [][]byte { return one(octets.Fill(a, len(a))) },
		"Fill less": func(a, b []byte) [][]byte { return one(octets.Fill(a, 1)) },
		"Fill none": func(a, b []byte) [][]byte { return one(octets.Fill(a, -1)) },
	}
}

func cloneAll(l [][]byte) [][]byte {
	var out [][]byte
	for _, b := range l {
		out = append(out, bytes.Clone(b))
	}
	return out
}

func sameAll(a, b [][]byte) bool {
	if len(a) != len(b) {
		return false
	}
	for i := range a {
		if !bytes.Equal(a[i], b[i]) {
			return false
		}
	}
	return true
}

func TestResultsAreNewMemory(t *testing.T) {
	for name, call := range calls() {
		a, b := newArgument("abcdefg"), newArgument("ABCDEFG")
		got := call(a.bytes(), b.bytes())
		if !a.unchanged() || !b.unchanged() {
			t.Errorf("P1.5: %s changes an argument", name)
		}
		for _, x := range got {
			spoil(x)
		}
		if !a.unchanged() || !b.unchanged() {
			t.Errorf("P1.5: %s returns memory of an argument", name)
		}
	}
}

func TestArgumentsAreNotKept(t *testing.T) {
	for name, call := range calls() {
		a, b := newArgument("abcdefg"), newArgument("ABCDEFG")
		got := call(a.bytes(), b.bytes())
		want := cloneAll(got)
		a.spoil()
		b.spoil()
		if !sameAll(got, want) {
			t.Errorf("P1.5: the result of %s changes with an argument", name)
		}
		again := call(newArgument("abcdefg").bytes(), newArgument("ABCDEFG").bytes())
		for _, x := range got {
			spoil(x)
		}
		if !sameAll(again, want) {
			t.Errorf("P1.5: two results of %s share memory", name)
		}
	}
}

func TestOtherCallsLeaveArguments(t *testing.T) {
	a, b := newArgument("abcdefg"), newArgument("abcdefg")
	octets.Number(a.bytes()...)
	octets.Same(a.bytes(), b.bytes())
	octets.Same(a.bytes()[:3], b.bytes())
	octets.Hex(a.bytes())
	octets.Xor(a.bytes(), a.bytes())
	octets.Cut(a.bytes(), 0)
	if !a.unchanged() || !b.unchanged() {
		t.Errorf("P1.5: an argument is changed")
	}
}

func TestPiecesShareNoMemory(t *testing.T) {
	for size := 1; size <= 5; size++ {
		pieces := octets.Cut([]byte("abcdefghijk"), size)
		for i := range pieces {
			want := cloneAll(pieces)
			spoil(pieces[i])
			spoil(want[i][:len(want[i]):len(want[i])])
			if !sameAll(pieces, want) {
				t.Errorf("P1.5: piece %d of %d bytes shares memory with another one", i, size)
			}
		}
	}
}

func TestResultsWithoutArgumentsAreNewMemory(t *testing.T) {
	spoil(octets.Lay(258, 3))
	if got := octets.Lay(258, 3); !bytes.Equal(got, []byte{0, 1, 2}) {
		t.Errorf("P1.5: two results of Lay share memory: %v", got)
	}
	b, _ := octets.Unhex("00ff")
	spoil(b)
	if got, ok := octets.Unhex("00ff"); !ok || !bytes.Equal(got, []byte{0, 255}) {
		t.Errorf("P1.5: two results of Unhex share memory: %v", got)
	}
}

// source has a fixed seed: each run of the tests tries the same inputs.
func source() *rand.Rand { return rand.New(rand.NewPCG(1, 2)) }

func randomBytes(r *rand.Rand, n int) []byte {
	b := make([]byte, n)
	for i := range b {
		b[i] = byte(r.Uint32())
	}
	return b
}

// samples are byte sequences of all lengths up to 70.
func samples() [][]byte {
	r := source()
	var out [][]byte
	for n := range 71 {
		out = append(out, randomBytes(r, n))
	}
	return out
}
