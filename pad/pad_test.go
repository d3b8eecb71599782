package pad_test

import (
	"bytes"
	"math"
	"math/rand/v2"
	"slices"
	"strings"
	"testing"

	"turnkey/api"
	"turnkey/pad"
)

const maxName = 96

func bothUnits() []int { return []int{16, 32} }

// isName is Name by the words of the chapter, byte by byte.
func isName(s string) bool {
	for i := range len(s) {
		if s[i] == 0 || s[i] == '/' {
			return false
		}
	}
	dots := s == "." || s == ".."
	return !dots && 1 <= len(s) && len(s) <= maxName
}

// padded is the padded name: zeros follow, one by one, until the length is a multiple of the unit.
func padded(s string, unit int) []byte {
	b := []byte(s)
	for len(b)%unit != 0 {
		b = append(b, 0)
	}
	return b
}

// stripped is the name of which b is the padded form: each beginning of b is tried with each unit.
func stripped(b []byte) (string, bool) {
	for n := range min(len(b), maxName) + 1 {
		s := string(b[:n])
		for _, unit := range bothUnits() {
			if isName(s) && bytes.Equal(padded(s, unit), b) {
				return s, true
			}
		}
	}
	return "", false
}

func checkName(t *testing.T, s string) {
	t.Helper()
	if got, want := pad.Name(s), isName(s); got != want {
		t.Errorf("P10.1: Name(%q) = %t", s, got)
	}
}

// checkFill expects the padded name; for what is not a name no bytes and the error.
func checkFill(t *testing.T, s string, unit int) {
	t.Helper()
	got, err := pad.Fill(s, unit)
	if !isName(s) || !slices.Contains(bothUnits(), unit) {
		if err != api.ErrArg || len(got) != 0 {
			t.Errorf("P10.1: Fill(%q, %d) = %q, %d, want the error %d", s, unit, got, err, api.ErrArg)
		}
		return
	}
	if want := padded(s, unit); err != api.OK || !bytes.Equal(got, want) {
		t.Errorf("P10.1: Fill(%q, %d) = %q, %d, want %q", s, unit, got, err, want)
	}
}

func checkStrip(t *testing.T, b []byte) {
	t.Helper()
	got, ok := pad.Strip(b)
	if want, wanted := stripped(b); got != want || ok != wanted {
		t.Errorf("P10.2: Strip(%q) = %q, %t, want %q, %t", b, got, ok, want, wanted)
	}
}

func TestName(t *testing.T) {
	for _, c := range []struct {
		s    string
		want bool
	}{
		{"", false},
		{"a", true},
		{"abc", true},
		{".", false},
		{"..", false},
		{"...", true},
		{"....", true},
		{".a", true},
		{"a.", true},
		{"..a", true},
		{"a..", true},
		{". ", true},
		{" .", true},
		{" ", true},
		{"/", false},
		{"a/", false},
		{"/a", false},
		{"a/b", false},
		{"./", false},
		{"../a", false},
		{`\`, true},
		{"\x00", false},
		{"a\x00", false},
		{"\x00a", false},
		{"a\x00b", false},
		{".\x00", false},
		{"..\x00", false},
		{"0", true},
		{"\n", true},
		{"\x7f", true},
		{"\xff", true},
		{"\xc0\x80", true},        // zero, as no text may encode it
		{"\xc0\xaf", true},        // /, likewise
		{"\xe2\x81\x84", true},    // another character that looks like /
		{"\xc3/", false},          // / in place of the rest of a character
		{"\xf0\x9f/\x98", false},  // likewise
		{"\xff\xfe\xfd/", false},  // / behind what is no text
		{"\xef\xbf\xbd", true},    // the character for what is no text
		{"\xe2\x80\xa4", true},    // another character that looks like .
		{"-rf *; \"$'`\t", true},  // what a shell would mind
		{"caf\xc3\xa9.txt", true}, // a character of two bytes
	} {
		if got := pad.Name(c.s); got != c.want {
			t.Errorf("P10.1: Name(%q) = %t", c.s, got)
		}
	}
}

func TestNamesOfAllLengths(t *testing.T) {
	for n := range 1200 {
		for _, x := range []string{"x", ".", "\xff", " ", "/", "\x00"} {
			checkName(t, strings.Repeat(x, n))
		}
	}
}

// The limit is one of bytes, not of characters.
func TestLongNames(t *testing.T) {
	for _, c := range []struct {
		s    string
		want bool
	}{
		{strings.Repeat("x", 95), true},
		{strings.Repeat("x", 96), true},
		{strings.Repeat("x", 97), false},
		{strings.Repeat("é", 48), true},
		{strings.Repeat("é", 49), false},
		{strings.Repeat("x", 95) + "é", false},
		{strings.Repeat("€", 32), true},
		{strings.Repeat("€", 33), false},
		{strings.Repeat("x", 1<<20), false},
	} {
		if got := pad.Name(c.s); got != c.want {
			t.Errorf("P10.1: Name of %d bytes = %t", len(c.s), got)
		}
	}
}

// Every text of one and of two bytes is tried.
func TestShortNames(t *testing.T) {
	for i := range 256 {
		checkName(t, string([]byte{byte(i)}))
		for j := range 256 {
			checkName(t, string([]byte{byte(i), byte(j)}))
		}
	}
}

// Every byte is tried at every place of names of several lengths.
func TestEachByteOfNames(t *testing.T) {
	for _, n := range []int{3, 8, 9, 15, 16, 17, 32, 95, 96, 97} {
		for i := range n {
			b := bytes.Repeat([]byte{'.'}, n)
			for x := range 256 {
				b[i] = byte(x)
				checkName(t, string(b))
			}
		}
	}
}

func TestSize(t *testing.T) {
	for _, c := range []struct{ n, unit, want int }{
		{1, 16, 16}, {15, 16, 16}, {16, 16, 16},
		{17, 16, 32}, {32, 16, 32},
		{33, 16, 48}, {48, 16, 48},
		{49, 16, 64}, {64, 16, 64},
		{65, 16, 80}, {80, 16, 80},
		{81, 16, 96}, {95, 16, 96}, {96, 16, 96},
		{1, 32, 32}, {16, 32, 32}, {17, 32, 32}, {31, 32, 32}, {32, 32, 32},
		{33, 32, 64}, {48, 32, 64}, {64, 32, 64},
		{65, 32, 96}, {80, 32, 96}, {96, 32, 96},
		{0, 16, 0}, {0, 32, 0}, {-1, 16, 0}, {-16, 16, 0}, {-32, 32, 0},
		{97, 16, 0}, {97, 32, 0}, {112, 16, 0}, {128, 32, 0},
		{1, 0, 0}, {1, 1, 0}, {1, 15, 0}, {1, 17, 0}, {1, 31, 0}, {1, 33, 0}, {1, 48, 0}, {1, 64, 0}, {1, -16, 0}, {1, -32, 0},
		{16, 8, 0}, {0, 0, 0}, {97, 8, 0}, {-1, -1, 0},
	} {
		if got := pad.Size(c.n, c.unit); got != c.want {
			t.Errorf("P10.1: Size(%d, %d) = %d, want %d", c.n, c.unit, got, c.want)
		}
	}
}

// numbers are those around zero and the limits, and the extreme ones.
func numbers() []int {
	out := []int{math.MinInt, math.MinInt + 1, math.MinInt + 16, math.MaxInt - 31, math.MaxInt - 1, math.MaxInt, 1<<32 + 16, 1<<32 + 32, 1 << 32, -1 << 32}
	for n := -300; n <= 300; n++ {
		out = append(out, n)
	}
	return out
}

func TestAllSizes(t *testing.T) {
	for _, n := range numbers() {
		for _, unit := range numbers() {
			want := 0
			if slices.Contains(bothUnits(), unit) && 1 <= n && n <= maxName {
				want = len(padded(strings.Repeat("x", n), unit))
			}
			if got := pad.Size(n, unit); got != want {
				t.Errorf("P10.1: Size(%d, %d) = %d, want %d", n, unit, got, want)
			}
		}
	}
}

func TestFill(t *testing.T) {
	for _, c := range []struct {
		s    string
		unit int
		want string
	}{
		{"abc", 16, "abc\x00\x00\x00\x00\x00\x00\x00\x00\x00\x00\x00\x00\x00"},
		{"abc", 32, "abc" + strings.Repeat("\x00", 29)},
		{"fifteen letters", 16, "fifteen letters\x00"},
		{"sixteen letters!", 16, "sixteen letters!"},
		{"sixteen letters!", 32, "sixteen letters!" + strings.Repeat("\x00", 16)},
		{"seventeen letters", 16, "seventeen letters" + strings.Repeat("\x00", 15)},
		{strings.Repeat("x", 96), 16, strings.Repeat("x", 96)},
		{strings.Repeat("x", 96), 32, strings.Repeat("x", 96)},
		{strings.Repeat("x", 95), 16, strings.Repeat("x", 95) + "\x00"},
		{"\xff\xfe", 16, "\xff\xfe" + strings.Repeat("\x00", 14)},
		{"...", 16, "..." + strings.Repeat("\x00", 13)},
	} {
		if got, err := pad.Fill(c.s, c.unit); err != api.OK || string(got) != c.want {
			t.Errorf("P10.1: Fill(%q, %d) = %q, %d, want %q", c.s, c.unit, got, err, c.want)
		}
	}
}

func TestFillRefuses(t *testing.T) {
	for _, c := range []struct {
		s    string
		unit int
	}{
		{"", 16}, {".", 16}, {"..", 32}, {"a/b", 16}, {"/", 32}, {"a\x00", 16}, {"\x00", 32},
		{strings.Repeat("x", 97), 16}, {strings.Repeat("x", 97), 32}, {strings.Repeat("x", 1<<20), 16},
		{"abc", 0}, {"abc", 1}, {"abc", 8}, {"abc", 15}, {"abc", 17}, {"abc", 48}, {"abc", 64}, {"abc", -16}, {"abc", -32},
		{"abc", math.MinInt}, {"abc", math.MaxInt}, {"abc", 1<<32 + 16},
		{"", 0}, {"..", -1}, {strings.Repeat("x", 97), 1},
	} {
		if got, err := pad.Fill(c.s, c.unit); err != api.ErrArg || len(got) != 0 {
			t.Errorf("P10.1: Fill(%q, %d) = %q, %d", c.s, c.unit, got, err)
		}
	}
}

func TestFillOfAllLengths(t *testing.T) {
	r := source()
	for n := range 300 {
		for _, unit := range numbers() {
			checkFill(t, randomName(r, n), unit)
		}
	}
}

// Every text of one and of two bytes is tried, and every byte at the ends of longer names.
func TestFillOfEachByte(t *testing.T) {
	for i := range 256 {
		checkFill(t, string([]byte{byte(i)}), 16)
		for j := range 256 {
			checkFill(t, string([]byte{byte(i), byte(j)}), 32)
		}
		for _, n := range []int{14, 15, 16, 30, 31, 32, 94, 95} {
			for _, unit := range bothUnits() {
				checkFill(t, strings.Repeat("x", n)+string([]byte{byte(i)}), unit)
				checkFill(t, string([]byte{byte(i)})+strings.Repeat("x", n), unit)
			}
		}
	}
}

func TestStrip(t *testing.T) {
	zeros := func(n int) string { return strings.Repeat("\x00", n) }
	for _, c := range []struct {
		b, want string
	}{
		{"abc" + zeros(13), "abc"},
		{"abc" + zeros(29), "abc"},
		{"sixteen letters!", "sixteen letters!"},
		{"sixteen letters!" + zeros(16), "sixteen letters!"},
		{"seventeen letters" + zeros(15), "seventeen letters"},
		{strings.Repeat("x", 33) + zeros(15), strings.Repeat("x", 33)},
		{strings.Repeat("x", 33) + zeros(31), strings.Repeat("x", 33)},
		{strings.Repeat("x", 95) + zeros(1), strings.Repeat("x", 95)},
		{strings.Repeat("x", 96), strings.Repeat("x", 96)},
		{"..." + zeros(13), "..."},
		{"\xff" + zeros(15), "\xff"},
	} {
		if got, ok := pad.Strip([]byte(c.b)); !ok || got != c.want {
			t.Errorf("P10.2: Strip(%q) = %q, %t, want %q", c.b, got, ok, c.want)
		}
	}
}

func TestStripRefuses(t *testing.T) {
	zeros := func(n int) string { return strings.Repeat("\x00", n) }
	for _, b := range []string{
		"",
		"abc",             // no padding
		"abc" + zeros(12), // too little of it
		"abc" + zeros(14), // too much of it
		"abc" + zeros(45), // a multiple of 16, but not the next one
		"abc" + zeros(61), // two units of 32
		"sixteen letters!" + zeros(32),
		strings.Repeat("x", 32) + zeros(16),
		strings.Repeat("x", 32) + zeros(32),
		strings.Repeat("x", 64) + zeros(32),
		strings.Repeat("x", 96) + zeros(16),
		strings.Repeat("x", 96) + zeros(32),
		strings.Repeat("x", 97) + zeros(15),
		strings.Repeat("x", 112),
		strings.Repeat("x", 128),
		strings.Repeat("x", 1<<20),
		zeros(1),
		zeros(16),
		zeros(32),
		zeros(48),
		zeros(96),
		zeros(1 << 20),
		"." + zeros(15),
		"." + zeros(31),
		".." + zeros(14),
		".." + zeros(30),
		"a/b" + zeros(13),
		"/" + zeros(15),
		"a\x00b" + zeros(13),       // a zero byte within
		zeros(1) + "a" + zeros(14), // one before
		zeros(15) + "a",
		"abc" + zeros(12) + "\x01", // other padding
		"abc" + strings.Repeat(" ", 12) + "/",
		"sixteen letters/",
	} {
		if got, ok := pad.Strip([]byte(b)); ok || got != "" {
			t.Errorf("P10.2: Strip(%q) = %q, %t", b, got, ok)
		}
	}
	if got, ok := pad.Strip(nil); ok || got != "" {
		t.Errorf("P10.2: Strip(nil) = %q, %t", got, ok)
	}
}

// Each length of a name is tried with each number of zeros behind it.
func TestStripOfAllLengths(t *testing.T) {
	r := source()
	for n := range 140 {
		b := []byte(randomName(r, n))
		for range 140 {
			checkStrip(t, b)
			b = append(b, 0)
		}
	}
}

// Every byte is tried at every place of a padded name, within the name and within the padding.
func TestStripOfEachByte(t *testing.T) {
	for _, n := range []int{1, 2, 3, 16, 17, 96} {
		for _, unit := range bothUnits() {
			whole := padded(strings.Repeat(".", n), unit)
			for i := range whole {
				b := bytes.Clone(whole)
				for x := range 256 {
					b[i] = byte(x)
					checkStrip(t, b)
				}
			}
		}
	}
}

// Texts of few different bytes, among them zeros, dots and slashes, are often names, and often none.
func TestStripOfRandomTexts(t *testing.T) {
	const letters = "\x00\x00\x00\x00\x00\x00.../a\xff"
	r := source()
	for range 20000 {
		n := 16 * r.IntN(8)
		b := make([]byte, n)
		for i := range min(n, r.IntN(20)) {
			b[i] = letters[r.IntN(len(letters))]
		}
		checkStrip(t, b)
	}
}

func TestStripOfFill(t *testing.T) {
	r := source()
	for range 50 {
		for n := 1; n <= maxName; n++ {
			for _, unit := range bothUnits() {
				s := randomName(r, n)
				b, err := pad.Fill(s, unit)
				if got, ok := pad.Strip(b); err != api.OK || !ok || got != s {
					t.Errorf("P10.3: Strip(Fill(%q, %d)) = %q, %t", s, unit, got, ok)
				}
			}
		}
	}
}

// A padded form is one of its name, with one of the units.
func TestFillOfStrip(t *testing.T) {
	r := source()
	for size := 16; size <= maxName; size += 16 {
		for n := range size + 1 {
			b := make([]byte, size)
			copy(b, randomName(r, n))
			s, ok := pad.Strip(b)
			if !ok {
				continue
			}
			small, _ := pad.Fill(s, 16)
			large, _ := pad.Fill(s, 32)
			if !bytes.Equal(small, b) && !bytes.Equal(large, b) {
				t.Errorf("P10.3: Strip(%q) = %q, whose padded forms are others", b, s)
			}
		}
	}
}

// Names that differ only in their length, or in their last byte, have different padded forms.
func TestDifferentNames(t *testing.T) {
	for _, unit := range bothUnits() {
		seen := map[string]string{}
		for n := 1; n <= maxName; n++ {
			for _, end := range []string{"x", "y", "\x01", "\xff"} {
				s := strings.Repeat("x", n-1) + end
				b, err := pad.Fill(s, unit)
				if other, ok := seen[string(b)]; ok || err != api.OK {
					t.Errorf("P10.3: Fill(%q, %d) = %q, %d, as of %q", s, unit, b, err, other)
				}
				seen[string(b)] = s
			}
		}
	}
}

// Names of one length have padded forms of one length, which is the one that Size returns.
func TestLengthsAlone(t *testing.T) {
	r := source()
	for n := 1; n <= maxName; n++ {
		for _, unit := range bothUnits() {
			for range 20 {
				s := randomName(r, n)
				if b, err := pad.Fill(s, unit); err != api.OK || len(b) != pad.Size(n, unit) {
					t.Errorf("P10.3: Fill(%q, %d) has %d bytes, want %d", s, unit, len(b), pad.Size(n, unit))
				}
			}
		}
	}
}

// margin is more than the longest padded name.
const margin = 2 * maxName

// spoil changes all of a slice, and what its capacity has behind it.
func spoil(b []byte) {
	b = b[:cap(b)]
	for i := range b {
		b[i] ^= 0xff
	}
}

// Strip's argument is a piece of a larger slice, so that a write before it or into its spare capacity is seen.
func TestArgumentsStay(t *testing.T) {
	r := source()
	for n := range 2 * maxName {
		for _, zeros := range []int{0, 1, (16 - n%16) % 16, (32 - n%32) % 32} {
			b := append([]byte(randomName(r, n)), make([]byte, zeros)...)
			around := bytes.Repeat([]byte{'x'}, margin)
			whole := slices.Concat(around, b, around)
			before := bytes.Clone(whole)
			pad.Strip(whole[margin : margin+len(b)])
			if !bytes.Equal(whole, before) {
				t.Errorf("P10.3: Strip(%q) changes its argument, or what is around it", b)
			}
		}
	}
}

// What the spare capacity of an argument holds is no part of it.
func TestSpareCapacityIsNotRead(t *testing.T) {
	for _, behind := range []byte{0, 'x', '/'} {
		for n := 1; n <= maxName; n++ {
			for _, unit := range bothUnits() {
				b := padded(strings.Repeat("a", n), unit)
				whole := append(bytes.Clone(b), bytes.Repeat([]byte{behind}, margin)...)
				checkStrip(t, whole[:len(b)])
				checkStrip(t, whole[:len(b)-1])
			}
		}
	}
}

func TestResultsAreNewMemory(t *testing.T) {
	r := source()
	for n := 1; n <= maxName; n++ {
		for _, unit := range bothUnits() {
			s := randomName(r, n)
			keep := strings.Clone(s)
			first, _ := pad.Fill(s, unit)
			second, _ := pad.Fill(s, unit)
			name, _ := pad.Strip(second)
			spoil(second)
			if s != keep {
				t.Fatalf("P10.3: Fill(%q, %d) shares memory with its argument", keep, unit)
			}
			if !bytes.Equal(first, padded(keep, unit)) {
				t.Errorf("P10.3: two results of Fill(%q, %d) share memory", keep, unit)
			}
			if name != keep {
				t.Errorf("P10.3: Strip of %q shares memory with its argument", keep)
			}
		}
	}
}

// What was called before makes no difference.
func TestCallsInTurns(t *testing.T) {
	r := source()
	for range 20000 {
		s, unit := randomName(r, r.IntN(120)), numbers()[r.IntN(len(numbers()))]
		if r.IntN(2) == 0 {
			unit = bothUnits()[r.IntN(2)]
		}
		checkName(t, s)
		checkFill(t, s, unit)
		checkStrip(t, append([]byte(s), make([]byte, r.IntN(48))...))
	}
}

// source has a fixed seed: each run of the tests tries the same inputs.
func source() *rand.Rand { return rand.New(rand.NewPCG(1, 2)) }

// randomName returns n bytes, none of which is zero, / or a dot.
func randomName(r *rand.Rand, n int) string {
	b := make([]byte, n)
	for i := range b {
		for b[i] == 0 || b[i] == '/' || b[i] == '.' {
			b[i] = byte(r.Uint32())
		}
	}
	return string(b)
}
