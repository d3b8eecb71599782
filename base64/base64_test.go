package base64_test

import (
	"bytes"
	"math"
	"math/rand/v2"
	"strings"
	"testing"

	"turnkey/base64"
)

// characters is the alphabet as the document orders it, built without the package's own.
func characters() string {
	var out strings.Builder
	for _, span := range []string{"AZ", "az", "09", "--", "__"} {
		for c := span[0]; c <= span[1]; c++ {
			out.WriteByte(c)
		}
	}
	return out.String()
}

// encoding is the document's: one bit after the other, six to a character, missing ones zero.
func encoding(b []byte) string {
	var out strings.Builder
	alphabet := characters()
	for first := 0; first < 8*len(b); first += 6 {
		number := 0
		for bit := first; bit < first+6; bit++ {
			number *= 2
			if bit < 8*len(b) {
				number += int(b[bit/8]>>(7-bit%8)) & 1
			}
		}
		out.WriteByte(alphabet[number])
	}
	return out.String()
}

// examples are bytes beside their encodings.
func examples() map[string]string {
	return map[string]string{
		"": "", "f": "Zg", "fo": "Zm8", "foo": "Zm9v", "foob": "Zm9vYg", "fooba": "Zm9vYmE", "foobar": "Zm9vYmFy",
		"\x00": "AA", "\x00\x00": "AAA", "\x00\x00\x00": "AAAA",
		"\xff": "_w", "\xff\xff": "__8", "\xff\xff\xff": "____",
		"\x01": "AQ", "\x00\x01": "AAE", "\x00\x00\x01": "AAAB",
		"\xfb\xef\xbe": "----", "\xfb\xff": "-_8", "\xff\xfe\xfd": "__79",
		"\x00\x10\x83\x10\x51\x87\x20\x92\x8b\x30\xd3\x8f": "ABCDEFGHIJKLMNOP",
		"\xff\xff\xff\x00": "____AA", "\xff\xff\xff\x00\x00": "____AAA",
	}
}

func TestEncode(t *testing.T) {
	for b, want := range examples() {
		if got := base64.Encode([]byte(b)); got != want {
			t.Errorf("P2.1: Encode(%q) = %q, want %q", b, got, want)
		}
	}
}

func TestEncodeOfNothing(t *testing.T) {
	for i, bs := range [][][]byte{nil, {}, {nil}, {{}}, {nil, {}, nil}} {
		if got := base64.Encode(bs...); got != "" {
			t.Errorf("P2.1: Encode of nothing (%d) = %q", i, got)
		}
	}
}

// Every group of one or two bytes is tried, alone and behind a whole group.
func TestEncodeOfShortTails(t *testing.T) {
	for i := range 1 << 16 {
		tail := []byte{byte(i >> 8), byte(i)}
		for _, b := range [][]byte{tail[1:], tail, append([]byte("\xff\xff\xff"), tail...)} {
			if got, want := base64.Encode(b), encoding(b); got != want {
				t.Fatalf("P2.1: Encode(%v) = %q, want %q", b, got, want)
			}
		}
	}
}

func TestEncodeOfSamples(t *testing.T) {
	for _, b := range samples() {
		if got, want := base64.Encode(b), encoding(b); got != want {
			t.Errorf("P2.1: Encode(%v) = %q, want %q", b, got, want)
		}
	}
}

// Wherever the bytes are cut in three, with empty pieces between, they have one encoding.
func TestEncodeOfPieces(t *testing.T) {
	for _, b := range samples()[:14] {
		want := encoding(b)
		for i := range len(b) + 1 {
			for j := i; j <= len(b); j++ {
				for k, bs := range [][][]byte{
					{b[:i], b[i:j], b[j:]},
					{nil, b[:i], {}, nil, b[i:j], {}, b[j:], nil},
				} {
					if got := base64.Encode(bs...); got != want {
						t.Errorf("P2.1: Encode(%v), cut at %d and %d (%d) = %q, want %q", b, i, j, k, got, want)
					}
				}
			}
		}
	}
}

func TestEncodeOfSingleBytes(t *testing.T) {
	for _, b := range samples() {
		var bs [][]byte
		for i := range b {
			bs = append(bs, b[i:i+1])
		}
		if got, want := base64.Encode(bs...), encoding(b); got != want {
			t.Errorf("P2.1: Encode(%v), byte by byte = %q, want %q", b, got, want)
		}
	}
}

func TestDecode(t *testing.T) {
	for want, s := range examples() {
		if got, ok := base64.Decode(s); !ok || string(got) != want {
			t.Errorf("P2.1: Decode(%q) = %q, %t, want %q", s, got, ok, want)
		}
	}
}

// bytesOf returns the encodings of all sequences of n bytes, with these.
func bytesOf(n int) map[string]string {
	out := map[string]string{}
	for i := range 1 << (8 * n) {
		b := []byte{byte(i >> 8), byte(i)}[2-n:]
		out[encoding(b)] = string(b)
	}
	return out
}

// checkDecode holds Decode of s against what it is the encoding of.
func checkDecode(t *testing.T, s, want string, is bool) {
	t.Helper()
	if got, ok := base64.Decode(s); ok != is || string(got) != want {
		t.Errorf("P2.1: Decode(%q) = %q, %t, want %q, %t", s, got, ok, want, is)
	}
}

// Every text of two bytes is tried: those that encode one byte, and no others, have one.
func TestDecodeOfTwoBytes(t *testing.T) {
	is := bytesOf(1)
	for i := range 1 << 16 {
		s := string([]byte{byte(i >> 8), byte(i)})
		want, ok := is[s]
		checkDecode(t, s, want, ok)
		if ok {
			want = "\xff\xff\xff" + want
		}
		checkDecode(t, "____"+s, want, ok)
	}
}

// Every text of three characters is tried: those that encode two bytes, and no others, have them.
func TestDecodeOfThreeCharacters(t *testing.T) {
	is, alphabet := bytesOf(2), characters()
	for i := range 1 << 18 {
		s := string([]byte{alphabet[i>>12], alphabet[i>>6&63], alphabet[i&63]})
		want, ok := is[s]
		checkDecode(t, s, want, ok)
	}
}

func TestDecodeOfOtherCharacters(t *testing.T) {
	alphabet := characters()
	for _, s := range []string{"AA", "AAA", "AAAA", "AAAAAA", "AAAAAAA", "AAAAAAAA"} {
		for i := range s {
			for c := range 256 {
				if strings.IndexByte(alphabet, byte(c)) < 0 {
					checkDecode(t, s[:i]+string([]byte{byte(c)})+s[i+1:], "", false)
				}
			}
		}
	}
}

func TestDecodeOfNoEncoding(t *testing.T) {
	for _, s := range []string{
		"Zm9", "Zh", "Zm9vZh", "Zm9vZm9", "AB", "A_", "AAB", "AAC", "AA_", "AAAAAB", "AAAAAAB",
		"A", "Z", "AAAAA", "Zm9vZ", "AAAAAAAAA", "_",
		"=", "==", "Zg==", "Zm8=", "Zg=", "Zm9v=", "Zm9v====", "====",
		"Zm+v", "Zm/v", "Zm9v\n", "\nZm9v", "Zm\r\n9v", " Zm9v", "Zm 9", "Zm9v\x00", "Zm9v\x00\x00",
		"Zm9é", "éé", "ＡＡ", "AA\xff", "Zm9vZg\x00\x00",
	} {
		checkDecode(t, s, "", false)
	}
}

func TestDecodeOfImpossibleLengths(t *testing.T) {
	for n := range 70 {
		s := strings.Repeat("A", n)
		if n%4 == 1 {
			checkDecode(t, s, "", false)
		} else {
			checkDecode(t, s, strings.Repeat("\x00", n*6/8), true)
		}
	}
}

func TestLen(t *testing.T) {
	for n, want := range []int{0, 2, 3, 4, 6, 7, 8, 10, 11, 12} {
		if got := base64.Len(n); got != want {
			t.Errorf("P2.1: Len(%d) = %d, want %d", n, got, want)
		}
	}
	for _, b := range samples() {
		if got, want := base64.Len(len(b)), len(base64.Encode(b)); got != want {
			t.Errorf("P2.1: Len(%d) = %d, and the encoding has %d characters", len(b), got, want)
		}
	}
	for n, want := range map[int]int{
		-1: 0, -2: 0, -3: 0, -5: 0, math.MinInt: 0,
		96: 128, 1 << 20: 1398102, 3 << 30: 4 << 30, 3<<30 - 1: 4<<30 - 1, 3<<60 + 1: 4<<60 + 2,
	} {
		if got := base64.Len(n); got != want {
			t.Errorf("P2.1: Len(%d) = %d, want %d", n, got, want)
		}
	}
}

// Nothing is promised of a length beyond all ints, but no call of the document may panic.
func TestLenDoesNotPanic(t *testing.T) {
	base64.Len(math.MaxInt)
	base64.Len(math.MaxInt - 1)
}

func TestDecodeOfEncode(t *testing.T) {
	for _, b := range samples() {
		s := base64.Encode(b)
		if got, ok := base64.Decode(s); !ok || !bytes.Equal(got, b) {
			t.Errorf("P2.2: Decode(%q) = %v, %t, want %v", s, got, ok, b)
		}
	}
}

func TestEncodeOfDecode(t *testing.T) {
	r, alphabet := source(), characters()
	for n := range 60 {
		for range 50 {
			s := make([]byte, n)
			for i := range s {
				s[i] = alphabet[r.IntN(64)]
			}
			if b, ok := base64.Decode(string(s)); ok && base64.Encode(b) != string(s) {
				t.Errorf("P2.2: %q and its bytes' encoding %q have the same bytes", s, base64.Encode(b))
			}
		}
	}
}

func TestDifferentBytesHaveDifferentEncodings(t *testing.T) {
	seen := map[string][]byte{}
	for i := range 1 << 16 {
		two := []byte{byte(i >> 8), byte(i)}
		for _, b := range [][]byte{two, append(two, 0), append([]byte("abcd"), two...)} {
			s := base64.Encode(b)
			if other, ok := seen[s]; ok {
				t.Fatalf("P2.2: %v and %v are both %q", other, b, s)
			}
			seen[s] = b
		}
	}
}

// argument is a piece of a larger slice, so that a write before it or into its spare capacity is seen.
type argument struct{ whole, before []byte }

func newArgument(text string) argument {
	whole := []byte("<<<<" + text + ">>>>>>>>")
	return argument{whole, bytes.Clone(whole)}
}

func (a argument) bytes() []byte { return a.whole[4 : len(a.whole)-8] }

func (a argument) unchanged() bool { return bytes.Equal(a.whole, a.before) }

// spoil changes all of a slice, with its spare capacity.
func spoil(b []byte) {
	b = b[:cap(b)]
	for i := range b {
		b[i] ^= 0xff
	}
}

func TestEncodeLeavesArguments(t *testing.T) {
	for n := range 8 {
		a, b, c := newArgument("abcdefg"[:n]), newArgument("ABCDE"), newArgument("x")
		base64.Encode(a.bytes())
		base64.Encode(a.bytes(), b.bytes(), c.bytes())
		base64.Encode(b.bytes(), b.bytes()[1:3], a.bytes())
		if !a.unchanged() || !b.unchanged() || !c.unchanged() {
			t.Errorf("P2.2: Encode of %d and more bytes changes an argument", n)
		}
	}
}

// The list of the pieces is the caller's too, with its spare capacity.
func TestEncodeLeavesList(t *testing.T) {
	whole := [][]byte{[]byte("abcd"), nil, []byte("e"), []byte("spare"), []byte("more")}
	base64.Encode(whole[:3]...)
	base64.Encode(whole[:1]...)
	base64.Encode(whole[:0]...)
	if got := string(bytes.Join(whole, []byte("|"))); got != "abcd||e|spare|more" {
		t.Errorf("P2.2: Encode leaves its list as %q", got)
	}
}

func TestEncodeKeepsNothing(t *testing.T) {
	a, b := newArgument("foob"), newArgument("ar")
	got := base64.Encode(a.bytes(), b.bytes())
	spoil(a.whole)
	spoil(b.whole)
	if got != "Zm9vYmFy" {
		t.Errorf("P2.2: the result becomes %q", got)
	}
	if again := base64.Encode(a.bytes(), b.bytes()); again != encoding([]byte("\x99\x90\x90\x9d\x9e\x8d")) {
		t.Errorf("P2.2: other bytes in the same memory are %q", again)
	}
	if again := base64.Encode([]byte("fo")); again != "Zm8" {
		t.Errorf("P2.2: after other calls, Encode(fo) = %q", again)
	}
}

func TestResultsOfDecodeAreNewMemory(t *testing.T) {
	for want, s := range examples() {
		first, _ := base64.Decode(s)
		second, _ := base64.Decode(s)
		spoil(first)
		if string(second) != want {
			t.Errorf("P2.2: two results of Decode(%q) share memory", s)
		}
		if third, ok := base64.Decode(s); !ok || string(third) != want {
			t.Errorf("P2.2: Decode(%q) after a change of its result = %q, %t", s, third, ok)
		}
	}
}

// source has a fixed seed: each run of the tests tries the same inputs.
func source() *rand.Rand { return rand.New(rand.NewPCG(1, 2)) }

// samples are byte sequences of all lengths up to 200.
func samples() [][]byte {
	r := source()
	var out [][]byte
	for n := range 201 {
		b := make([]byte, n)
		for i := range b {
			b[i] = byte(r.Uint32())
		}
		out = append(out, b)
	}
	return out
}
