package sha256_test

import (
	"bytes"
	library "crypto/sha256"
	"encoding/hex"
	"math"
	"math/big"
	"math/rand/v2"
	"strings"
	"testing"

	"turnkey/sha256"
)

// example is a text beside its digest.
type example struct{ text, digest string }

// examples are the chapter's own and those that are published for FIPS 180-4.
func examples() []example {
	long := "abcdefghbcdefghicdefghijdefghijkefghijklfghijklmghijklmnhijklmno" +
		"ijklmnopjklmnopqklmnopqrlmnopqrsmnopqrstnopqrstu"
	zeros := func(n int) string { return strings.Repeat("\x00", n) }
	return []example{
		{"", "e3b0c44298fc1c149afbf4c8996fb92427ae41e4649b934ca495991b7852b855"},
		{"abc", "ba7816bf8f01cfea414140de5dae2223b00361a396177a9cb410ff61f20015ad"},
		{"abcdbcdecdefdefgefghfghighijhijkijkljklmklmnlmnomnopnopq",
			"248d6a61d20638b8e5c026930c3e6039a33ce45964ff2167f6ecedd419db06c1"},
		{long, "cf5b16a778af8380036ce59e7b0492370b249b11e8f07a51afac45037afee9d1"},
		{"\xbd", "68325720aabd7c82f30f554b313d0570c95accbb7dc4b5aae11204c08ffe732b"},
		{"\xc9\x8c\x8e\x55", "7abc22c0ae5af26ce93dbb94433a0e0b2e119d014f8e7f65bd56c61ccccd9504"},
		{zeros(55), "02779466cdec163811d078815c633f21901413081449002f24aa3e80f0b88ef7"},
		{zeros(56), "d4817aa5497628e7c77e6b606107042bbba3130888c5f47a375e6179be789fbb"},
		{zeros(57), "65a16cb7861335d5ace3c60718b5052e44660726da4cd13bb745381b235a1785"},
		{zeros(64), "f5a5fd42d16a20302798ef6ed309979b43003d2320d9f0e8ea9831a92759fb4b"},
		{zeros(1000), "541b3e9daa09b20bf85fa273e5cbd3e80185aa4ec298e765db87742b70138a53"},
		{strings.Repeat("A", 1000), "c2e686823489ced2017f6059b8b239318b6364f6dcd835d0a519105a1eadd6e4"},
		{strings.Repeat("U", 1005), "f4d62ddec0f3dd90ea1380fa16a5ff8dc4c54b21740650f24afc4120903552b0"},
		{strings.Repeat("a", 1000000), "cdc76e5c9914fb9281a1c7e284d73e67f1809a48a497200e046d39ccc7112cd0"},
	}
}

func TestSum(t *testing.T) {
	for _, e := range examples() {
		if got := sha256.Sum([]byte(e.text)); hex.EncodeToString(got[:]) != e.digest {
			t.Errorf("P3.1: Sum of %d bytes %.20q = %x, want %s", len(e.text), e.text, got, e.digest)
		}
	}
}

func TestSumOfNothing(t *testing.T) {
	want := library.Sum256(nil)
	for i, bs := range [][][]byte{nil, {}, {nil}, {{}}, {nil, {}, nil}} {
		if got := sha256.Sum(bs...); got != want {
			t.Errorf("P3.1: Sum of nothing (%d) = %x", i, got)
		}
	}
}

// The lengths include all at which the padding begins to need one block more, behind up to four blocks.
func TestSumOfSamples(t *testing.T) {
	for _, b := range samples() {
		if got, want := sha256.Sum(b), library.Sum256(b); got != want {
			t.Errorf("P3.1: Sum of %d bytes = %x, want %x", len(b), got, want)
		}
	}
}

// Bytes of ones alone carry the most in each sum, bytes of zeros the least.
func TestSumOfEqualBytes(t *testing.T) {
	for _, x := range []byte{0, 1, 0x7f, 0x80, 0xff} {
		for n := range 200 {
			b := bytes.Repeat([]byte{x}, n)
			if got, want := sha256.Sum(b), library.Sum256(b); got != want {
				t.Errorf("P3.1: Sum of %d bytes %x = %x, want %x", n, x, got, want)
			}
		}
	}
}

func TestSumSeesEachBit(t *testing.T) {
	b := samples()[130]
	seen := map[[32]byte]int{sha256.Sum(b): -1}
	for bit := range 8 * len(b) {
		b[bit/8] ^= 1 << (bit % 8)
		got := sha256.Sum(b)
		if want := library.Sum256(b); got != want {
			t.Errorf("P3.1: Sum with bit %d changed = %x, want %x", bit, got, want)
		}
		if other, ok := seen[got]; ok {
			t.Errorf("P3.1: bits %d and %d have the same digest", other, bit)
		}
		seen[got] = bit
		b[bit/8] ^= 1 << (bit % 8)
	}
}

// The length of this text has more than 32 bits, counted in bits; it is one piece many times over, to save memory.
func TestSumOfManyBits(t *testing.T) {
	if testing.Short() {
		t.Skip("half a gigabyte is digested")
	}
	piece := bytes.Repeat([]byte("turnkey."), 1<<17)
	reference := library.New()
	var bs [][]byte
	for range 1<<29/len(piece) + 1 {
		bs = append(bs, piece)
		reference.Write(piece)
	}
	if got, want := sha256.Sum(bs...), reference.Sum(nil); !bytes.Equal(got[:], want) {
		t.Errorf("P3.1: Sum of %d pieces = %x, want %x", len(bs), got, want)
	}
}

// padding is the document's: zeros are added until the length fits, and the length is a number without limits.
func padding(octets int) []byte {
	out := []byte{0x80}
	for (octets%64+len(out)+8)%64 != 0 {
		out = append(out, 0)
	}
	bits := new(big.Int).Mul(big.NewInt(int64(octets)), big.NewInt(8))
	return append(out, bits.FillBytes(make([]byte, 8))...)
}

func TestFill(t *testing.T) {
	for _, c := range []struct {
		octets, zeros int
		length        string
	}{
		{0, 55, "0000000000000000"},
		{1, 54, "0000000000000008"},
		{3, 52, "0000000000000018"},
		{31, 24, "00000000000000f8"},
		{32, 23, "0000000000000100"},
		{54, 1, "00000000000001b0"},
		{55, 0, "00000000000001b8"},
		{56, 63, "00000000000001c0"},
		{57, 62, "00000000000001c8"},
		{63, 56, "00000000000001f8"},
		{64, 55, "0000000000000200"},
		{119, 0, "00000000000003b8"},
		{120, 63, "00000000000003c0"},
		{1 << 13, 55, "0000000000010000"},
		{1 << 29, 55, "0000000100000000"},
		{1<<31 - 1, 56, "00000003fffffff8"},
		{1<<31 + 55, 0, "00000004000001b8"},
		{1 << 32, 55, "0000000800000000"},
		{0x0123456789abcdef, 8, "091a2b3c4d5e6f78"},
		{1 << 60, 55, "8000000000000000"},
		{1<<61 - 1, 56, "fffffffffffffff8"},
	} {
		want := "80" + strings.Repeat("00", c.zeros) + c.length
		if got := hex.EncodeToString(sha256.Fill(c.octets)); got != want {
			t.Errorf("P3.1: Fill(%d) = %s, want %s", c.octets, got, want)
		}
	}
}

func TestFillOfAllLengths(t *testing.T) {
	r := source()
	for n := range 1000 {
		large := r.IntN(1 << (r.IntN(52) + 10))
		for _, octets := range []int{n, large} {
			if got, want := sha256.Fill(octets), padding(octets); !bytes.Equal(got, want) {
				t.Errorf("P3.1: Fill(%d) = %x, want %x", octets, got, want)
			}
		}
	}
}

func TestFillOfNegativeLengths(t *testing.T) {
	want := padding(0)
	for _, octets := range []int{-1, -8, -9, -55, -56, -63, -64, -65, -128, -1 << 32, -1 << 61, math.MinInt + 1, math.MinInt} {
		if got := sha256.Fill(octets); !bytes.Equal(got, want) {
			t.Errorf("P3.1: Fill(%d) = %x, want %x", octets, got, want)
		}
	}
}

// No 8 bytes hold these lengths in bits, but no call of the document may panic, and the blocks are still whole.
func TestFillOfLengthsBeyondItsBytes(t *testing.T) {
	for _, octets := range []int{1 << 61, 1<<61 + 55, 1<<61 + 56, 1 << 62, math.MaxInt - 8, math.MaxInt - 1, math.MaxInt} {
		got := sha256.Fill(octets)
		if len(got) < 9 || len(got) > 72 || (octets%64+len(got))%64 != 0 || got[0] != 0x80 {
			t.Errorf("Fill(%d) = %x", octets, got)
		}
	}
}

func TestResultsOfFillAreNewMemory(t *testing.T) {
	for _, octets := range []int{-1, 0, 1, 55, 56, 64, 1 << 40} {
		first := sha256.Fill(octets)
		second := sha256.Fill(octets)
		want := bytes.Clone(second)
		spoil(first)
		if !bytes.Equal(second, want) {
			t.Errorf("P3.2: two results of Fill(%d) share memory", octets)
		}
		if third := sha256.Fill(octets); !bytes.Equal(third, want) {
			t.Errorf("P3.2: Fill(%d) after a change of its result = %x", octets, third)
		}
	}
}

// pieceLengths are those of which every division in three is tried: around the ends of one, two and three blocks.
func pieceLengths() []int {
	return []int{0, 1, 2, 55, 56, 57, 63, 64, 65, 119, 120, 127, 128, 129, 150}
}

func TestSumOfPieces(t *testing.T) {
	for _, n := range pieceLengths() {
		b := samples()[n]
		want := library.Sum256(b)
		for i := range n + 1 {
			for j := i; j <= n; j++ {
				if got := sha256.Sum(b[:i], b[i:j], b[j:]); got != want {
					t.Errorf("P3.2: Sum of %d bytes, cut at %d and %d = %x, want %x", n, i, j, got, want)
				}
			}
		}
	}
}

func TestSumOfPiecesWithEmptyOnes(t *testing.T) {
	for _, b := range samples() {
		want := library.Sum256(b)
		for i := range len(b) + 1 {
			for k, bs := range [][][]byte{
				{b[:i], b[i:]},
				{nil, b[:i], b[i:]},
				{b[:i], {}, b[i:]},
				{b[:i], b[i:], nil},
				{{}, nil, b[:i], nil, {}, nil, b[i:], {}, nil},
			} {
				if got := sha256.Sum(bs...); got != want {
					t.Errorf("P3.2: Sum of %d bytes, cut at %d (%d) = %x, want %x", len(b), i, k, got, want)
				}
			}
		}
	}
}

func TestSumOfEqualPieces(t *testing.T) {
	for _, b := range samples() {
		want := library.Sum256(b)
		for _, size := range []int{1, 2, 3, 7, 31, 32, 33, 63, 64, 65, 128} {
			var bs [][]byte
			for rest := b; len(rest) > 0; rest = rest[min(size, len(rest)):] {
				bs = append(bs, rest[:min(size, len(rest))])
			}
			if got := sha256.Sum(bs...); got != want {
				t.Errorf("P3.2: Sum of %d bytes, by %d = %x, want %x", len(b), size, got, want)
			}
		}
	}
}

// argument is a piece of a larger slice, so that a write before it or into its spare capacity is seen.
type argument struct{ whole, before []byte }

func newArgument(b []byte) argument {
	whole := bytes.Repeat([]byte("<"), 80)
	whole = append(whole, b...)
	whole = append(whole, bytes.Repeat([]byte(">"), 80)...)
	return argument{whole, bytes.Clone(whole)}
}

// bytes returns a slice with room for the whole padding behind it.
func (a argument) bytes() []byte { return a.whole[80 : len(a.whole)-80] }

func (a argument) unchanged() bool { return bytes.Equal(a.whole, a.before) }

// spoil changes all of a slice, with its spare capacity.
func spoil(b []byte) {
	b = b[:cap(b)]
	for i := range b {
		b[i] ^= 0xff
	}
}

func TestSumLeavesArguments(t *testing.T) {
	for n, text := range samples() {
		a, b, c := newArgument(text), newArgument([]byte("ABCDE")), newArgument(nil)
		sha256.Sum(a.bytes())
		sha256.Sum(a.bytes(), b.bytes(), c.bytes())
		sha256.Sum(c.bytes(), b.bytes(), a.bytes())
		sha256.Sum(b.bytes(), b.bytes()[1:3], a.bytes(), a.bytes()[n/2:])
		if !a.unchanged() || !b.unchanged() || !c.unchanged() {
			t.Errorf("P3.2: Sum of %d and more bytes changes an argument", n)
		}
	}
}

// The list of the pieces is the caller's too, with its spare capacity.
func TestSumLeavesList(t *testing.T) {
	whole := [][]byte{[]byte("abcd"), nil, []byte("e"), []byte("spare"), []byte("more")}
	for n := range len(whole) {
		sha256.Sum(whole[:n]...)
	}
	if got := string(bytes.Join(whole, []byte("|"))); got != "abcd||e|spare|more" {
		t.Errorf("P3.2: Sum leaves its list as %q", got)
	}
}

func TestSumKeepsNothing(t *testing.T) {
	for _, text := range samples() {
		a, b := newArgument(text), newArgument([]byte("tail"))
		got := sha256.Sum(a.bytes(), b.bytes())
		if want := library.Sum256(append(bytes.Clone(text), "tail"...)); got != want {
			t.Errorf("P3.2: Sum of %d bytes and a tail = %x, want %x", len(text), got, want)
		}
		spoil(a.whole)
		spoil(b.whole)
		changed := append(bytes.Clone(a.bytes()), b.bytes()...)
		if again, want := sha256.Sum(a.bytes(), b.bytes()), library.Sum256(changed); again != want {
			t.Errorf("P3.2: Sum of other bytes in the same memory = %x, want %x", again, want)
		}
		if again, want := sha256.Sum(text), library.Sum256(text); again != want {
			t.Errorf("P3.2: Sum of %d bytes after other calls = %x, want %x", len(text), again, want)
		}
	}
}

// source has a fixed seed: each run of the tests tries the same inputs.
func source() *rand.Rand { return rand.New(rand.NewPCG(1, 2)) }

// samples are byte sequences of all lengths up to 260.
func samples() [][]byte {
	r := source()
	var out [][]byte
	for n := range 261 {
		b := make([]byte, n)
		for i := range b {
			b[i] = byte(r.Uint32())
		}
		out = append(out, b)
	}
	return out
}
