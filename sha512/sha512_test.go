package sha512_test

import (
	"bytes"
	library "crypto/sha512"
	"encoding/hex"
	"math"
	"math/big"
	"math/rand/v2"
	"strings"
	"testing"

	"turnkey/sha512"
)

// example is a text beside the two halves of its digest.
type example struct{ text, first, second string }

// examples are the chapter's own and others; all digests were computed by a program that is not in Go.
func examples() []example {
	short := "abcdbcdecdefdefgefghfghighijhijkijkljklmklmnlmnomnopnopq"
	long := "abcdefghbcdefghicdefghijdefghijkefghijklfghijklmghijklmnhijklmno" +
		"ijklmnopjklmnopqklmnopqrlmnopqrsmnopqrstnopqrstu"
	zeros := func(n int) string { return strings.Repeat("\x00", n) }
	return []example{
		{"", "cf83e1357eefb8bdf1542850d66d8007d620e4050b5715dc83f4a921d36ce9ce",
			"47d0d13c5d85f2b0ff8318d2877eec2f63b931bd47417a81a538327af927da3e"},
		{"abc", "ddaf35a193617abacc417349ae20413112e6fa4e89a97ea20a9eeee64b55d39a",
			"2192992a274fc1a836ba3c23a3feebbd454d4423643ce80e2a9ac94fa54ca49f"},
		{short, "204a8fc6dda82f0a0ced7beb8e08a41657c16ef468b228a8279be331a703c335",
			"96fd15c13b1b07f9aa1d3bea57789ca031ad85c7a71dd70354ec631238ca3445"},
		{long, "8e959b75dae313da8cf4f72814fc143f8f7779c6eb9f7fa17299aeadb6889018",
			"501d289e4900f7e4331b99dec4b5433ac7d329eeb6dd26545e96e55b874be909"},
		{zeros(111), "77ddd3a542e530fd047b8977c657ba6ce72f1492e360b2b2212cd264e75ec038",
			"82e4ff0525517ab4207d14c70c2259ba88d4d335ee0e7e20543d22102ab1788c"},
		{zeros(112), "2be2e788c8a8adeaa9c89a7f78904cacea6e39297d75e0573a73c756234534d6",
			"627ab4156b48a6657b29ab8beb73334040ad39ead81446bb09c70704ec707952"},
		{zeros(113), "0e67910bcf0f9ccde5464c63b9c850a12a759227d16b040d98986d54253f9f34",
			"322318e56b8feb86c5fb2270ed87f31252f7f68493ee759743909bd75e4bb544"},
		{zeros(122), "4f3f095d015be4a7a7cc0b8c04da4aa09e74351e3a97651f744c23716ebd9b3e",
			"822e5077a01baa5cc0ed45b9249e88ab343d4333539df21ed229da6f4a514e0f"},
		{zeros(128), "ab942f526272e456ed68a979f50202905ca903a141ed98443567b11ef0bf25a5",
			"52d639051a01be58558122c58e3de07d749ee59ded36acf0c55cd91924d6ba11"},
		{zeros(1000), "ca3dff61bb23477aa6087b27508264a6f9126ee3a004f53cb8db942ed345f2f2",
			"d229b4b59c859220a1cf1913f34248e3803bab650e849a3d9a709edc09ae4a76"},
		{strings.Repeat("A", 1000), "329c52ac62d1fe731151f2b895a00475445ef74f50b979c6f7bb7cae349328c1",
			"d4cb4f7261a0ab43f936a24b000651d4a824fcdd577f211aef8f806b16afe8af"},
		{strings.Repeat("U", 1005), "59f5e54fe299c6a8764c6b199e44924a37f59e2b56c3ebad939b7289210dc8e4",
			"c21b9720165b0f4d4374c90f1bf4fb4a5ace17a1161798015052893a48c3d161"},
		{strings.Repeat("a", 1000000), "e718483d0ce769644e2e42c7bc15b4638e1f98b13b2044285632a803afa973eb",
			"de0ff244877ea60a4cb0432ce577c31beb009c5c2c49aa2e4eadb217ad8cc09b"},
		{zeros(1000000), "ce044bc9fd43269d5bbc946cbebc3bb711341115cc4abdf2edbc3ff2c57ad4b1",
			"5deb699bda257fea5aef9c6e55fcf4cf9dc25a8c3ce25f2efe90908379bff7ed"},
	}
}

func TestSum(t *testing.T) {
	for _, e := range examples() {
		if got := sha512.Sum([]byte(e.text)); hex.EncodeToString(got[:]) != e.first+e.second {
			t.Errorf("P4.1: Sum of %d bytes %.20q = %x, want %s%s", len(e.text), e.text, got, e.first, e.second)
		}
	}
}

func TestSumOfNothing(t *testing.T) {
	want := library.Sum512(nil)
	for i, bs := range [][][]byte{nil, {}, {nil}, {{}}, {nil, {}, nil}} {
		if got := sha512.Sum(bs...); got != want {
			t.Errorf("P4.1: Sum of nothing (%d) = %x", i, got)
		}
	}
}

// The lengths include all at which the padding begins to need one block more, behind up to three blocks.
func TestSumOfSamples(t *testing.T) {
	for _, b := range samples() {
		if got, want := sha512.Sum(b), library.Sum512(b); got != want {
			t.Errorf("P4.1: Sum of %d bytes = %x, want %x", len(b), got, want)
		}
	}
}

// Bytes of ones alone carry the most in each sum, bytes of zeros the least.
func TestSumOfEqualBytes(t *testing.T) {
	for _, x := range []byte{0, 1, 0x7f, 0x80, 0xff} {
		for n := range 400 {
			b := bytes.Repeat([]byte{x}, n)
			if got, want := sha512.Sum(b), library.Sum512(b); got != want {
				t.Errorf("P4.1: Sum of %d bytes %x = %x, want %x", n, x, got, want)
			}
		}
	}
}

func TestSumSeesEachBit(t *testing.T) {
	b := samples()[260]
	seen := map[[64]byte]int{sha512.Sum(b): -1}
	for bit := range 8 * len(b) {
		b[bit/8] ^= 1 << (bit % 8)
		got := sha512.Sum(b)
		if want := library.Sum512(b); got != want {
			t.Errorf("P4.1: Sum with bit %d changed = %x, want %x", bit, got, want)
		}
		if other, ok := seen[got]; ok {
			t.Errorf("P4.1: bits %d and %d have the same digest", other, bit)
		}
		seen[got] = bit
		b[bit/8] ^= 1 << (bit % 8)
	}
}

// The length of this text has more than 32 bits, counted in bits; it is one piece many times over, to save memory.
func TestSumOfManyBits(t *testing.T) {
	if testing.Short() {
		t.Skip("half a gigabyte is digested")
	}
	piece := bytes.Repeat([]byte("turnkey."), 1<<17)
	reference := library.New()
	var bs [][]byte
	for range 1<<29/len(piece) + 1 {
		bs = append(bs, piece)
		reference.Write(piece)
	}
	if got, want := sha512.Sum(bs...), reference.Sum(nil); !bytes.Equal(got[:], want) {
		t.Errorf("P4.1: Sum of %d pieces = %x, want %x", len(bs), got, want)
	}
}

// padding is the document's: zeros are added until the length fits, and the length is a number without limits.
func padding(octets int) []byte {
	out := []byte{0x80}
	for (octets%128+len(out)+16)%128 != 0 {
		out = append(out, 0)
	}
	bits := new(big.Int).Mul(big.NewInt(int64(octets)), big.NewInt(8))
	return append(out, bits.FillBytes(make([]byte, 16))...)
}

func TestFill(t *testing.T) {
	for _, c := range []struct {
		octets, zeros int
		length        string
	}{
		{0, 111, "00000000000000000000000000000000"},
		{1, 110, "00000000000000000000000000000008"},
		{3, 108, "00000000000000000000000000000018"},
		{31, 80, "000000000000000000000000000000f8"},
		{32, 79, "00000000000000000000000000000100"},
		{110, 1, "00000000000000000000000000000370"},
		{111, 0, "00000000000000000000000000000378"},
		{112, 127, "00000000000000000000000000000380"},
		{113, 126, "00000000000000000000000000000388"},
		{119, 120, "000000000000000000000000000003b8"},
		{120, 119, "000000000000000000000000000003c0"},
		{127, 112, "000000000000000000000000000003f8"},
		{128, 111, "00000000000000000000000000000400"},
		{239, 0, "00000000000000000000000000000778"},
		{240, 127, "00000000000000000000000000000780"},
		{1 << 13, 111, "00000000000000000000000000010000"},
		{1 << 29, 111, "00000000000000000000000100000000"},
		{1<<31 - 1, 112, "000000000000000000000003fffffff8"},
		{1<<31 + 111, 0, "00000000000000000000000400000378"},
		{1 << 32, 111, "00000000000000000000000800000000"},
		{0x0123456789abcdef, 0, "0000000000000000091a2b3c4d5e6f78"},
		{1 << 60, 111, "00000000000000008000000000000000"},
		{1<<61 - 1, 112, "0000000000000000fffffffffffffff8"},
		{1 << 61, 111, "00000000000000010000000000000000"},
		{1<<61 + 1, 110, "00000000000000010000000000000008"},
		{1<<61 + 111, 0, "00000000000000010000000000000378"},
		{1<<61 + 112, 127, "00000000000000010000000000000380"},
		{1 << 62, 111, "00000000000000020000000000000000"},
		{0x7123456789abcdef, 0, "0000000000000003891a2b3c4d5e6f78"},
		{math.MaxInt - 16, 0, "0000000000000003ffffffffffffff78"},
		{math.MaxInt - 15, 127, "0000000000000003ffffffffffffff80"},
		{math.MaxInt, 112, "0000000000000003fffffffffffffff8"},
	} {
		want := "80" + strings.Repeat("00", c.zeros) + c.length
		if got := hex.EncodeToString(sha512.Fill(c.octets)); got != want {
			t.Errorf("P4.1: Fill(%d) = %s, want %s", c.octets, got, want)
		}
	}
}

func TestFillOfAllLengths(t *testing.T) {
	r := source()
	for n := range 1000 {
		// Each number of binary digits is as likely as another one, so that lengths in one word and in two are tried.
		large := int(r.Uint64() >> (1 + r.IntN(53)))
		for _, octets := range []int{n, large, math.MaxInt - n} {
			if got, want := sha512.Fill(octets), padding(octets); !bytes.Equal(got, want) {
				t.Errorf("P4.1: Fill(%d) = %x, want %x", octets, got, want)
			}
		}
	}
}

func TestFillOfNegativeLengths(t *testing.T) {
	want := padding(0)
	for _, octets := range []int{-1, -8, -16, -17, -111, -112, -127, -128, -129, -256, -1 << 32, -1 << 61, math.MinInt + 1, math.MinInt} {
		if got := sha512.Fill(octets); !bytes.Equal(got, want) {
			t.Errorf("P4.1: Fill(%d) = %x, want %x", octets, got, want)
		}
	}
}

func TestResultsOfFillAreNewMemory(t *testing.T) {
	for _, octets := range []int{-1, 0, 1, 111, 112, 128, 1 << 40, math.MaxInt} {
		first := sha512.Fill(octets)
		second := sha512.Fill(octets)
		want := bytes.Clone(second)
		spoil(first)
		if !bytes.Equal(second, want) {
			t.Errorf("P4.2: two results of Fill(%d) share memory", octets)
		}
		if third := sha512.Fill(octets); !bytes.Equal(third, want) {
			t.Errorf("P4.2: Fill(%d) after a change of its result = %x", octets, third)
		}
	}
}

// pieceLengths are those of which every division in three is tried: around the ends of one, two and three blocks.
func pieceLengths() []int {
	return []int{0, 1, 2, 111, 112, 113, 127, 128, 129, 239, 240, 255, 256, 257, 300}
}

func TestSumOfPieces(t *testing.T) {
	texts := samples()
	for _, n := range pieceLengths() {
		b := texts[n]
		want := library.Sum512(b)
		for i := range n + 1 {
			for j := i; j <= n; j++ {
				if got := sha512.Sum(b[:i], b[i:j], b[j:]); got != want {
					t.Errorf("P4.2: Sum of %d bytes, cut at %d and %d = %x, want %x", n, i, j, got, want)
				}
			}
		}
	}
}

func TestSumOfPiecesWithEmptyOnes(t *testing.T) {
	for _, b := range samples() {
		want := library.Sum512(b)
		for i := range len(b) + 1 {
			for k, bs := range [][][]byte{
				{b[:i], b[i:]},
				{nil, b[:i], b[i:]},
				{b[:i], {}, b[i:]},
				{b[:i], b[i:], nil},
				{{}, nil, b[:i], nil, {}, nil, b[i:], {}, nil},
			} {
				if got := sha512.Sum(bs...); got != want {
					t.Errorf("P4.2: Sum of %d bytes, cut at %d (%d) = %x, want %x", len(b), i, k, got, want)
				}
			}
		}
	}
}

func TestSumOfEqualPieces(t *testing.T) {
	for _, b := range samples() {
		want := library.Sum512(b)
		for _, size := range []int{1, 2, 3, 7, 63, 64, 65, 127, 128, 129, 256} {
			var bs [][]byte
			for rest := b; len(rest) > 0; rest = rest[min(size, len(rest)):] {
				bs = append(bs, rest[:min(size, len(rest))])
			}
			if got := sha512.Sum(bs...); got != want {
				t.Errorf("P4.2: Sum of %d bytes, by %d = %x, want %x", len(b), size, got, want)
			}
		}
	}
}

// margin is more than the longest padding has.
const margin = 160

// argument is a piece of a larger slice, so that a write before it or into its spare capacity is seen.
type argument struct{ whole, before []byte }

func newArgument(b []byte) argument {
	whole := bytes.Repeat([]byte("<"), margin)
	whole = append(whole, b...)
	whole = append(whole, bytes.Repeat([]byte(">"), margin)...)
	return argument{whole, bytes.Clone(whole)}
}

// bytes returns a slice with room for the whole padding behind it.
func (a argument) bytes() []byte { return a.whole[margin : len(a.whole)-margin] }

func (a argument) unchanged() bool { return bytes.Equal(a.whole, a.before) }

// spoil changes all of a slice, with its spare capacity.
func spoil(b []byte) {
	b = b[:cap(b)]
	for i := range b {
		b[i] ^= 0xff
	}
}

func TestSumLeavesArguments(t *testing.T) {
	for n, text := range samples() {
		a, b, c := newArgument(text), newArgument([]byte("ABCDE")), newArgument(nil)
		sha512.Sum(a.bytes())
		sha512.Sum(a.bytes(), b.bytes(), c.bytes())
		sha512.Sum(c.bytes(), b.bytes(), a.bytes())
		sha512.Sum(b.bytes(), b.bytes()[1:3], a.bytes(), a.bytes()[n/2:])
		if !a.unchanged() || !b.unchanged() || !c.unchanged() {
			t.Errorf("P4.2: Sum of %d and more bytes changes an argument", n)
		}
	}
}

// The list of the pieces is the caller's too, with its spare capacity.
func TestSumLeavesList(t *testing.T) {
	whole := [][]byte{[]byte("abcd"), nil, []byte("e"), []byte("spare"), []byte("more")}
	for n := range len(whole) {
		sha512.Sum(whole[:n]...)
	}
	if got := string(bytes.Join(whole, []byte("|"))); got != "abcd||e|spare|more" {
		t.Errorf("P4.2: Sum leaves its list as %q", got)
	}
}

func TestSumKeepsNothing(t *testing.T) {
	for _, text := range samples() {
		a, b := newArgument(text), newArgument([]byte("tail"))
		got := sha512.Sum(a.bytes(), b.bytes())
		if want := library.Sum512(append(bytes.Clone(text), "tail"...)); got != want {
			t.Errorf("P4.2: Sum of %d bytes and a tail = %x, want %x", len(text), got, want)
		}
		spoil(a.whole)
		spoil(b.whole)
		changed := append(bytes.Clone(a.bytes()), b.bytes()...)
		if again, want := sha512.Sum(a.bytes(), b.bytes()), library.Sum512(changed); again != want {
			t.Errorf("P4.2: Sum of other bytes in the same memory = %x, want %x", again, want)
		}
		if again, want := sha512.Sum(text), library.Sum512(text); again != want {
			t.Errorf("P4.2: Sum of %d bytes after other calls = %x, want %x", len(text), again, want)
		}
	}
}

// source has a fixed seed: each run of the tests tries the same inputs.
func source() *rand.Rand { return rand.New(rand.NewPCG(1, 2)) }

// samples are byte sequences of all lengths up to 400.
func samples() [][]byte {
	r := source()
	var out [][]byte
	for n := range 401 {
		b := make([]byte, n)
		for i := range b {
			b[i] = byte(r.Uint32())
		}
		out = append(out, b)
	}
	return out
}
