package hmac_test

import (
	"bytes"
	library "crypto/hmac"
	"crypto/sha512"
	"encoding/hex"
	"go/ast"
	"go/parser"
	"go/token"
	"math/rand/v2"
	"strings"
	"testing"

	"turnkey/hmac"
)

// block is how long a key may be before it is replaced by its digest.
const block = 128

// mac is the MAC by the standard library.
func mac(key []byte, bs ...[]byte) [64]byte {
	h := library.New(sha512.New, key)
	for _, b := range bs {
		h.Write(b)
	}
	return [64]byte(h.Sum(nil))
}

// example is a key and a text beside the two halves of their MAC.
type example struct{ key, text, first, second string }

// examples are the chapter's own, those of RFC 4231 with all of their MAC, and keys around the length of a block;
// all MACs were computed by a program that is not in Go.
func examples() []example {
	var counted []byte
	for i := range 25 {
		counted = append(counted, byte(i+1))
	}
	return []example{
		{"Jefe", "what do ya want for nothing?",
			"164b7a7bfcf819e2e395fbe73b56e0a387bd64222e831fd610270cd7ea250554",
			"9758bf75c05a994a6d034f65f8f0e6fdcaeab1a34d4a6b4b636e070a38bce737"},
		{"", "",
			"b936cee86c9f87aa5d3c6f2e84cb5a4239a5fe50480a6ec66b70ab5b1f4ac673",
			"0c6c515421b327ec1d69402e53dfb49ad7381eb067b338fd7b0cb22247225d47"},
		{strings.Repeat("\x0b", 20), "Hi There",
			"87aa7cdea5ef619d4ff0b4241a1d6cb02379f4e2ce4ec2787ad0b30545e17cde",
			"daa833b7d6b8a702038b274eaea3f4e4be9d914eeb61f1702e696c203a126854"},
		{strings.Repeat("\xaa", 20), strings.Repeat("\xdd", 50),
			"fa73b0089d56a284efb0f0756c890be9b1b5dbdd8ee81a3655f83e33b2279d39",
			"bf3e848279a722c806b485a47e67c807b946a337bee8942674278859e13292fb"},
		{string(counted), strings.Repeat("\xcd", 50),
			"b0ba465637458c6990e5a8c5f61d4af7e576d97ff94b872de76f8050361ee3db",
			"a91ca5c11aa25eb4d679275cc5788063a5f19741120c4f2de2adebeb10a298dd"},
		{strings.Repeat("\xaa", 131), "Test Using Larger Than Block-Size Key - Hash Key First",
			"80b24263c7c1a3ebb71493c1dd7be8b49b46d1f41b4aeec1121b013783f8f352",
			"6b56d037e05f2598bd0fd2215d6a1e5295e64f73f63f0aec8b915a985d786598"},
		{strings.Repeat("\xaa", 131), "This is a test using a larger than block-size key and a larger than block-size data. " +
			"The key needs to be hashed before being used by the HMAC algorithm.",
			"e37b6a775dc87dbaa4dfa9f96e5e3ffddebd71f8867289865df5a32d20cdc944",
			"b6022cac3c4982b10d5eeb55c3e4de15134676fb6de0446065c97440fa8c6a58"},
		{strings.Repeat("k", 127), "text",
			"1986e20c72fa26d28c70970d7e6f67ba4f5ac90f0dec1475d331f1f815e319fa",
			"a1e4d18f97ad5b51dd31fc9eec116588104f17acb77f3b4320e453558b4657eb"},
		{strings.Repeat("k", 128), "text",
			"4e088c5e1001741d629227fb0aef3212a543e95e688ffad7e8c1e38282be79fa",
			"dc38db3b2fdc460e5a8d0cb296aedacac6609c6714766e33747979bee4d3834d"},
		{strings.Repeat("k", 129), "text",
			"a79102c7e5421fd5b613def755101385663e14dd5aca0142b8df5be02cc9fae7",
			"12556cf1e5fdbab90e4ef0cbfad5c0e1c2acded29bb8958183b8308d9110cbed"},
	}
}

func TestExamples(t *testing.T) {
	for i, e := range examples() {
		key, text := []byte(e.key), []byte(e.text)
		if got := hmac.Sum(key, text); hex.EncodeToString(got[:]) != e.first+e.second {
			t.Errorf("P5.1: example %d: Sum = %x, want %s%s", i, got, e.first, e.second)
		}
		tag := hmac.Tag(key, text)
		if hex.EncodeToString(tag[:]) != e.first {
			t.Errorf("P5.1: example %d: Tag = %x, want %s", i, tag, e.first)
		}
		if !hmac.Right(key, tag, text) {
			t.Errorf("P5.1: example %d: its tag is not right", i)
		}
	}
}

// check holds all three functions against the standard library.
func check(t *testing.T, promise string, key []byte, bs ...[]byte) {
	t.Helper()
	want := mac(key, bs...)
	if got := hmac.Sum(key, bs...); got != want {
		t.Errorf("%s: a key of %d bytes, %d pieces: Sum = %x, want %x", promise, len(key), len(bs), got, want)
	}
	tag := [32]byte(want[:32])
	if got := hmac.Tag(key, bs...); got != tag {
		t.Errorf("%s: a key of %d bytes, %d pieces: Tag = %x, want %x", promise, len(key), len(bs), got, tag)
	}
	if !hmac.Right(key, tag, bs...) {
		t.Errorf("%s: a key of %d bytes, %d pieces: the tag %x is not right", promise, len(key), len(bs), tag)
	}
	if hmac.Right(key, [32]byte(want[32:]), bs...) {
		t.Errorf("%s: a key of %d bytes, %d pieces: the MAC's end is right", promise, len(key), len(bs))
	}
}

func TestKeysOfAllLengths(t *testing.T) {
	r := source()
	for n := range 3*block + 2 {
		check(t, "P5.1", randomBytes(r, n), randomBytes(r, 50))
	}
	for _, n := range []int{511, 512, 513, 1000, 65536, 1 << 20} {
		check(t, "P5.1", randomBytes(r, n), randomBytes(r, 50))
	}
}

func TestTextsOfAllLengths(t *testing.T) {
	r := source()
	for n := range 3*block + 2 {
		for _, size := range []int{0, 1, 32, 64, 127, 128, 129, 200} {
			check(t, "P5.1", randomBytes(r, size), randomBytes(r, n))
		}
	}
	check(t, "P5.1", randomBytes(r, 32), randomBytes(r, 1<<20))
}

func TestTextsOfNothing(t *testing.T) {
	r := source()
	for _, n := range []int{0, 1, 127, 128, 129, 300} {
		key := randomBytes(r, n)
		want := mac(key)
		for i, bs := range [][][]byte{nil, {}, {nil}, {{}}, {nil, {}, nil}} {
			if got := hmac.Sum(key, bs...); got != want {
				t.Errorf("P5.1: a key of %d bytes, nothing (%d): Sum = %x, want %x", n, i, got, want)
			}
			check(t, "P5.1", key, bs...)
		}
	}
}

func TestKeysOfNothing(t *testing.T) {
	text := []byte("text")
	want := mac(make([]byte, block), text)
	for i, key := range [][]byte{nil, {}, make([]byte, 0, 200), []byte("spare")[:0]} {
		if got := hmac.Sum(key, text); got != want {
			t.Errorf("P5.1: no key (%d): Sum = %x, want %x", i, got, want)
		}
		check(t, "P5.1", key, text)
	}
}

// Bytes of which the XOR is zero or all ones are among these.
func TestKeysOfEqualBytes(t *testing.T) {
	for x := range 256 {
		for _, n := range []int{1, 127, 128, 129} {
			check(t, "P5.1", bytes.Repeat([]byte{byte(x)}, n), []byte("text"))
		}
	}
}

// A longer key is the same as its digest; one of 128 bytes is not.
func TestLongKeysAreDigested(t *testing.T) {
	r := source()
	text := []byte("text")
	for _, n := range []int{0, 1, 64, 127, 128, 129, 130, 200, 256, 1000} {
		key := randomBytes(r, n)
		digest := sha512.Sum512(key)
		same := hmac.Sum(key, text) == hmac.Sum(digest[:], text)
		if same != (n > block) {
			t.Errorf("P5.1: a key of %d bytes has the MAC of its digest: %t", n, same)
		}
	}
}

func TestSumSeesEachBitOfKey(t *testing.T) {
	r := source()
	text := []byte("text")
	for _, n := range []int{1, 127, 128, 129, 150} {
		key := randomBytes(r, n)
		seen := map[[64]byte]int{hmac.Sum(key, text): -1}
		for bit := range 8 * n {
			key[bit/8] ^= 1 << (bit % 8)
			got := hmac.Sum(key, text)
			if want := mac(key, text); got != want {
				t.Errorf("P5.1: a key of %d bytes with bit %d changed: Sum = %x, want %x", n, bit, got, want)
			}
			if other, ok := seen[got]; ok {
				t.Errorf("P5.1: a key of %d bytes: bits %d and %d have the same MAC", n, other, bit)
			}
			seen[got] = bit
			key[bit/8] ^= 1 << (bit % 8)
		}
	}
}

func TestRightSeesEachBitOfText(t *testing.T) {
	r := source()
	key, text := randomBytes(r, 32), randomBytes(r, 150)
	tag := hmac.Tag(key, text)
	for bit := range 8 * len(text) {
		text[bit/8] ^= 1 << (bit % 8)
		if hmac.Right(key, tag, text) || hmac.Right(key, tag, text[:70], text[70:]) {
			t.Errorf("P5.1: the tag is right of the text with bit %d changed", bit)
		}
		text[bit/8] ^= 1 << (bit % 8)
	}
	for n := range len(text) {
		if hmac.Right(key, tag, text[:n]) {
			t.Errorf("P5.1: the tag is right of the text's first %d bytes", n)
		}
	}
}

func TestRightSeesEachBitOfTag(t *testing.T) {
	r := source()
	for _, n := range []int{0, 32, 127, 128, 129, 200} {
		key, text := randomBytes(r, n), randomBytes(r, n+3)
		sum := mac(key, text)
		tag := [32]byte(sum[:32])
		for bit := range 8 * len(tag) {
			forged := tag
			forged[bit/8] ^= 1 << (bit % 8)
			if hmac.Right(key, forged, text) || hmac.Right(key, forged, text[:1], nil, text[1:]) {
				t.Errorf("P5.1: a key of %d bytes: the tag with bit %d changed is right", n, bit)
			}
		}
		if !hmac.Right(key, tag, text) {
			t.Errorf("P5.1: a key of %d bytes: the tag is not right", n)
		}
	}
}

// Two differences in one tag cancel each other out if they are summed or XORed.
func TestRightSeesTwoDifferences(t *testing.T) {
	r := source()
	key, text := randomBytes(r, 32), randomBytes(r, 100)
	tag := hmac.Tag(key, text)
	for i := range tag {
		for j := range i {
			for _, x := range []byte{1, 0x80, 0xff} {
				forged := tag
				forged[i] ^= x
				forged[j] ^= x
				if hmac.Right(key, forged, text) {
					t.Errorf("P5.1: the tag with bytes %d and %d changed by %x is right", j, i, x)
				}
				swapped := tag
				swapped[i], swapped[j] = swapped[j]+x, swapped[i]-x
				if swapped != tag && hmac.Right(key, swapped, text) {
					t.Errorf("P5.1: the tag with bytes %d and %d exchanged is right", j, i)
				}
			}
		}
	}
}

func TestRightOfOtherTags(t *testing.T) {
	r := source()
	key, text := randomBytes(r, 32), randomBytes(r, 100)
	sum := mac(key, text)
	plain := sha512.Sum512(text)
	ones := [32]byte(bytes.Repeat([]byte{0xff}, 32))
	other := mac(append(bytes.Clone(key), 1), text)
	for i, tag := range [][32]byte{{}, ones, [32]byte(sum[32:]), [32]byte(sum[1:33]), [32]byte(plain[:32]), [32]byte(other[:32])} {
		if hmac.Right(key, tag, text) {
			t.Errorf("P5.1: another tag (%d) is right", i)
		}
	}
}

// How a comparison is made does not show in its result, and a tag that is passed by value cannot be watched.
// So this looks for the call of octets.Same, and for comparisons beside it.
func TestRightComparesBySame(t *testing.T) {
	file, err := parser.ParseFile(token.NewFileSet(), "hmac.go", nil, 0)
	if err != nil {
		t.Fatal(err)
	}
	called := false
	for _, d := range file.Decls {
		right, ok := d.(*ast.FuncDecl)
		if !ok || right.Name.Name != "Right" {
			continue
		}
		ast.Inspect(right.Body, func(n ast.Node) bool {
			switch x := n.(type) {
			case *ast.BinaryExpr:
				t.Errorf("P5.1: Right compares by %s", x.Op)
			case *ast.SelectorExpr:
				p, ok := x.X.(*ast.Ident)
				called = called || ok && p.Name == "octets" && x.Sel.Name == "Same"
			}
			return true
		})
	}
	if !called {
		t.Errorf("P5.1: Right does not compare by octets.Same")
	}
}

// cutLengths are those of which every cut is tried: around the ends of one and two blocks, and of their padding.
func cutLengths() []int {
	return []int{0, 1, 2, 31, 32, 33, 64, 111, 112, 113, 127, 128, 129, 255, 256, 257, 300}
}

func TestTextsCutAnywhere(t *testing.T) {
	r := source()
	for _, size := range []int{0, 32, 127, 128, 129, 200} {
		key := randomBytes(r, size)
		for _, n := range cutLengths() {
			b := randomBytes(r, n)
			want := mac(key, b)
			for i := range n + 1 {
				for k, bs := range [][][]byte{
					{b[:i], b[i:]},
					{nil, b[:i], b[i:]},
					{b[:i], {}, b[i:]},
					{b[:i], b[i:], nil},
					{{}, nil, b[:i], nil, {}, nil, b[i:], {}, nil},
				} {
					checkCut(t, key, want, i, k, bs)
				}
			}
		}
	}
}

func checkCut(t *testing.T, key []byte, want [64]byte, i, k int, bs [][]byte) {
	t.Helper()
	tag := [32]byte(want[:32])
	if got := hmac.Sum(key, bs...); got != want {
		t.Errorf("P5.2: a text cut at %d (%d): Sum = %x, want %x", i, k, got, want)
	}
	if got := hmac.Tag(key, bs...); got != tag {
		t.Errorf("P5.2: a text cut at %d (%d): Tag = %x, want %x", i, k, got, tag)
	}
	if !hmac.Right(key, tag, bs...) {
		t.Errorf("P5.2: a text cut at %d (%d): the tag is not right", i, k)
	}
}

func TestTextsCutTwice(t *testing.T) {
	r := source()
	key := randomBytes(r, 32)
	for _, n := range []int{1, 2, 3, 112, 129} {
		b := randomBytes(r, n)
		want := mac(key, b)
		for i := range n + 1 {
			for j := i; j <= n; j++ {
				if got := hmac.Sum(key, b[:i], b[i:j], b[j:]); got != want {
					t.Errorf("P5.2: %d bytes, cut at %d and %d: Sum = %x, want %x", n, i, j, got, want)
				}
			}
		}
	}
}

func TestTextsInEqualPieces(t *testing.T) {
	r := source()
	for n := range 300 {
		key, b := randomBytes(r, n), randomBytes(r, n)
		want := mac(key, b)
		for _, size := range []int{1, 2, 3, 7, 63, 64, 65, 127, 128, 129, 256} {
			var bs [][]byte
			for rest := b; len(rest) > 0; rest = rest[min(size, len(rest)):] {
				bs = append(bs, rest[:min(size, len(rest))])
			}
			if got := hmac.Sum(key, bs...); got != want {
				t.Errorf("P5.2: %d bytes, by %d: Sum = %x, want %x", n, size, got, want)
			}
		}
	}
}

// Where the key ends and the text begins does matter.
func TestKeyIsNoPartOfText(t *testing.T) {
	b := []byte("key and text")
	seen := map[[64]byte]int{}
	for i := range len(b) + 1 {
		got := hmac.Sum(b[:i], b[i:])
		if other, ok := seen[got]; ok {
			t.Errorf("P5.1: keys of %d and %d bytes have the same MAC", other, i)
		}
		seen[got] = i
	}
}

func TestZerosBehindKeys(t *testing.T) {
	r := source()
	text := randomBytes(r, 70)
	for n := range block + 1 {
		key := randomBytes(r, n)
		want := mac(key, text)
		for size := n; size <= block; size++ {
			longer := append(bytes.Clone(key), make([]byte, size-n)...)
			if got := hmac.Sum(longer, text); got != want {
				t.Errorf("P5.2: a key of %d bytes, with zeros to %d: Sum = %x, want %x", n, size, got, want)
			}
		}
	}
}

func TestZerosBehindKeysOfTags(t *testing.T) {
	r := source()
	text := randomBytes(r, 70)
	for n := range block + 1 {
		key := randomBytes(r, n)
		sum := mac(key, text)
		tag := [32]byte(sum[:32])
		for _, size := range []int{n, (n + block) / 2, block} {
			longer := append(bytes.Clone(key), make([]byte, size-n)...)
			if got := hmac.Tag(longer, text); got != tag || !hmac.Right(longer, tag, text) {
				t.Errorf("P5.2: a key of %d bytes, with zeros to %d: Tag = %x, want %x", n, size, got, tag)
			}
		}
	}
}

// With more zeros a key is longer than a block, and is replaced by its digest.
func TestZerosBeyondBlock(t *testing.T) {
	r := source()
	text := randomBytes(r, 70)
	for _, n := range []int{0, 1, 127, 128, 129} {
		key := randomBytes(r, n)
		for _, size := range []int{129, 130, 200, 256} {
			if size <= n {
				continue
			}
			longer := append(bytes.Clone(key), make([]byte, size-n)...)
			got := hmac.Sum(longer, text)
			if want := mac(longer, text); got != want || got == mac(key, text) {
				t.Errorf("P5.2: a key of %d bytes, with zeros to %d: Sum = %x, want %x", n, size, got, want)
			}
		}
	}
}

// Zeros before a key, or behind a text, are no padding.
func TestOtherZerosCount(t *testing.T) {
	key, text := []byte("key"), []byte("text")
	want := hmac.Sum(key, text)
	if hmac.Sum([]byte("\x00key"), text) == want {
		t.Errorf("P5.1: a zero before the key is not seen")
	}
	if hmac.Sum(key, text, []byte{0}) == want {
		t.Errorf("P5.1: a zero behind the text is not seen")
	}
	if hmac.Sum(key, []byte{0}, text) == want {
		t.Errorf("P5.1: a zero before the text is not seen")
	}
}

// margin is more than a block and its padding have.
const margin = 300

// argument is a piece of a larger slice, so that a write before it or into its spare capacity is seen.
type argument struct{ whole, before []byte }

func newArgument(b []byte) argument {
	whole := bytes.Repeat([]byte("<"), margin)
	whole = append(whole, b...)
	whole = append(whole, bytes.Repeat([]byte(">"), margin)...)
	return argument{whole, bytes.Clone(whole)}
}

// bytes returns a slice with room for a block behind it.
func (a argument) bytes() []byte { return a.whole[margin : len(a.whole)-margin] }

func (a argument) unchanged() bool { return bytes.Equal(a.whole, a.before) }

// spoil changes all of a slice.
func spoil(b []byte) {
	for i := range b {
		b[i] ^= 0xff
	}
}

func TestArgumentsStay(t *testing.T) {
	r := source()
	for n := range 300 {
		key, a, b, c := newArgument(randomBytes(r, n)), newArgument(randomBytes(r, 300-n)), newArgument([]byte("ABCDE")), newArgument(nil)
		pieces := [][]byte{a.bytes(), b.bytes(), c.bytes(), b.bytes()[1:3], a.bytes()}
		want := mac(key.bytes(), pieces...)
		if got := hmac.Sum(key.bytes(), pieces...); got != want {
			t.Errorf("P5.1: a key of %d bytes with spare capacity: Sum = %x, want %x", n, got, want)
		}
		hmac.Tag(key.bytes(), pieces...)
		hmac.Right(key.bytes(), [32]byte(want[:32]), pieces...)
		hmac.Right(key.bytes(), [32]byte{}, pieces...)
		hmac.Sum(key.bytes(), key.bytes(), key.bytes())
		for i, x := range []argument{key, a, b, c} {
			if !x.unchanged() {
				t.Errorf("P5.2: a key of %d bytes: argument %d is changed", n, i)
			}
		}
	}
}

// The list of the pieces is the caller's too, with its spare capacity.
func TestListStays(t *testing.T) {
	whole := [][]byte{[]byte("abcd"), nil, []byte("e"), []byte("spare"), []byte("more")}
	for n := range len(whole) {
		for _, size := range []int{3, 128, 129} {
			key := make([]byte, size)
			hmac.Sum(key, whole[:n]...)
			tag := hmac.Tag(key, whole[:n]...)
			hmac.Right(key, tag, whole[:n]...)
		}
		if got := string(bytes.Join(whole, []byte("|"))); got != "abcd||e|spare|more" {
			t.Fatalf("P5.2: the list with %d pieces is left as %q", n, got)
		}
	}
}

func TestNothingIsKept(t *testing.T) {
	r := source()
	for n := range 300 {
		key, text := randomBytes(r, n), randomBytes(r, 300-n)
		k, a := newArgument(key), newArgument(text)
		check(t, "P5.2", k.bytes(), a.bytes())
		spoil(k.whole)
		check(t, "P5.2", k.bytes(), a.bytes())
		spoil(a.whole)
		check(t, "P5.2", k.bytes(), a.bytes())
		check(t, "P5.2", key, text)
	}
}

// source has a fixed seed: each run of the tests tries the same inputs.
func source() *rand.Rand { return rand.New(rand.NewPCG(1, 2)) }

func randomBytes(r *rand.Rand, n int) []byte {
	b := make([]byte, n)
	for i := range b {
		b[i] = byte(r.Uint32())
	}
	return b
}
