package hkdf_test

import (
	"bytes"
	library "crypto/hkdf"
	lower "crypto/hmac"
	"crypto/sha512"
	"encoding/hex"
	"math"
	"math/rand/v2"
	"strings"
	"testing"

	"turnkey/hkdf"
)

const (
	block = 64
	most  = 255 * block
)

// mac is the MAC by the standard library.
func mac(key []byte, bs ...[]byte) []byte {
	h := lower.New(sha512.New, key)
	for _, b := range bs {
		h.Write(b)
	}
	return h.Sum(nil)
}

// extract is the extracted key by the standard library.
func extract(t *testing.T, salt, material []byte) [64]byte {
	t.Helper()
	key, err := library.Extract(sha512.New, material, salt)
	if err != nil {
		t.Fatal(err)
	}
	return [64]byte(key)
}

// expand is the expansion by the standard library.
func expand(t *testing.T, key []byte, info string, n int) []byte {
	t.Helper()
	out, err := library.Expand(sha512.New, key, info, n)
	if err != nil {
		t.Fatal(err)
	}
	return out
}

// derive is what Derive must return, by the standard library.
func derive(t *testing.T, material []byte, context byte, info []byte, n int) []byte {
	t.Helper()
	key := extract(t, make([]byte, 64), material)
	return expand(t, key[:], "turnkey\x00"+string([]byte{context})+string(info), n)
}

// counted returns the bytes from first up to, and without, end.
func counted(first, end int) string {
	var b []byte
	for x := first; x < end; x++ {
		b = append(b, byte(x))
	}
	return string(b)
}

// example is all that goes into an extraction and an expansion beside the two results.
type example struct{ salt, material, info, key, out string }

// examples have the inputs of RFC 5869's first three test cases, whose results there are of other hashes, and more;
// all results were computed by a program that is not in Go.
func examples() []example {
	return []example{
		{counted(0, 13), strings.Repeat("\x0b", 22), counted(0xf0, 0xfa),
			"665799823737ded04a88e47e54a5890bb2c3d247c7a4254a8e61350723590a26" +
				"c36238127d8661b88cf80ef802d57e2f7cebcf1e00e083848be19929c61b4237",
			"832390086cda71fb47625bb5ceb168e4c8e26a1a16ed34d9fc7fe92c1481579338da362cb8d9f925d7cb"},
		{counted(0x60, 0xb0), counted(0, 0x50), counted(0xb0, 0x100),
			"35672542907d4e142c00e84499e74e1de08be86535f924e022804ad775dde27e" +
				"c86cd1e5b7d178c74489bdbeb30712beb82d4f97416c5a94ea81ebdf3e629e4a",
			"ce6c97192805b346e6161e821ed165673b84f400a2b514b2fe23d84cd189ddf1" +
				"b695b48cbd1c8388441137b3ce28f16aa64ba33ba466b24df6cfcb021ecff235" +
				"f6a2056ce3af1de44d572097a8505d9e7a93"},
		{"", strings.Repeat("\x0b", 22), "",
			"fd200c4987ac491313bd4a2a13287121247239e11c9ef82802044b66ef357e5b" +
				"194498d0682611382348572a7b1611de54764094286320578a863f36562b0df6",
			"f5fa02b18298a72a8c23898a8703472c6eb179dc204c03425c970e3b164bf90fff22d04836d0e2343bac"},
		{"salt", "material", "info",
			"9d5e352d024d5c4a46c16193d0482c4455bf719e3f89ad06c723472d2693dbd2" +
				"c67a683cdfab34d6083a6b7b11f876089ac9e74e5029837424d3b1552870ab92",
			"de3a5073062120a8795bc91f06a807887422da146acdea7630143dea8815236f" +
				"fded3464487bd1165afc7059203a125187b2866aeffbe1826a827f223f3d19bd" +
				"cb0b2b79bb250ef01e1e819e4acef7eec0e3a156fe8627d4ed15401174392815" +
				"29ceb07419badf0a20ca82f1c37051ca454eb0164bcb9966c07bc46f9cb50c30"},
		{"", "", "",
			"b936cee86c9f87aa5d3c6f2e84cb5a4239a5fe50480a6ec66b70ab5b1f4ac673" +
				"0c6c515421b327ec1d69402e53dfb49ad7381eb067b338fd7b0cb22247225d47",
			"9d73c98e791e80ebe5b4cb45693aa32fdd44b5fa3edab3ec82f9d0f4d66905e2" +
				"215ad0d4ac20fe570da59a5d189fdde60e55f283703cd19bc95ebb16fc1c868e"},
	}
}

func TestExamples(t *testing.T) {
	for i, e := range examples() {
		key := hkdf.Extract([]byte(e.salt), []byte(e.material))
		if hex.EncodeToString(key[:]) != e.key {
			t.Errorf("P6.1: example %d: Extract = %x, want %s", i, key, e.key)
		}
		out, ok := hkdf.Expand(key[:], e.info, len(e.out)/2)
		if !ok || hex.EncodeToString(out) != e.out {
			t.Errorf("P6.1: example %d: Expand = %x, %t, want %s", i, out, ok, e.out)
		}
	}
}

// purpose is all that goes into Derive beside its result.
type purpose struct {
	material string
	context  byte
	info     string
	out      string
}

func TestExamplesOfDerive(t *testing.T) {
	for i, p := range []purpose{
		{"master", 7, "nonce",
			"fbae91699dd8f39219f0db23661a048b216b925844cee1690e8f8bcdc6f99af5"},
		{"", 0, "",
			"16134081aefb7161410cf92141884a6ed5a12e03e8e13b9370f3a4f29a629ad7" +
				"d6ccf51566b2d1405b1c74ea259257026442afc293224e410d45a41d42f0815e"},
		{counted(0, 64), 0x80, "\xff\x00\xc3",
			"870ded0bfe676a175784ca744e66f4d60ac036b02f0bf9ef3af2433efa3de900" +
				"4b8af8c86c66105777bb2569567e1d255075f9d12ddb760852cc5c31900653f265"},
		{"master", 255, "",
			"4cbfeb0fb65bd98426f761aae009594ab60b10c4dfd596d2428b0ace5378c8b7" +
				"cdc960a84e9811956b26d99e99af3b0c5c6c70a8990274cf0ed4cd71310625f2" +
				"20fc5322a635cb427a358e64a61c2dba317ad68c0022690fa3152e9a2c8a694ad02c3c26"},
	} {
		out, ok := hkdf.Derive([]byte(p.material), p.context, []byte(p.info), len(p.out)/2)
		if !ok || hex.EncodeToString(out) != p.out {
			t.Errorf("P6.1: example %d: Derive = %x, %t, want %s", i, out, ok, p.out)
		}
	}
}

// The chapter's own example.
func TestNoBytes(t *testing.T) {
	r := source()
	for _, size := range sizes() {
		key, info := randomBytes(r, size), randomBytes(r, size)
		if out, ok := hkdf.Expand(key, string(info), 0); !ok || len(out) != 0 {
			t.Errorf("P6.1: a key of %d bytes, n 0: Expand = %x, %t", size, out, ok)
		}
		if out, ok := hkdf.Derive(key, byte(size), info, 0); !ok || len(out) != 0 {
			t.Errorf("P6.1: material of %d bytes, n 0: Derive = %x, %t", size, out, ok)
		}
	}
}

// sizes are lengths around the ends of a MAC, of a block of the hash, and of its padding.
func sizes() []int {
	return []int{0, 1, 2, 15, 16, 31, 32, 33, 63, 64, 65, 111, 112, 127, 128, 129, 200, 256, 1000}
}

// lengths are those of results around the ends of blocks, the longest one among them.
func lengths() []int {
	return []int{0, 1, 2, 32, 63, 64, 65, 127, 128, 129, 192, 1000, most - 65, most - 64, most - 63, most - 1, most}
}

func checkExtract(t *testing.T, salt, material []byte) {
	t.Helper()
	want := extract(t, salt, material)
	if got := hkdf.Extract(salt, material); got != want {
		t.Errorf("P6.1: a salt of %d bytes, material of %d: Extract = %x, want %x", len(salt), len(material), got, want)
	}
}

func checkExpand(t *testing.T, promise string, key []byte, info string, n int) {
	t.Helper()
	want := expand(t, key, info, n)
	if got, ok := hkdf.Expand(key, info, n); !ok || !bytes.Equal(got, want) {
		t.Errorf("%s: a key of %d bytes, an info of %d, n %d: Expand = %x, %t, want %x", promise, len(key), len(info), n, got, ok, want)
	}
}

func checkDerive(t *testing.T, promise string, material []byte, context byte, info []byte, n int) {
	t.Helper()
	want := derive(t, material, context, info, n)
	if got, ok := hkdf.Derive(material, context, info, n); !ok || !bytes.Equal(got, want) {
		t.Errorf("%s: material of %d bytes, context %d, an info of %d, n %d: Derive = %x, %t, want %x", promise, len(material), context, len(info), n, got, ok, want)
	}
}

func TestExtractOfAllSizes(t *testing.T) {
	r := source()
	for _, m := range sizes() {
		for s := range 300 {
			checkExtract(t, randomBytes(r, s), randomBytes(r, m))
		}
	}
	for m := range 300 {
		for _, s := range sizes() {
			checkExtract(t, randomBytes(r, s), randomBytes(r, m))
		}
	}
}

// An empty salt stands for 64 zero bytes, and no salt is left out of the MAC.
func TestExtractWithoutSalt(t *testing.T) {
	r := source()
	for _, n := range sizes() {
		material := randomBytes(r, n)
		want := [64]byte(mac(make([]byte, 64), material))
		for i, salt := range [][]byte{nil, {}, make([]byte, 0, 200), []byte("spare")[:0], make([]byte, 64)} {
			if got := hkdf.Extract(salt, material); got != want {
				t.Errorf("P6.1: an empty salt (%d), material of %d bytes: Extract = %x, want %x", i, n, got, want)
			}
		}
		if hkdf.Extract([]byte{1}, material) == want {
			t.Errorf("P6.1: material of %d bytes: the salt is not seen", n)
		}
	}
}

// The salt is the key of the MAC, and the material is its text.
func TestExtractTellsSaltFromMaterial(t *testing.T) {
	a, b := []byte("one"), []byte("other")
	if got, want := hkdf.Extract(a, b), [64]byte(mac(a, b)); got != want {
		t.Errorf("P6.1: Extract = %x, want %x", got, want)
	}
	if hkdf.Extract(a, b) == hkdf.Extract(b, a) {
		t.Errorf("P6.1: salt and material are exchanged without effect")
	}
}

func TestExpandOfAllSizes(t *testing.T) {
	r := source()
	for _, n := range []int{1, 32, 64, 65, 200} {
		for size := range 300 {
			checkExpand(t, "P6.1", randomBytes(r, size), "info", n)
			checkExpand(t, "P6.1", []byte("key"), string(randomBytes(r, size)), n)
		}
		for _, a := range sizes() {
			for _, b := range sizes() {
				checkExpand(t, "P6.1", randomBytes(r, a), string(randomBytes(r, b)), n)
			}
		}
	}
}

func TestExpandOfLengths(t *testing.T) {
	r := source()
	for _, n := range lengths() {
		for _, size := range []int{0, 1, 64, 128, 129} {
			checkExpand(t, "P6.1", randomBytes(r, size), string(randomBytes(r, 30)), n)
			checkExpand(t, "P6.1", randomBytes(r, 64), string(randomBytes(r, size)), n)
		}
	}
}

func TestKeysOfNothing(t *testing.T) {
	want := expand(t, nil, "info", 100)
	for i, key := range [][]byte{nil, {}, make([]byte, 0, 200), []byte("spare")[:0]} {
		if got, ok := hkdf.Expand(key, "info", 100); !ok || !bytes.Equal(got, want) {
			t.Errorf("P6.1: no key (%d): Expand = %x, %t, want %x", i, got, ok, want)
		}
	}
}

// Each block is the MAC of what the chapter says, the number of the block among it.
func TestBlocks(t *testing.T) {
	key, info := []byte("key"), []byte("info")
	got, ok := hkdf.Expand(key, string(info), most)
	if !ok || len(got) != most {
		t.Fatalf("P6.1: Expand = %d bytes, %t", len(got), ok)
	}
	var previous []byte
	for i := range 255 {
		want := mac(key, previous, info, []byte{byte(i + 1)})
		previous = got[block*i : block*(i+1)]
		if !bytes.Equal(previous, want) {
			t.Errorf("P6.1: block %d is %x, want %x", i+1, previous, want)
		}
	}
}

// notText are infos that a conversion by runes, or one that ends at a zero, would change.
func notText() []string {
	return []string{"\x00", "\x00\x00", "info\x00", "\x00info", "in\x00fo", "\x80", "\xff", "\xff\xfe\xfd", "\xc3", "\xc3(", "\xe2\x82",
		"\xed\xa0\x80", "\xf5\x80\x80\x80", "\xc0\x80", "\xef\xbf\xbd", "\xc3\xbf", "\xef\xbb\xbf", counted(0, 256), counted(128, 256)}
}

func TestInfosThatAreNoText(t *testing.T) {
	seen := map[string]string{}
	for _, info := range notText() {
		for _, n := range []int{1, 64, 65, 200} {
			checkExpand(t, "P6.1", []byte("key"), info, n)
			checkDerive(t, "P6.1", []byte("master"), 1, []byte(info), n)
		}
		out, _ := hkdf.Expand([]byte("key"), info, 64)
		if other, ok := seen[string(out)]; ok {
			t.Errorf("P6.1: the infos %q and %q expand to the same", other, info)
		}
		seen[string(out)] = info
	}
	for x := range 256 {
		checkExpand(t, "P6.1", []byte("key"), string([]byte{byte(x)}), 65)
		checkDerive(t, "P6.1", []byte("master"), 1, []byte{byte(x)}, 65)
	}
}

// Beside the nearest ones, these are lengths that a cut to 32 or 16 bits, or a multiplication, would make good.
func wrongLengths() []int {
	wrong := []int{-1, most + 1, math.MaxInt - 64}
	for _, n := range []int{1, 2, 31, 32, 63, 64, 65, 128, 256, 1000, most - 1, most, most + 1} {
		wrong = append(wrong, -n, most+n, 1<<16+n, 1<<31+n, 1<<32+n, 1<<40+n, 1<<58+n, -1<<32+n, -1<<16+n, math.MinInt+n)
	}
	return append(wrong, math.MinInt, math.MinInt32, math.MaxInt32, math.MaxInt-63, math.MaxInt-1, math.MaxInt)
}

// It stops at the first fault: a program that accepts one of these lengths may take very long for the next one.
func TestWrongLengths(t *testing.T) {
	for _, n := range wrongLengths() {
		for _, key := range [][]byte{nil, []byte("key"), make([]byte, 200)} {
			if out, ok := hkdf.Expand(key, "info", n); ok || len(out) != 0 {
				t.Fatalf("P6.1: n %d: Expand = %d bytes, %t", n, len(out), ok)
			}
			if out, ok := hkdf.Expand(key, "", n); ok || len(out) != 0 {
				t.Fatalf("P6.1: n %d, no info: Expand = %d bytes, %t", n, len(out), ok)
			}
			if out, ok := hkdf.Derive(key, 7, []byte("info"), n); ok || len(out) != 0 {
				t.Fatalf("P6.1: n %d: Derive = %d bytes, %t", n, len(out), ok)
			}
		}
	}
}

func TestDeriveOfAllContexts(t *testing.T) {
	seen := map[string]int{}
	for context := range 256 {
		for _, n := range []int{1, 32, 64, 65} {
			checkDerive(t, "P6.1", []byte("master"), byte(context), []byte("nonce"), n)
			checkDerive(t, "P6.1", []byte("master"), byte(context), nil, n)
		}
		out, _ := hkdf.Derive([]byte("master"), byte(context), []byte("nonce"), 64)
		if other, ok := seen[string(out)]; ok {
			t.Errorf("P6.1: the contexts %d and %d derive the same", other, context)
		}
		seen[string(out)] = context
	}
}

func TestDeriveOfAllSizes(t *testing.T) {
	r := source()
	for _, n := range []int{1, 32, 64, 65, 200} {
		for _, a := range sizes() {
			for _, b := range sizes() {
				checkDerive(t, "P6.1", randomBytes(r, a), byte(r.Uint32()), randomBytes(r, b), n)
			}
		}
	}
	for _, n := range lengths() {
		checkDerive(t, "P6.1", randomBytes(r, 32), 3, randomBytes(r, 16), n)
	}
}

// Derive is put together from the two others.
func TestDeriveByTheOthers(t *testing.T) {
	r := source()
	for _, n := range lengths() {
		material, info, context := randomBytes(r, 40), randomBytes(r, 20), byte(r.Uint32())
		key := hkdf.Extract(nil, material)
		want, _ := hkdf.Expand(key[:], "turnkey\x00"+string([]byte{context})+string(info), n)
		if got, ok := hkdf.Derive(material, context, info, n); !ok || !bytes.Equal(got, want) {
			t.Errorf("P6.1: n %d: Derive = %x, %t, want %x", n, got, ok, want)
		}
	}
}

func TestDeriveOfNothing(t *testing.T) {
	want := derive(t, nil, 0, nil, 70)
	for i, nothing := range [][]byte{nil, {}, make([]byte, 0, 200), []byte("spare")[:0]} {
		if got, ok := hkdf.Derive(nothing, 0, nothing, 70); !ok || !bytes.Equal(got, want) {
			t.Errorf("P6.1: no material and no info (%d): Derive = %x, %t, want %x", i, got, ok, want)
		}
	}
}

// checkPrefix holds an expansion against a longer one.
func checkPrefix(t *testing.T, key []byte, info string, long []byte, n int) {
	t.Helper()
	if got, ok := hkdf.Expand(key, info, n); !ok || len(got) != n || !bytes.Equal(got, long[:n]) {
		t.Errorf("P6.2: n %d: Expand = %x, %t, not the start of the one with n %d", n, got, ok, len(long))
	}
}

func TestShorterIsPrefix(t *testing.T) {
	r := source()
	for _, size := range []int{0, 1, 64, 128, 129} {
		key, info := randomBytes(r, size), string(randomBytes(r, size))
		long, ok := hkdf.Expand(key, info, 1000)
		if !ok || len(long) != 1000 {
			t.Fatalf("P6.1: n 1000: Expand = %d bytes, %t", len(long), ok)
		}
		for n := range 1001 {
			checkPrefix(t, key, info, long, n)
		}
	}
}

func TestShorterIsPrefixOfLongest(t *testing.T) {
	key, info := []byte("key"), "info"
	long, ok := hkdf.Expand(key, info, most)
	if !ok || len(long) != most {
		t.Fatalf("P6.1: n %d: Expand = %d bytes, %t", most, len(long), ok)
	}
	for n := range most + 1 {
		if testing.Short() && (n+1)%block > 2 {
			continue
		}
		checkPrefix(t, key, info, long, n)
	}
}

func TestShorterDerivationIsPrefix(t *testing.T) {
	r := source()
	material, info := randomBytes(r, 32), randomBytes(r, 16)
	long, ok := hkdf.Derive(material, 9, info, 1000)
	if !ok || len(long) != 1000 {
		t.Fatalf("P6.1: n 1000: Derive = %d bytes, %t", len(long), ok)
	}
	for n := range 1001 {
		if got, ok := hkdf.Derive(material, 9, info, n); !ok || len(got) != n || !bytes.Equal(got, long[:n]) {
			t.Errorf("P6.2: n %d: Derive = %x, %t, not the start of the one with n 1000", n, got, ok)
		}
	}
}

// What follows in a longer expansion must not be found behind a shorter one.
func TestNothingBehindResults(t *testing.T) {
	for n := range 300 {
		out, _ := hkdf.Expand([]byte("key"), "info", n)
		more, _ := hkdf.Derive([]byte("key"), 1, []byte("info"), n)
		for i, b := range [][]byte{out, more} {
			for j, x := range b[len(b):cap(b)] {
				if x != 0 {
					t.Fatalf("P6.1: n %d (%d): byte %d behind the result is %x", n, i, j, x)
				}
			}
		}
	}
}

// margin is more than a block of the hash and its padding have.
const margin = 300

// argument is a piece of a larger slice, so that a write before it or into its spare capacity is seen.
type argument struct{ whole, before []byte }

func newArgument(b []byte) argument {
	whole := bytes.Repeat([]byte("<"), margin)
	whole = append(whole, b...)
	whole = append(whole, bytes.Repeat([]byte(">"), margin)...)
	return argument{whole, bytes.Clone(whole)}
}

// bytes returns a slice with room for a block behind it.
func (a argument) bytes() []byte { return a.whole[margin : len(a.whole)-margin] }

func (a argument) unchanged() bool { return bytes.Equal(a.whole, a.before) }

// spoil changes all of a slice, with its spare capacity.
func spoil(b []byte) {
	b = b[:cap(b)]
	for i := range b {
		b[i] ^= 0xff
	}
}

func TestArgumentsStay(t *testing.T) {
	r := source()
	for size := range 300 {
		a, b := newArgument(randomBytes(r, size)), newArgument(randomBytes(r, 300-size))
		hkdf.Extract(a.bytes(), b.bytes())
		hkdf.Extract(b.bytes(), a.bytes())
		hkdf.Extract(a.bytes(), a.bytes())
		for _, n := range []int{-1, 0, 1, 63, 64, 65, 200, most + 1} {
			hkdf.Expand(a.bytes(), "info", n)
			hkdf.Derive(a.bytes(), 1, b.bytes(), n)
			hkdf.Derive(b.bytes(), 1, a.bytes(), n)
			hkdf.Derive(a.bytes(), 1, a.bytes(), n)
		}
		if !a.unchanged() || !b.unchanged() {
			t.Errorf("P6.2: arguments of %d and %d bytes are changed", size, 300-size)
		}
		checkExtract(t, a.bytes(), b.bytes())
		checkExpand(t, "P6.1", a.bytes(), "info", 70)
		checkDerive(t, "P6.1", a.bytes(), 1, b.bytes(), 70)
	}
}

// A change of a result reaches neither an argument nor another result.
func TestResultsAreNewMemory(t *testing.T) {
	r := source()
	for _, n := range []int{1, 2, 32, 63, 64, 65, 128, 200, most} {
		for _, size := range []int{1, 32, 64, 128, 129, 200} {
			key, info := newArgument(randomBytes(r, size)), newArgument(randomBytes(r, size))
			first, _ := hkdf.Expand(key.bytes(), "info", n)
			second, _ := hkdf.Expand(key.bytes(), "info", n)
			third, _ := hkdf.Derive(key.bytes(), 1, info.bytes(), n)
			fourth, _ := hkdf.Derive(key.bytes(), 1, info.bytes(), n)
			keep, keepMore := bytes.Clone(second), bytes.Clone(fourth)
			spoil(first)
			spoil(third)
			if !key.unchanged() || !info.unchanged() {
				t.Errorf("P6.2: n %d: a result shares memory with an argument of %d bytes", n, size)
			}
			if !bytes.Equal(second, keep) || !bytes.Equal(fourth, keepMore) {
				t.Errorf("P6.2: n %d: two results share memory", n)
			}
			checkExpand(t, "P6.2", key.bytes(), "info", n)
			checkDerive(t, "P6.2", key.bytes(), 1, info.bytes(), n)
		}
	}
}

func TestNothingIsKept(t *testing.T) {
	r := source()
	for size := range 150 {
		a, b := newArgument(randomBytes(r, size)), newArgument(randomBytes(r, 150-size))
		out, _ := hkdf.Expand(a.bytes(), "info", 70)
		more, _ := hkdf.Derive(a.bytes(), 1, b.bytes(), 70)
		keep, keepMore := bytes.Clone(out), bytes.Clone(more)
		for _, x := range []argument{a, b, a} {
			spoil(x.whole)
			checkExtract(t, a.bytes(), b.bytes())
			checkExpand(t, "P6.2", a.bytes(), "info", 70)
			checkDerive(t, "P6.2", a.bytes(), 1, b.bytes(), 70)
		}
		if !bytes.Equal(out, keep) || !bytes.Equal(more, keepMore) {
			t.Errorf("P6.2: arguments of %d and %d bytes were changed, and a result with them", size, 150-size)
		}
	}
}

// source has a fixed seed: each run of the tests tries the same inputs.
func source() *rand.Rand { return rand.New(rand.NewPCG(1, 2)) }

func randomBytes(r *rand.Rand, n int) []byte {
	b := make([]byte, n)
	for i := range b {
		b[i] = byte(r.Uint32())
	}
	return b
}
