package aes_test

import (
	"bytes"
	library "crypto/aes"
	"encoding/hex"
	"math/rand/v2"
	"testing"

	"turnkey/aes"
	"turnkey/api"
)

const (
	keySize   = 32
	blockSize = 16
)

// encrypt is the encrypted block by the standard library.
func encrypt(t *testing.T, key []byte, b [16]byte) [16]byte {
	t.Helper()
	c, err := library.NewCipher(key)
	if err != nil {
		t.Fatal(err)
	}
	var out [16]byte
	c.Encrypt(out[:], b[:])
	return out
}

// decrypt is the decrypted block by the standard library.
func decrypt(t *testing.T, key []byte, b [16]byte) [16]byte {
	t.Helper()
	c, err := library.NewCipher(key)
	if err != nil {
		t.Fatal(err)
	}
	var out [16]byte
	c.Decrypt(out[:], b[:])
	return out
}

// cipherOf returns the cipher of a key that must have one.
func cipherOf(t *testing.T, key []byte) *aes.Cipher {
	t.Helper()
	c, err := aes.New(key)
	if c == nil || err != api.OK {
		t.Fatalf("P7.1: a key of %d bytes: New = %v, %d", len(key), c, err)
	}
	return c
}

// check holds a cipher of that key against the standard library, with b as a plain and as an encrypted block.
func check(t *testing.T, promise string, c *aes.Cipher, key []byte, b [16]byte) {
	t.Helper()
	if got, want := c.Encrypt(b), encrypt(t, key, b); got != want {
		t.Errorf("%s: the key %x: Encrypt(%x) = %x, want %x", promise, key, b, got, want)
	}
	if got, want := c.Decrypt(b), decrypt(t, key, b); got != want {
		t.Errorf("%s: the key %x: Decrypt(%x) = %x, want %x", promise, key, b, got, want)
	}
}

// checkReversal encrypts and decrypts b, in both orders.
func checkReversal(t *testing.T, c *aes.Cipher, key []byte, b [16]byte) {
	t.Helper()
	if got := c.Decrypt(c.Encrypt(b)); got != b {
		t.Errorf("P7.2: the key %x: %x, encrypted and decrypted, is %x", key, b, got)
	}
	if got := c.Encrypt(c.Decrypt(b)); got != b {
		t.Errorf("P7.2: the key %x: %x, decrypted and encrypted, is %x", key, b, got)
	}
}

// example is a key and a block beside its encryption, in hexadecimal.
type example struct{ key, plain, encrypted string }

// examples are the chapter's own, the four blocks of SP 800-38A, bytes of zeros and ones, and single bits;
// all encryptions were computed by a program that is not in Go.
func examples() []example {
	const (
		published = "603deb1015ca71be2b73aef0857d77811f352c073b6108d72d9810a30914dff4"
		zeroKey   = "0000000000000000000000000000000000000000000000000000000000000000"
		onesKey   = "ffffffffffffffffffffffffffffffffffffffffffffffffffffffffffffffff"
		zeros     = "00000000000000000000000000000000"
		ones      = "ffffffffffffffffffffffffffffffff"
	)
	return []example{
		{"000102030405060708090a0b0c0d0e0f101112131415161718191a1b1c1d1e1f",
			"00112233445566778899aabbccddeeff", "8ea2b7ca516745bfeafc49904b496089"},
		{published, "6bc1bee22e409f96e93d7e117393172a", "f3eed1bdb5d2a03c064b5a7e3db181f8"},
		{published, "ae2d8a571e03ac9c9eb76fac45af8e51", "591ccb10d410ed26dc5ba74a31362870"},
		{published, "30c81c46a35ce411e5fbc1191a0a52ef", "b6ed21b99ca6f4f9f153e7b1beafed1d"},
		{published, "f69f2445df4f9b17ad2b417be66c3710", "23304b7a39f9f3ff067d8d8f9e24ecc7"},
		{zeroKey, zeros, "dc95c078a2408989ad48a21492842087"},
		{zeroKey, ones, "acdace8078a32b1a182bfa4987ca1347"},
		{onesKey, zeros, "4bf85f1b5d54adbc307b0a048389adcb"},
		{onesKey, ones, "d5f93d6d3311cb309f23621b02fbd5e2"},
		{"8000000000000000000000000000000000000000000000000000000000000000", zeros, "e35a6dcb19b201a01ebcfa8aa22b5759"},
		{"0000000000000000000000000000000000000000000000000000000000000001", zeros, "6b6cfe160a6263631b292f879eeff926"},
		{zeroKey, "80000000000000000000000000000000", "ddc6bf790c15760d8d9aeb6f9a75fd4e"},
		{zeroKey, "00000000000000000000000000000001", "530f8afbc74536b9a963b4f1c4cb738b"},
		{hex.EncodeToString([]byte("an example of a key of 32 bytes.")),
			hex.EncodeToString([]byte("and of one block")), "fe19f5ad741ba6ccd5333e81ec696e38"},
	}
}

func fromHex(t *testing.T, s string) []byte {
	t.Helper()
	b, err := hex.DecodeString(s)
	if err != nil {
		t.Fatal(err)
	}
	return b
}

func TestExamples(t *testing.T) {
	for i, e := range examples() {
		key := fromHex(t, e.key)
		plain, encrypted := [16]byte(fromHex(t, e.plain)), [16]byte(fromHex(t, e.encrypted))
		c := cipherOf(t, key)
		if got := c.Encrypt(plain); got != encrypted {
			t.Errorf("P7.1: example %d: Encrypt = %x, want %s", i, got, e.encrypted)
		}
		if got := c.Decrypt(encrypted); got != plain {
			t.Errorf("P7.1: example %d: Decrypt = %x, want %s", i, got, e.plain)
		}
		check(t, "P7.1", c, key, plain)
		checkReversal(t, c, key, plain)
	}
}

// Each block becomes part of the next key, so that one fault would change all that follows.
// The last block and key were computed by a program that is not in Go.
func TestChain(t *testing.T) {
	key := make([]byte, keySize)
	var b [16]byte
	for range 1000 {
		b = cipherOf(t, key).Encrypt(b)
		for i, x := range b {
			key[i] ^= x
			key[keySize-1-i] ^= x
		}
	}
	if got := hex.EncodeToString(b[:]); got != "0c2a57c651c1ee66bfb7edf4e6f0a161" {
		t.Errorf("P7.1: the last block is %s", got)
	}
	if got := hex.EncodeToString(key); got != "3aebe8eeb0ced648800519a92ce3640b0b64e32ca919058048d6ceb0eee8eb3a" {
		t.Errorf("P7.1: the last key is %s", got)
	}
}

// wrongSizes are lengths of keys: those of other variants of the cipher, those around 32, and longer ones,
// of which a cut to a byte or to some words would leave 32 bytes.
func wrongSizes() []int {
	sizes := []int{16, 24, 31, 33, 48, 63, 64, 65, 128, 256, 256 + keySize, 512 + keySize, 1000, 1<<16 + keySize, 1 << 20}
	for n := range 100 {
		if n != keySize {
			sizes = append(sizes, n)
		}
	}
	return sizes
}

func TestWrongKeys(t *testing.T) {
	r := source()
	for _, n := range wrongSizes() {
		for _, key := range [][]byte{make([]byte, n), randomBytes(r, n), bytes.Repeat([]byte{0xff}, n)} {
			if c, err := aes.New(key); c != nil || err != api.ErrArg {
				t.Errorf("P7.1: a key of %d bytes: New = %v, %d", n, c, err)
			}
		}
	}
}

// What counts is the length of the key, not its capacity.
func TestWrongKeysWithCapacity(t *testing.T) {
	whole := make([]byte, 100)
	for n := range len(whole) {
		for _, end := range []int{n, max(n, keySize), len(whole)} {
			c, err := aes.New(whole[:n:end])
			if n == keySize && (c == nil || err != api.OK) || n != keySize && (c != nil || err != api.ErrArg) {
				t.Errorf("P7.1: a key of %d bytes with capacity %d: New = %v, %d", n, end, c, err)
			}
		}
	}
}

func TestNoKey(t *testing.T) {
	for i, key := range [][]byte{nil, {}, make([]byte, 0, keySize), []byte("spare")[:0]} {
		if c, err := aes.New(key); c != nil || err != api.ErrArg {
			t.Errorf("P7.1: no key (%d): New = %v, %d", i, c, err)
		}
	}
}

// A key that is refused leaves ciphers, and those that are made later, as they are.
func TestWrongKeysHaveNoEffect(t *testing.T) {
	r := source()
	key, b := randomBytes(r, keySize), randomBlock(r)
	c := cipherOf(t, key)
	for _, n := range wrongSizes() {
		aes.New(randomBytes(r, n))
		check(t, "P7.1", c, key, b)
		check(t, "P7.1", cipherOf(t, key), key, b)
	}
}

func TestManyKeysAndBlocks(t *testing.T) {
	r := source()
	for range 500 {
		key := randomBytes(r, keySize)
		c := cipherOf(t, key)
		for range 20 {
			b := randomBlock(r)
			check(t, "P7.1", c, key, b)
			checkReversal(t, c, key, b)
		}
	}
}

// uniform returns n bytes x.
func uniform(x byte, n int) []byte { return bytes.Repeat([]byte{x}, n) }

// All bytes of such a key and block go through S alike, until the round keys tell them apart.
func TestEqualBytes(t *testing.T) {
	for _, x := range []byte{0, 1, 0x52, 0x63, 0x7f, 0x80, 0xfe, 0xff} {
		key := uniform(x, keySize)
		c := cipherOf(t, key)
		for y := range 256 {
			b := [16]byte(uniform(byte(y), blockSize))
			check(t, "P7.1", c, key, b)
			checkReversal(t, c, key, b)
		}
	}
	for x := range 256 {
		key := uniform(byte(x), keySize)
		c := cipherOf(t, key)
		for _, y := range []byte{0, 0xff, byte(x), ^byte(x)} {
			check(t, "P7.1", c, key, [16]byte(uniform(y, blockSize)))
		}
	}
}

// Every byte of a key, and of a block, has every value.
func TestEachByteOfKeysAndBlocks(t *testing.T) {
	r := source()
	key, b := randomBytes(r, keySize), randomBlock(r)
	for i := range keySize {
		for x := range 256 {
			changed := bytes.Clone(key)
			changed[i] = byte(x)
			check(t, "P7.1", cipherOf(t, changed), changed, b)
		}
	}
	c := cipherOf(t, key)
	for i := range blockSize {
		for x := range 256 {
			changed := b
			changed[i] = byte(x)
			check(t, "P7.1", c, key, changed)
			checkReversal(t, c, key, changed)
		}
	}
}

func TestEachBitOfKeys(t *testing.T) {
	r := source()
	for _, key := range [][]byte{make([]byte, keySize), uniform(0xff, keySize), randomBytes(r, keySize)} {
		b := randomBlock(r)
		encrypted := map[[16]byte]int{cipherOf(t, key).Encrypt(b): -1}
		decrypted := map[[16]byte]int{cipherOf(t, key).Decrypt(b): -1}
		for bit := range 8 * keySize {
			changed := bytes.Clone(key)
			changed[bit/8] ^= 1 << (bit % 8)
			c := cipherOf(t, changed)
			check(t, "P7.1", c, changed, b)
			checkReversal(t, c, changed, b)
			if other, ok := encrypted[c.Encrypt(b)]; ok {
				t.Errorf("P7.1: the key %x with bits %d and %d changed: the same encryption", key, other, bit)
			}
			if other, ok := decrypted[c.Decrypt(b)]; ok {
				t.Errorf("P7.1: the key %x with bits %d and %d changed: the same decryption", key, other, bit)
			}
			encrypted[c.Encrypt(b)], decrypted[c.Decrypt(b)] = bit, bit
		}
	}
}

func TestEachBitOfBlocks(t *testing.T) {
	r := source()
	for _, b := range [][16]byte{{}, [16]byte(uniform(0xff, blockSize)), randomBlock(r)} {
		for _, key := range [][]byte{make([]byte, keySize), uniform(0xff, keySize), randomBytes(r, keySize)} {
			c := cipherOf(t, key)
			for bit := range 8 * blockSize {
				changed := b
				changed[bit/8] ^= 1 << (bit % 8)
				check(t, "P7.1", c, key, changed)
				checkReversal(t, c, key, changed)
			}
		}
	}
}

// A cipher that can be decrypted is one to one, in both directions.
func TestDifferentBlocksStayDifferent(t *testing.T) {
	r := source()
	for _, key := range [][]byte{make([]byte, keySize), uniform(0xff, keySize), randomBytes(r, keySize)} {
		c := cipherOf(t, key)
		encrypted, decrypted := map[[16]byte][16]byte{}, map[[16]byte][16]byte{}
		b, first, second := randomBlock(r), r.IntN(8), 8+r.IntN(8)
		for n := range 1 << 14 {
			b[first], b[second] = byte(n), byte(n>>8)
			e, d := c.Encrypt(b), c.Decrypt(b)
			if other, ok := encrypted[e]; ok {
				t.Errorf("P7.2: the key %x: %x and %x are encrypted to the same", key, other, b)
			}
			if other, ok := decrypted[d]; ok {
				t.Errorf("P7.2: the key %x: %x and %x are decrypted to the same", key, other, b)
			}
			encrypted[e], decrypted[d] = b, b
		}
	}
}

// Many encryptions, then as many decryptions, lead back.
func TestLongWayBack(t *testing.T) {
	r := source()
	for range 10 {
		key, b := randomBytes(r, keySize), randomBlock(r)
		c := cipherOf(t, key)
		forth, back := b, b
		for range 1000 {
			forth, back = c.Encrypt(forth), c.Decrypt(back)
		}
		if forth == b || back == b {
			t.Errorf("P7.2: the key %x: %x is its own encryption or decryption", key, b)
		}
		for range 1000 {
			forth, back = c.Decrypt(forth), c.Encrypt(back)
		}
		if forth != b || back != b {
			t.Errorf("P7.2: the key %x: %x comes back as %x and %x", key, b, forth, back)
		}
	}
}

// The cipher of another key decrypts to something else.
func TestOtherKeysDoNotReverse(t *testing.T) {
	r := source()
	key, b := randomBytes(r, keySize), randomBlock(r)
	encrypted := cipherOf(t, key).Encrypt(b)
	for bit := range 8 * keySize {
		other := bytes.Clone(key)
		other[bit/8] ^= 1 << (bit % 8)
		if cipherOf(t, other).Decrypt(encrypted) == b {
			t.Errorf("P7.1: the key with bit %d changed decrypts what the key encrypted", bit)
		}
	}
}

// argument is a piece of a larger slice, so that a write before it or into its spare capacity is seen.
type argument struct{ whole, before []byte }

// margin is more than all the words of the round keys have.
const margin = 300

func newArgument(b []byte) argument {
	whole := append(uniform('<', margin), b...)
	whole = append(whole, uniform('>', margin)...)
	return argument{whole, bytes.Clone(whole)}
}

// bytes returns a slice with room for the round keys behind it.
func (a argument) bytes() []byte { return a.whole[margin : len(a.whole)-margin] }

func (a argument) unchanged() bool { return bytes.Equal(a.whole, a.before) }

// spoil changes all of a slice.
func spoil(b []byte) {
	for i := range b {
		b[i] ^= 0xff
	}
}

func TestArgumentsStay(t *testing.T) {
	r := source()
	for n := range 100 {
		a := newArgument(randomBytes(r, n))
		c, err := aes.New(a.bytes())
		if !a.unchanged() {
			t.Errorf("P7.2: New changes its key of %d bytes, or what is around it", n)
		}
		if err != api.OK {
			continue
		}
		for range 20 {
			b := randomBlock(r)
			keep := b
			c.Encrypt(b)
			c.Decrypt(b)
			check(t, "P7.2", c, a.before[margin:margin+n], b)
			if b != keep || !a.unchanged() {
				t.Errorf("P7.2: the block %x or the key is changed, to %x and %x", keep, b, a.bytes())
			}
		}
	}
}

// The key's bytes may be used for something else as soon as New has returned.
func TestKeyIsNotKept(t *testing.T) {
	r := source()
	for range 50 {
		key := randomBytes(r, keySize)
		a := newArgument(key)
		c := cipherOf(t, a.bytes())
		spoil(a.whole)
		check(t, "P7.2", c, key, randomBlock(r))
		for i := range keySize {
			a.bytes()[i] = byte(r.Uint32())
			check(t, "P7.2", c, key, randomBlock(r))
		}
		clear(a.whole)
		check(t, "P7.2", c, key, randomBlock(r))
		check(t, "P7.2", cipherOf(t, a.bytes()), make([]byte, keySize), randomBlock(r))
	}
}

// A block that came out of a slice is not that slice, and a result that is changed is not the cipher's.
func TestBlocksAreNotKept(t *testing.T) {
	r := source()
	for range 50 {
		key, whole := randomBytes(r, keySize), randomBytes(r, 3*blockSize)
		c := cipherOf(t, key)
		before := bytes.Clone(whole)
		first := c.Encrypt([16]byte(whole[blockSize:]))
		second := c.Decrypt([16]byte(whole[blockSize:]))
		if !bytes.Equal(whole, before) {
			t.Errorf("P7.2: a block's slice is changed")
		}
		keep := [2][16]byte{first, second}
		spoil(whole)
		check(t, "P7.2", c, key, [16]byte(whole[blockSize:]))
		if first != keep[0] || second != keep[1] {
			t.Errorf("P7.2: the results change with the slice of their block")
		}
		spoil(first[:])
		spoil(second[:])
		check(t, "P7.2", c, key, [16]byte(before[blockSize:]))
	}
}

// Ciphers that are used in turns do not disturb each other, and calls leave no trace in their cipher.
func TestCiphersInTurns(t *testing.T) {
	r := source()
	var keys [][]byte
	var ciphers []*aes.Cipher
	for range 20 {
		keys = append(keys, randomBytes(r, keySize))
		ciphers = append(ciphers, cipherOf(t, keys[len(keys)-1]))
	}
	again := cipherOf(t, keys[0])
	for range 1000 {
		i, b := r.IntN(len(keys)), randomBlock(r)
		check(t, "P7.1", ciphers[i], keys[i], b)
	}
	for range 20 {
		b := randomBlock(r)
		if again.Encrypt(b) != ciphers[0].Encrypt(b) || again.Decrypt(b) != ciphers[0].Decrypt(b) {
			t.Errorf("P7.1: two ciphers of the key %x differ for %x", keys[0], b)
		}
	}
}

// source has a fixed seed: each run of the tests tries the same inputs.
func source() *rand.Rand { return rand.New(rand.NewPCG(1, 2)) }

func randomBytes(r *rand.Rand, n int) []byte {
	b := make([]byte, n)
	for i := range b {
		b[i] = byte(r.Uint32())
	}
	return b
}

func randomBlock(r *rand.Rand) [16]byte { return [16]byte(randomBytes(r, blockSize)) }
