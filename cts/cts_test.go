package cts_test

import (
	"bytes"
	library "crypto/aes"
	"crypto/cipher"
	"crypto/sha256"
	"encoding/hex"
	"errors"
	"math/rand/v2"
	"slices"
	"testing"

	"turnkey/aes"
	"turnkey/api"
	"turnkey/cts"
)

const (
	keySize   = 32
	blockSize = 16
	minText   = 16
	maxText   = 256
)

// call is one of the two functions, with what the standard library makes of a text in its place.
type call struct {
	name string
	run  func(c cts.Block, b []byte) ([]byte, api.Errno)
	want func(c cipher.Block, b []byte) []byte
}

func calls() []call {
	return []call{{"Encrypt", cts.Encrypt, encrypt}, {"Decrypt", cts.Decrypt, decrypt}}
}

// pad returns b with zeros up to whole blocks.
func pad(b []byte) []byte {
	return append(bytes.Clone(b), make([]byte, (blockSize-len(b)%blockSize)%blockSize)...)
}

// split returns whole blocks as those before the last two, the last but one, and the last one.
func split(b []byte) (rest, one, two []byte) {
	return b[:len(b)-2*blockSize], b[len(b)-2*blockSize : len(b)-blockSize], b[len(b)-blockSize:]
}

// encrypt is the encrypted text, by the standard library's CBC.
func encrypt(c cipher.Block, b []byte) []byte {
	out := pad(b)
	cipher.NewCBCEncrypter(c, make([]byte, blockSize)).CryptBlocks(out, out)
	if len(out) > blockSize {
		rest, one, two := split(out)
		out = slices.Concat(rest, two, one)
	}
	return out[:len(b)]
}

// decrypt is the decrypted text, by the standard library's CBC.
// What was truncated makes the last block end with zeros: it is what that block decrypts to.
func decrypt(c cipher.Block, b []byte) []byte {
	out := pad(b)
	if len(out) > blockSize {
		rest, one, two := split(out)
		inner := make([]byte, blockSize)
		c.Decrypt(inner, one)
		cut := len(out) - len(b)
		copy(two[blockSize-cut:], inner[blockSize-cut:])
		out = slices.Concat(rest, two, one)
	}
	cipher.NewCBCDecrypter(c, make([]byte, blockSize)).CryptBlocks(out, out)
	return out[:len(b)]
}

// wrapped is a cipher of the standard library as a block cipher.
type wrapped struct{ cipher.Block }

func (w wrapped) Encrypt(b [16]byte) [16]byte {
	var out [16]byte
	w.Block.Encrypt(out[:], b[:])
	return out
}

func (w wrapped) Decrypt(b [16]byte) [16]byte {
	var out [16]byte
	w.Block.Decrypt(out[:], b[:])
	return out
}

// libraryCipher is the standard library's cipher of a key.
func libraryCipher(t *testing.T, key []byte) cipher.Block {
	t.Helper()
	c, err := library.NewCipher(key)
	if err != nil {
		t.Fatal(err)
	}
	return c
}

// layerCipher is layer 7's cipher of a key.
func layerCipher(t *testing.T, key []byte) *aes.Cipher {
	t.Helper()
	c, err := aes.New(key)
	if err != api.OK {
		t.Fatalf("a key of %d bytes: aes.New = %d", len(key), err)
	}
	return c
}

// must returns the result of a call that must not fail.
func (c call) must(t *testing.T, block cts.Block, b []byte) []byte {
	t.Helper()
	out, err := c.run(block, b)
	if err != api.OK || len(out) != len(b) {
		t.Fatalf("P9.1: %d bytes: %s = %d bytes, %d", len(b), c.name, len(out), err)
	}
	return out
}

// check holds a call with layer 7's cipher against the standard library.
func (c call) check(t *testing.T, promise string, key, b []byte) {
	t.Helper()
	if got, want := c.must(t, layerCipher(t, key), b), c.want(libraryCipher(t, key), b); !bytes.Equal(got, want) {
		t.Errorf("%s: the key %x: %s(%x) = %x, want %x", promise, key, c.name, b, got, want)
	}
}

// checkRefused expects the error, and no bytes.
func checkRefused(t *testing.T, block cts.Block, b []byte, want api.Errno) {
	t.Helper()
	for _, c := range calls() {
		if out, err := c.run(block, b); err != want || len(out) != 0 {
			t.Errorf("P9.1: %d bytes: %s = %x, %d, want the error %d", len(b), c.name, out, err, want)
		}
	}
}

// checkReversal encrypts and decrypts b, in both orders.
func checkReversal(t *testing.T, block cts.Block, b []byte) {
	t.Helper()
	encrypt, decrypt := calls()[0], calls()[1]
	if got := decrypt.must(t, block, encrypt.must(t, block, b)); !bytes.Equal(got, b) {
		t.Errorf("P9.2: %x, encrypted and decrypted, is %x", b, got)
	}
	if got := encrypt.must(t, block, decrypt.must(t, block, b)); !bytes.Equal(got, b) {
		t.Errorf("P9.2: %x, decrypted and encrypted, is %x", b, got)
	}
}

// checkExample holds a plain text against its encryption, in both directions.
func checkExample(t *testing.T, block cts.Block, plain []byte, encrypted string) {
	t.Helper()
	if got := hex.EncodeToString(calls()[0].must(t, block, plain)); got != encrypted {
		t.Errorf("P9.1: Encrypt(%x) = %s, want %s", plain, got, encrypted)
	}
	if got := calls()[1].must(t, block, fromHex(t, encrypted)); !bytes.Equal(got, plain) {
		t.Errorf("P9.1: Decrypt(%s) = %x, want %x", encrypted, got, plain)
	}
}

func fromHex(t *testing.T, s string) []byte {
	t.Helper()
	b, err := hex.DecodeString(s)
	if err != nil {
		t.Fatal(err)
	}
	return b
}

// The texts are those of RFC 3962, which uses AES-128: any cipher of blocks will do.
// Their encryptions were computed by a program that is not in Go.
func TestOtherCipher(t *testing.T) {
	block := wrapped{libraryCipher(t, []byte("chicken teriyaki"))}
	text := []byte("I would like the General Gau's Chicken, please, and wonton soup.")
	for _, encrypted := range []string{
		"c6353568f2bf8cb4d8a580362da7ff7f97",
		"fc00783e0efdb2c1d445d4c8eff7ed2297687268d6ecccc0c07b25e25ecfe5",
		"39312523a78662d5be7fcbcc98ebf5a897687268d6ecccc0c07b25e25ecfe584",
		"97687268d6ecccc0c07b25e25ecfe584b3fffd940c16a18c1b5549d2f838029e39312523a78662d5be7fcbcc98ebf5",
		"97687268d6ecccc0c07b25e25ecfe5849dad8bbb96c4cdc03bc103e1a194bbd839312523a78662d5be7fcbcc98ebf5a8",
		"97687268d6ecccc0c07b25e25ecfe58439312523a78662d5be7fcbcc98ebf5a8" +
			"4807efe836ee89a526730dbc2f7bc8409dad8bbb96c4cdc03bc103e1a194bbd8",
	} {
		checkExample(t, block, text[:len(encrypted)/2], encrypted)
	}
}

// The key is 00 01 .. 1f and each text the bytes from 0 on; the encryptions were computed by a program that is not in Go.
func TestCounted(t *testing.T) {
	block := layerCipher(t, counted(keySize))
	for _, encrypted := range []string{
		"5a6e045708fb7196f02e553d02c3a692",
		"53adc596f429b1d6c88d37d90838f5cb5a",
		"5970cb8e17ee4e94683cbfccf42538585a6e045708fb7196f02e553d02c3a6",
		"c77147ebd5121de8d0fae7762423b6bf5a6e045708fb7196f02e553d02c3a692",
		"5a6e045708fb7196f02e553d02c3a6927701c065cbc2b06542c46d328514483ec7",
		"5a6e045708fb7196f02e553d02c3a692eddc4d3036a036eb75b9425d1147a027c77147ebd5121de8d0fae7762423b6",
		"5a6e045708fb7196f02e553d02c3a69278e2e0038b691b8bedfc32116811da59c77147ebd5121de8d0fae7762423b6bf",
		"5a6e045708fb7196f02e553d02c3a692c77147ebd5121de8d0fae7762423b6bf51f293bf4424cbb16e0ccd3b57c26f9078",
	} {
		checkExample(t, block, counted(len(encrypted)/2), encrypted)
	}
}

// Keys and texts of one byte only, and a text of letters; the encryptions were computed by a program that is not in Go.
func TestRepeated(t *testing.T) {
	zeros, ones := layerCipher(t, make([]byte, keySize)), layerCipher(t, bytes.Repeat([]byte{0xff}, keySize))
	for _, encrypted := range []string{
		"dc95c078a2408989ad48a21492842087",
		"08c374848c228233c2b34f332bd2e9d3dc",
		"08c374848c228233c2b34f332bd2e9d3dc95c078a2408989ad48a21492842087",
		"dc95c078a2408989ad48a214928420878b70c515a6663d38cdb8e6532b26649108c374848c228233",
	} {
		checkExample(t, zeros, make([]byte, len(encrypted)/2), encrypted)
	}
	for _, encrypted := range []string{
		"d5f93d6d3311cb309f23621b02fbd5e2",
		"1ef5ddba835f3f4c0000cb98e1726b01d5f93d6d3311cb",
		"d5f93d6d3311cb309f23621b02fbd5e2cd5d25905c17e60d7fc5a307e409ac6446c0c32323ff81a7",
	} {
		checkExample(t, ones, bytes.Repeat([]byte{0xff}, len(encrypted)/2), encrypted)
	}
	checkExample(t, layerCipher(t, counted(keySize)), []byte("a text of any length from 16 bytes on"),
		"d080cc51c12786b78ef91d3afba4667a3ca90eaaf0e3135a550f6785481fd937ba4aba2fa4")
}

// The digest of the encryptions of one text of each length was computed by a program that is not in Go.
func TestDigestOfAllSizes(t *testing.T) {
	block := layerCipher(t, counted(keySize))
	h := sha256.New()
	for n := minText; n <= maxText; n++ {
		b := make([]byte, n)
		for i := range b {
			b[i] = byte(7*i + n)
		}
		h.Write(calls()[0].must(t, block, b))
	}
	if got := hex.EncodeToString(h.Sum(nil)); got != "ae23a1f8383c72eca8d823c668c60e598ce8521f2beb8a9ca0f8c302e2488e09" {
		t.Errorf("P9.1: the encryptions of all lengths have the digest %s", got)
	}
}

// The chapter's example, and its inverse.
func TestSingleBlock(t *testing.T) {
	r := source()
	for range 100 {
		key, b := randomBytes(r, keySize), randomBytes(r, blockSize)
		block := layerCipher(t, key)
		whole := [16]byte(b)
		if got, want := calls()[0].must(t, block, b), block.Encrypt(whole); !bytes.Equal(got, want[:]) {
			t.Errorf("P9.1: Encrypt(%x) = %x, want %x", b, got, want)
		}
		if got, want := calls()[1].must(t, block, b), block.Decrypt(whole); !bytes.Equal(got, want[:]) {
			t.Errorf("P9.1: Decrypt(%x) = %x, want %x", b, got, want)
		}
	}
}

// Any text of any length, also one that was never encrypted, is the encryption of one.
func TestAllSizes(t *testing.T) {
	r := source()
	for n := minText; n <= maxText; n++ {
		for range 5 {
			key := randomBytes(r, keySize)
			for _, b := range [][]byte{make([]byte, n), bytes.Repeat([]byte{0xff}, n), randomBytes(r, n)} {
				for _, c := range calls() {
					c.check(t, "P9.1", key, b)
				}
				checkReversal(t, layerCipher(t, key), b)
			}
		}
	}
}

// wrongSizes are all lengths that a text does not have, up to some beyond the longest one, and a few much longer ones,
// of which a cut to fewer bits would leave a length that a text has.
func wrongSizes() []int {
	sizes := []int{1 << 10, 1<<10 + 1, 4096, 1<<16 + minText, 1<<16 + 40, 1<<16 + maxText, 1 << 20, 1<<20 + 17}
	for n := range 3 * maxText {
		if n < minText || n > maxText {
			sizes = append(sizes, n)
		}
	}
	return sizes
}

func TestWrongSizes(t *testing.T) {
	r := source()
	block := layerCipher(t, randomBytes(r, keySize))
	for _, n := range wrongSizes() {
		checkRefused(t, block, make([]byte, n), api.ErrArg)
		checkRefused(t, block, randomBytes(r, n), api.ErrArg)
	}
}

// Without a cipher the error is ErrNil, also where there is no text.
func TestNilCipher(t *testing.T) {
	for n := range 2 * maxText {
		checkRefused(t, nil, make([]byte, n), api.ErrNil)
	}
	for _, n := range wrongSizes() {
		checkRefused(t, nil, make([]byte, n), api.ErrNil)
	}
}

func TestNothing(t *testing.T) {
	block := layerCipher(t, make([]byte, keySize))
	for _, empty := range [][]byte{nil, {}, make([]byte, 0, maxText), []byte("some bytes to spare")[:0]} {
		checkRefused(t, block, empty, api.ErrArg)
		checkRefused(t, nil, empty, api.ErrNil)
	}
}

// What counts is the length of a slice, not its capacity.
func TestCapacityDoesNotCount(t *testing.T) {
	r := source()
	key, whole := randomBytes(r, keySize), randomBytes(r, 3*maxText)
	for n := range whole {
		if n < minText || n > maxText {
			checkRefused(t, layerCipher(t, key), whole[:n], api.ErrArg)
			continue
		}
		for _, c := range calls() {
			c.check(t, "P9.1", key, whole[:n])
			c.check(t, "P9.1", key, whole[:n:n])
		}
	}
}

// counter is a cipher that counts how often it is used, and panics when it has been used as often as it can stand.
type counter struct {
	cts.Block
	encrypted, decrypted, end int
}

// errBroken is what a counter panics with.
var errBroken = errors.New("the cipher broke")

func (c *counter) Encrypt(b [16]byte) [16]byte {
	c.encrypted++
	c.limit()
	return c.Block.Encrypt(b)
}

func (c *counter) Decrypt(b [16]byte) [16]byte {
	c.decrypted++
	c.limit()
	return c.Block.Decrypt(b)
}

func (c *counter) limit() {
	if c.end > 0 && c.encrypted+c.decrypted >= c.end {
		panic(errBroken)
	}
}

// Each direction uses that of the cipher, once for each block.
func TestUsesOfTheCipher(t *testing.T) {
	r := source()
	for n := minText; n <= maxText; n++ {
		c, blocks := &counter{Block: layerCipher(t, randomBytes(r, keySize))}, (n+blockSize-1)/blockSize
		calls()[0].must(t, c, randomBytes(r, n))
		if c.encrypted != blocks || c.decrypted != 0 {
			t.Errorf("P9.1: Encrypt of %d bytes encrypts %d blocks and decrypts %d", n, c.encrypted, c.decrypted)
		}
		calls()[1].must(t, c, randomBytes(r, n))
		if c.encrypted != blocks || c.decrypted != blocks {
			t.Errorf("P9.1: Decrypt of %d bytes encrypts %d blocks and decrypts %d", n, c.encrypted-blocks, c.decrypted)
		}
	}
}

// A call that is refused leaves the cipher, whose use a later call could observe, alone.
func TestRefusedCallsHaveNoEffect(t *testing.T) {
	r := source()
	key := randomBytes(r, keySize)
	block := &counter{Block: layerCipher(t, key)}
	for _, n := range wrongSizes() {
		checkRefused(t, block, randomBytes(r, n), api.ErrArg)
	}
	if block.encrypted != 0 || block.decrypted != 0 {
		t.Errorf("P9.1: refused calls encrypt %d blocks and decrypt %d", block.encrypted, block.decrypted)
	}
	for _, n := range wrongSizes() {
		for _, c := range calls() {
			c.run(block, randomBytes(r, n))
			c.run(nil, randomBytes(r, 40))
			c.check(t, "P9.1", key, randomBytes(r, 40))
		}
	}
}

// A pointer to no cipher is not equal to nil as a Block; it is no cipher all the same.
func TestNilPointers(t *testing.T) {
	none, err := aes.New(nil)
	if none != nil || err != api.ErrArg {
		t.Fatalf("aes.New(nil) = %v, %d", none, err)
	}
	for n := minText; n <= maxText; n++ {
		checkRefused(t, none, make([]byte, n), api.ErrNil)
		checkRefused(t, (*counter)(nil), make([]byte, n), api.ErrNil)
		checkRefused(t, &counter{}, make([]byte, n), api.ErrNil)
	}
}

// A cipher that panics, at whichever block, does not make a call panic, nor return a part of a text.
func TestBrokenCiphers(t *testing.T) {
	r := source()
	key := randomBytes(r, keySize)
	for n := minText; n <= maxText; n++ {
		b := randomBytes(r, n)
		for end := 1; end <= (n+blockSize-1)/blockSize; end++ {
			for _, c := range calls() {
				if out, err := c.run(&counter{Block: layerCipher(t, key), end: end}, b); err != api.ErrNil || len(out) != 0 {
					t.Errorf("P9.1: %s of %d bytes with a cipher that breaks at block %d = %x, %d", c.name, n, end-1, out, err)
				}
			}
		}
		for _, c := range calls() {
			c.check(t, "P9.1", key, b)
		}
	}
}

// rotated is a cipher with nothing to hide: a block's bytes are rotated by one position, and 1 is added to each.
type rotated struct{}

func (rotated) Encrypt(b [16]byte) [16]byte {
	var out [16]byte
	for i, x := range b {
		out[(i+1)%len(out)] = x + 1
	}
	return out
}

func (rotated) Decrypt(b [16]byte) [16]byte {
	var out [16]byte
	for i := range out {
		out[i] = b[(i+1)%len(b)] - 1
	}
	return out
}

// unlike is a cipher whose directions have nothing to do with each other, nor with the block.
type unlike struct{}

func (unlike) Encrypt([16]byte) [16]byte { return [16]byte(bytes.Repeat([]byte{0xee}, blockSize)) }

func (unlike) Decrypt([16]byte) [16]byte { return [16]byte(bytes.Repeat([]byte{0xdd}, blockSize)) }

// asLibrary is a block cipher as the standard library's CBC takes one.
type asLibrary struct{ cts.Block }

func (a asLibrary) BlockSize() int { return blockSize }

func (a asLibrary) Encrypt(to, from []byte) {
	out := a.Block.Encrypt([16]byte(from))
	copy(to, out[:])
}

func (a asLibrary) Decrypt(to, from []byte) {
	out := a.Block.Decrypt([16]byte(from))
	copy(to, out[:])
}

// The ciphers differ in type, and are struct values, not pointers.
func TestSimpleCiphers(t *testing.T) {
	r := source()
	for n := minText; n <= maxText; n++ {
		b := randomBytes(r, n)
		for _, block := range []cts.Block{rotated{}, unlike{}} {
			for _, c := range calls() {
				if got, want := c.must(t, block, b), c.want(asLibrary{block}, b); !bytes.Equal(got, want) {
					t.Errorf("P9.1: %s(%x) = %x, want %x", c.name, b, got, want)
				}
			}
		}
		checkReversal(t, rotated{}, b)
	}
}

// Texts whose padding could be mistaken for a part of them come back with their zeros.
func TestZerosAtTheEnd(t *testing.T) {
	r := source()
	for n := minText; n <= maxText; n++ {
		b := randomBytes(r, n)
		for zeros := 1; zeros <= 2*blockSize && zeros <= n; zeros++ {
			b[n-zeros] = 0
			checkReversal(t, rotated{}, b)
			checkReversal(t, wrapped{libraryCipher(t, counted(keySize))}, b)
		}
	}
}

// Different texts of one length have different encryptions: each bit of each of the last blocks makes a difference.
func TestEachBit(t *testing.T) {
	r := source()
	for _, n := range []int{16, 17, 31, 32, 33, 47, 48, 49, 64, 79, 255, 256} {
		key, b := randomBytes(r, keySize), randomBytes(r, n)
		block := layerCipher(t, key)
		for _, c := range calls() {
			before := c.must(t, block, b)
			for bit := range 8 * n {
				changed := bytes.Clone(b)
				changed[bit/8] ^= 1 << (bit % 8)
				if bytes.Equal(c.must(t, block, changed), before) {
					t.Errorf("P9.2: %d bytes with bit %d changed: the same result of %s", n, bit, c.name)
				}
				c.check(t, "P9.1", key, changed)
			}
		}
	}
}

// common returns how many whole blocks two texts begin with together.
func common(a, b []byte) int {
	n := 0
	for (n+1)*blockSize <= min(len(a), len(b)) && bytes.Equal(a[n*blockSize:(n+1)*blockSize], b[n*blockSize:(n+1)*blockSize]) {
		n++
	}
	return n
}

// All pairs of lengths with the same number of whole blocks, and all beginnings that they can have in common.
func TestCommonBeginnings(t *testing.T) {
	r := source()
	block := wrapped{libraryCipher(t, randomBytes(r, keySize))}
	for n := 2 * blockSize; n <= maxText; n++ {
		for m := n / blockSize * blockSize; m < (n/blockSize+1)*blockSize && m <= maxText; m++ {
			last := (min(n, m)+blockSize-1)/blockSize - 2
			for shared := 0; shared <= last; shared++ {
				a, b := randomBytes(r, n), randomBytes(r, m)
				copy(b, a[:shared*blockSize])
				// The block behind the beginning differs, so that no more than it is shared.
				b[shared*blockSize] = ^a[shared*blockSize]
				x, y := calls()[0].must(t, block, a), calls()[0].must(t, block, b)
				if got := common(x, y); got != shared {
					t.Errorf("P9.2: %d and %d bytes with %d blocks in common: the encryptions have %d", n, m, shared, got)
				}
			}
		}
	}
}

// A change in a block changes its encryption and those of all that follow, and none before it.
func TestChanges(t *testing.T) {
	r := source()
	for n := 2 * blockSize; n <= maxText; n++ {
		block, b := wrapped{libraryCipher(t, randomBytes(r, keySize))}, randomBytes(r, n)
		before := calls()[0].must(t, block, b)
		blocks := (n + blockSize - 1) / blockSize
		for i := range blocks {
			changed := bytes.Clone(b)
			changed[min(i*blockSize+r.IntN(blockSize), n-1)] ^= 1 << r.IntN(8)
			after := calls()[0].must(t, block, changed)
			for j := range n / blockSize {
				same := bytes.Equal(after[j*blockSize:(j+1)*blockSize], before[j*blockSize:(j+1)*blockSize])
				// The last two are exchanged: the last but one depends on all, the last one on all but the text's last.
				want := j < i && j < blocks-2 || j == blocks-1 && i == blocks-1
				if same != want {
					t.Errorf("P9.2: %d bytes with block %d changed: block %d stays: %t", n, i, j, same)
				}
			}
		}
	}
}

// Equal blocks come out different: each depends on those before it.
func TestEqualBlocks(t *testing.T) {
	r := source()
	for _, n := range []int{32, 48, 64, 128, 240, 256} {
		b := bytes.Repeat(randomBytes(r, blockSize), n/blockSize)
		got := calls()[0].must(t, layerCipher(t, randomBytes(r, keySize)), b)
		seen := map[string]int{}
		for i := range n / blockSize {
			out := string(got[i*blockSize : (i+1)*blockSize])
			if other, ok := seen[out]; ok {
				t.Errorf("P9.1: the encryptions of equal blocks at %d and %d are the same", other, i)
			}
			seen[out] = i
		}
	}
}

// Another key decrypts to something else.
func TestOtherKeys(t *testing.T) {
	r := source()
	for _, n := range []int{16, 40, 64} {
		key, b := randomBytes(r, keySize), randomBytes(r, n)
		encrypted := calls()[0].must(t, layerCipher(t, key), b)
		for bit := range 8 * keySize {
			other := bytes.Clone(key)
			other[bit/8] ^= 1 << (bit % 8)
			if bytes.Equal(calls()[1].must(t, layerCipher(t, other), encrypted), b) {
				t.Errorf("P9.1: the key with bit %d changed decrypts what the key encrypted", bit)
			}
		}
	}
}

// Many encryptions, then as many decryptions, lead back.
func TestLongWayBack(t *testing.T) {
	r := source()
	for n := minText; n <= maxText; n++ {
		block, b := wrapped{libraryCipher(t, randomBytes(r, keySize))}, randomBytes(r, n)
		x := b
		for range 20 {
			x = calls()[0].must(t, block, x)
		}
		if bytes.Equal(x, b) {
			t.Errorf("P9.2: %x: nothing is encrypted", b)
		}
		for range 20 {
			x = calls()[1].must(t, block, x)
		}
		if !bytes.Equal(x, b) {
			t.Errorf("P9.2: %x comes back as %x", b, x)
		}
	}
}

// margin is more than the longest text.
const margin = 2 * maxText

// argument is a piece of a larger slice, so that a write before it or into its spare capacity is seen.
type argument struct{ whole, before []byte }

func newArgument(b []byte) argument {
	whole := slices.Concat(bytes.Repeat([]byte{'<'}, margin), b, bytes.Repeat([]byte{'>'}, margin))
	return argument{whole, bytes.Clone(whole)}
}

func (a argument) bytes() []byte { return a.whole[margin : len(a.whole)-margin] }

func (a argument) unchanged() bool { return bytes.Equal(a.whole, a.before) }

// spoil changes all of a slice, and what its capacity has behind it.
func spoil(b []byte) {
	b = b[:cap(b)]
	for i := range b {
		b[i] ^= 0xff
	}
}

func TestArgumentsStay(t *testing.T) {
	r := source()
	block := layerCipher(t, randomBytes(r, keySize))
	for _, c := range calls() {
		for n := range 2 * maxText {
			b := newArgument(randomBytes(r, n))
			c.run(block, b.bytes())
			c.run(nil, b.bytes())
			c.run(&counter{}, b.bytes())
			if !b.unchanged() {
				t.Errorf("P9.2: %s of %d bytes changes its argument, or what is around it", c.name, n)
			}
		}
	}
}

// A result stays when the argument, or the result of another call, is changed; and these stay when it is changed.
func TestResultsAreNewMemory(t *testing.T) {
	r := source()
	block := layerCipher(t, randomBytes(r, keySize))
	for _, c := range calls() {
		for n := minText; n <= maxText; n++ {
			b := newArgument(randomBytes(r, n))
			first, second := c.must(t, block, b.bytes()), c.must(t, block, b.bytes())
			keep := bytes.Clone(first)
			spoil(second)
			if !bytes.Equal(first, keep) {
				t.Errorf("P9.2: %s: two results of %d bytes share memory", c.name, n)
			}
			if !b.unchanged() {
				t.Errorf("P9.2: %s: a result of %d bytes shares memory with the argument", c.name, n)
			}
			spoil(b.whole)
			if !bytes.Equal(first, keep) {
				t.Errorf("P9.2: %s: a result of %d bytes changes with the argument", c.name, n)
			}
		}
	}
}

// What was truncated is not behind the result either.
func TestNothingBehindResults(t *testing.T) {
	r := source()
	for n := minText; n <= maxText; n++ {
		got := calls()[0].must(t, layerCipher(t, randomBytes(r, keySize)), randomBytes(r, n))
		for i, x := range got[:cap(got)] {
			if i >= n && x != 0 {
				t.Errorf("P9.1: behind the encryption of %d bytes is %x", n, got[n:cap(got)])
				break
			}
		}
	}
}

// The same slice with other bytes in it is another argument.
func TestArgumentsAreNotKept(t *testing.T) {
	r := source()
	key, b := randomBytes(r, keySize), randomBytes(r, 40)
	for range 50 {
		for _, c := range calls() {
			c.check(t, "P9.2", key, b)
			copy(b, randomBytes(r, len(b)))
			c.check(t, "P9.2", key, b)
			copy(key, randomBytes(r, len(key)))
			c.check(t, "P9.2", key, b)
		}
	}
}

// What was called before, with this cipher or with another, makes no difference.
func TestCallsInTurns(t *testing.T) {
	r := source()
	var keys, texts [][]byte
	var blocks []cts.Block
	for range 10 {
		keys = append(keys, randomBytes(r, keySize))
		texts = append(texts, randomBytes(r, minText+r.IntN(maxText-minText+1)))
		blocks = append(blocks, layerCipher(t, keys[len(keys)-1]))
	}
	for range 2000 {
		c, i, b := calls()[r.IntN(2)], r.IntN(len(keys)), texts[r.IntN(len(texts))]
		if got, want := c.must(t, blocks[i], b), c.want(libraryCipher(t, keys[i]), b); !bytes.Equal(got, want) {
			t.Errorf("P9.2: the key %x: %s(%x) = %x, want %x", keys[i], c.name, b, got, want)
		}
	}
}

// source has a fixed seed: each run of the tests tries the same inputs.
func source() *rand.Rand { return rand.New(rand.NewPCG(1, 2)) }

func randomBytes(r *rand.Rand, n int) []byte {
	b := make([]byte, n)
	for i := range b {
		b[i] = byte(r.Uint32())
	}
	return b
}

// counted returns the bytes from 0 up to, and without, end.
func counted(end int) []byte {
	b := make([]byte, end)
	for i := range b {
		b[i] = byte(i)
	}
	return b
}
