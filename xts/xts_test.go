package xts_test

import (
	"bytes"
	library "crypto/aes"
	"crypto/cipher"
	"encoding/hex"
	"math"
	"math/big"
	"math/rand/v2"
	"slices"
	"testing"

	"turnkey/api"
	"turnkey/xts"
)

const (
	keySize   = 64
	blockSize = 16
	maxBlocks = 64
	maxSize   = maxBlocks * blockSize
)

// call is one of the two functions, with what it does to a block in the standard library.
type call struct {
	name string
	run  func(key []byte, number int, b []byte) ([]byte, api.Errno)
	step func(c cipher.Block, to, from []byte)
}

func calls() []call {
	return []call{{"Encrypt", xts.Encrypt, cipher.Block.Encrypt}, {"Decrypt", xts.Decrypt, cipher.Block.Decrypt}}
}

// block is b, encrypted or decrypted with half a key by the standard library.
func block(t *testing.T, step func(c cipher.Block, to, from []byte), half, b []byte) []byte {
	t.Helper()
	c, err := library.NewCipher(half)
	if err != nil {
		t.Fatal(err)
	}
	out := make([]byte, blockSize)
	step(c, out, b)
	return out
}

// fromLittle returns the number that the bytes represent, the least significant first.
func fromLittle(b []byte) *big.Int {
	b = bytes.Clone(b)
	slices.Reverse(b)
	return new(big.Int).SetBytes(b)
}

// toLittle returns n as a block, the least significant byte first.
func toLittle(n *big.Int) []byte {
	b := n.FillBytes(make([]byte, blockSize))
	slices.Reverse(b)
	return b
}

// tweakOf is the tweak of a block: that of the first one, times x as often as blocks precede it,
// as a remainder by the polynomial x^128 + x^7 + x^2 + x + 1.
func tweakOf(t *testing.T, key []byte, number, position int) []byte {
	t.Helper()
	n := fromLittle(block(t, cipher.Block.Encrypt, key[keySize/2:], toLittle(big.NewInt(int64(number)))))
	n.Lsh(n, uint(position))
	divisor := new(big.Int).SetBit(big.NewInt(0x87), 128, 1)
	for n.BitLen() > 128 {
		n.Xor(n, new(big.Int).Lsh(divisor, uint(n.BitLen()-129)))
	}
	return toLittle(n)
}

func xor(a, b []byte) []byte {
	out := make([]byte, len(a))
	for i := range out {
		out[i] = a[i] ^ b[i]
	}
	return out
}

// unit is what the call must return, by the standard library's cipher and numbers.
func (c call) unit(t *testing.T, key []byte, number int, b []byte) []byte {
	t.Helper()
	var out []byte
	for i := range len(b) / blockSize {
		tweak := tweakOf(t, key, number, i)
		out = append(out, xor(block(t, c.step, key[:keySize/2], xor(b[i*blockSize:(i+1)*blockSize], tweak)), tweak)...)
	}
	return out
}

// must returns the result of a call that must not fail.
func (c call) must(t *testing.T, key []byte, number int, b []byte) []byte {
	t.Helper()
	out, err := c.run(key, number, b)
	if err != api.OK || len(out) != len(b) {
		t.Fatalf("P8.1: number %d, %d bytes: %s = %d bytes, %d", number, len(b), c.name, len(out), err)
	}
	return out
}

// check holds a call against the standard library.
func (c call) check(t *testing.T, promise string, key []byte, number int, b []byte) {
	t.Helper()
	if got, want := c.must(t, key, number, b), c.unit(t, key, number, b); !bytes.Equal(got, want) {
		t.Errorf("%s: the key %x, number %d: %s(%x) = %x, want %x", promise, key, number, c.name, b, got, want)
	}
}

// checkRefused expects ErrArg, and no bytes.
func checkRefused(t *testing.T, key []byte, number int, b []byte) {
	t.Helper()
	for _, c := range calls() {
		if out, err := c.run(key, number, b); err != api.ErrArg || len(out) != 0 {
			t.Errorf("P8.1: a key of %d bytes, number %d, %d bytes: %s = %x, %d", len(key), number, len(b), c.name, out, err)
		}
	}
}

// checkReversal encrypts and decrypts b, in both orders.
func checkReversal(t *testing.T, key []byte, number int, b []byte) {
	t.Helper()
	encrypt, decrypt := calls()[0], calls()[1]
	if got := decrypt.must(t, key, number, encrypt.must(t, key, number, b)); !bytes.Equal(got, b) {
		t.Errorf("P8.2: the key %x, number %d: %x, encrypted and decrypted, is %x", key, number, b, got)
	}
	if got := encrypt.must(t, key, number, decrypt.must(t, key, number, b)); !bytes.Equal(got, b) {
		t.Errorf("P8.2: the key %x, number %d: %x, decrypted and encrypted, is %x", key, number, b, got)
	}
}

// example is a unit, in hexadecimal.
type example struct {
	key       string
	number    int
	plain     string
	encrypted string
}

const (
	zeroHalf = "0000000000000000000000000000000000000000000000000000000000000000"
	onesHalf = "ffffffffffffffffffffffffffffffffffffffffffffffffffffffffffffffff"
	lowHalf  = "000102030405060708090a0b0c0d0e0f101112131415161718191a1b1c1d1e1f"
	highHalf = "202122232425262728292a2b2c2d2e2f303132333435363738393a3b3c3d3e3f"
)

// examples are the chapter's own and more; all encryptions were computed by a program that is not in Go.
func examples() []example {
	return []example{
		{zeroHalf + zeroHalf, 0, zeroHalf,
			"d456b4fc2e620bba6ffbed27b956c9543454dd49ebd8d8ee6f94b65cbe158f73"},
		{onesHalf + onesHalf, 0, onesHalf,
			"147e2441d0fb4c5a204150a1818d9098c426693b2660d408816e29ff27dca16b"},
		{lowHalf + highHalf, 0, zeroHalf[:32], "cd6b103236fbd87dba93e9001e29bc3d"},
		{lowHalf + highHalf, 1, zeroHalf[:32], "0c22ed7e2168a8500b30154c2ec00d26"},
		{highHalf + lowHalf, 1, zeroHalf[:32], "a1f1c54f75695e0f36f03173957f93ad"},
		{lowHalf + highHalf, 258, hex.EncodeToString([]byte("an encrypted unit has sixteen n bytes, n from 1 up to 64........")),
			"2b1948de428a2e96aa188136c6a4a39949273b320e88feb7bc3a6168b2f35ad5" +
				"0bb7c0f4f15c31fa41cde569b657ae174fc38ee90b8e28a8819e2bb3fd62f179"},
		{lowHalf + highHalf, 0x0123456789abcdef, lowHalf,
			"7b30457ebd9aed8e8a5fea502607c86c1e0fde91fe121f56b9d667473c82494e"},
		{lowHalf + highHalf, 1 << 62, lowHalf,
			"033fb1097863258bdf61d6cc490ba9414be8d003899b2666c4fe9218a9c523f6"},
		{lowHalf + highHalf, math.MaxInt, onesHalf + onesHalf[:32],
			"26411aff24cf85e038338e11a21c7157a02c21afdf9c9f5832ef09d17b45b8556ffc1d179f345d3012d015e4acfc66c4"},
	}
}

func fromHex(t *testing.T, s string) []byte {
	t.Helper()
	b, err := hex.DecodeString(s)
	if err != nil {
		t.Fatal(err)
	}
	return b
}

func TestExamples(t *testing.T) {
	encrypt, decrypt := calls()[0], calls()[1]
	for i, e := range examples() {
		key, plain, encrypted := fromHex(t, e.key), fromHex(t, e.plain), fromHex(t, e.encrypted)
		if got := encrypt.must(t, key, e.number, plain); !bytes.Equal(got, encrypted) {
			t.Errorf("P8.1: example %d: Encrypt = %x, want %s", i, got, e.encrypted)
		}
		if got := decrypt.must(t, key, e.number, encrypted); !bytes.Equal(got, plain) {
			t.Errorf("P8.1: example %d: Decrypt = %x, want %s", i, got, e.plain)
		}
		encrypt.check(t, "P8.1", key, e.number, plain)
		decrypt.check(t, "P8.1", key, e.number, plain)
		checkReversal(t, key, e.number, plain)
	}
}

// sector is a unit's number beside the first and the last two blocks of its encryption.
type sector struct {
	number      int
	first, last string
}

// The inputs are those of IEEE 1619's test vectors 10 to 14; the encryptions were computed by a program that is not in Go.
func TestSectors(t *testing.T) {
	const (
		e  = "2718281828459045235360287471352662497757247093699959574966967627"
		pi = "3141592653589793238462643383279502884197169399375105820974944592"
	)
	key := fromHex(t, e+pi)
	plain := bytes.Repeat(counted(256), 2)
	for _, s := range []sector{
		{0xff, "1c3b3a102f770386e4836c99e370cf9bea00803f5e482357a4ae12d414a3e63b",
			"773dad38014bd2092fa755c824bb5e54c4f36ffda9fcea70b9c6e693e148c151"},
		{0xffff, "77a31251618a15e6b92d1d66dffe7b50b50bad552305ba0217a610688eff7e11",
			"54fbff89eeaeea791f4a7ab1f9868294a4f9e27b42af8100cb9d59cef9645803"},
		{0xffffff, "e387aaa58ba483afa7e8eb469778317ecf4cf573aa9d4eac23f2cdf914e4e200",
			"ed242c8900dd1fa965bc950dfce09b132263a1eef52dd6888c309f5a7d712826"},
		{0xffffffff, "bf53d2dade78e822a4d949a9bc6766b01b06a8ef70d26748c6a7fc36d80ae4c5",
			"f6516139420fcff3b7361d86322c4bd84c82f335abb152c4a93411373aaa8220"},
		{0xffffffffff, "64497e5a831e4a932c09be3e5393376daa599548b816031d224bbf50a818ed23",
			"6975be5e0b4efce51cd3e70c25a1fbbbd609d273ad5b0d59631c531f6a0a57b9"},
	} {
		for _, c := range calls() {
			c.check(t, "P8.1", key, s.number, plain)
		}
		got := calls()[0].must(t, key, s.number, plain)
		if first := hex.EncodeToString(got[:32]); first != s.first {
			t.Errorf("P8.1: number %x: Encrypt begins with %s, want %s", s.number, first, s.first)
		}
		if last := hex.EncodeToString(got[480:]); last != s.last {
			t.Errorf("P8.1: number %x: Encrypt ends with %s, want %s", s.number, last, s.last)
		}
		checkReversal(t, key, s.number, plain)
	}
}

func TestAllSizes(t *testing.T) {
	r := source()
	for blocks := 1; blocks <= maxBlocks; blocks++ {
		for range 5 {
			key, number, b := randomBytes(r, keySize), r.Int(), randomBytes(r, blocks*blockSize)
			for _, c := range calls() {
				c.check(t, "P8.1", key, number, b)
			}
			checkReversal(t, key, number, b)
		}
	}
}

// All lengths that a unit does not have, up to some beyond the longest one, and a few much longer ones,
// of which a cut to fewer bits would leave a length that a unit has.
func TestWrongSizes(t *testing.T) {
	r := source()
	key := randomBytes(r, keySize)
	sizes := []int{4096, 1<<16 + blockSize, 1<<16 + maxSize, 1 << 20, 1<<20 + 1}
	for n := range 2*maxSize + 3 {
		if n == 0 || n%blockSize != 0 || n > maxSize {
			sizes = append(sizes, n)
		}
	}
	for _, n := range sizes {
		for _, number := range []int{0, n, math.MaxInt} {
			checkRefused(t, key, number, make([]byte, n))
			checkRefused(t, key, number, randomBytes(r, n))
		}
	}
}

// Keys that lack or exceed a half by some bytes, one half alone, and longer ones.
func TestWrongKeys(t *testing.T) {
	r := source()
	b := randomBytes(r, 2*blockSize)
	sizes := []int{256, 256 + keySize, 1000, 1<<16 + keySize, 1 << 20}
	for n := range 200 {
		if n != keySize {
			sizes = append(sizes, n)
		}
	}
	for _, n := range sizes {
		for _, number := range []int{0, n, math.MaxInt} {
			checkRefused(t, make([]byte, n), number, b)
			checkRefused(t, randomBytes(r, n), number, b)
		}
	}
}

// wrongNumbers are negative, some of them with the low bits of numbers that are not.
func wrongNumbers() []int {
	numbers := []int{math.MinInt, math.MinInt + 1, math.MinInt + 258, -1, -2, -16, -255, -256, -1 << 31, -1<<31 - 1}
	for shift := range 63 {
		numbers = append(numbers, -1<<shift)
	}
	return numbers
}

func TestWrongNumbers(t *testing.T) {
	r := source()
	key := randomBytes(r, keySize)
	for _, number := range wrongNumbers() {
		for _, blocks := range []int{1, 2, 32, maxBlocks} {
			checkRefused(t, key, number, randomBytes(r, blocks*blockSize))
		}
	}
}

// Whatever is wrong together is ErrArg, too, and nothing of it panics.
func TestSeveralErrors(t *testing.T) {
	for _, keyBytes := range []int{0, 1, 31, 32, 33, 63, 64, 65, 128} {
		for _, number := range []int{math.MinInt, -1, 0, math.MaxInt} {
			for _, n := range []int{0, 1, 15, 16, 17, 1024, 1025, 1040} {
				right := keyBytes == keySize && number >= 0 && (n == blockSize || n == maxSize)
				if !right {
					checkRefused(t, make([]byte, keyBytes), number, make([]byte, n))
				}
			}
		}
	}
}

func TestNothing(t *testing.T) {
	key, b := make([]byte, keySize), make([]byte, blockSize)
	empties := [][]byte{nil, {}, make([]byte, 0, maxSize), []byte("some bytes to spare")[:0]}
	for _, empty := range empties {
		checkRefused(t, key, 0, empty)
		checkRefused(t, empty, 0, b)
		checkRefused(t, empty, -1, empty)
	}
}

// What counts is the length of a slice, not its capacity.
func TestCapacityDoesNotCount(t *testing.T) {
	r := source()
	whole := randomBytes(r, 4*maxSize)
	key, b := randomBytes(r, keySize), randomBytes(r, 2*blockSize)
	for n := range 3 * keySize {
		if n != keySize {
			checkRefused(t, whole[:n], 5, b)
			checkRefused(t, whole[:n:max(n, keySize)], 5, b)
		}
	}
	for _, n := range []int{0, 1, 15, 17, maxSize - 1, maxSize + 1, maxSize + blockSize} {
		checkRefused(t, key, 5, whole[:n])
	}
	for _, n := range []int{blockSize, 2 * blockSize, maxSize} {
		for _, c := range calls() {
			c.check(t, "P8.1", whole[:keySize], 5, whole[:n])
			c.check(t, "P8.1", whole[:keySize:keySize], 5, whole[:n:n])
		}
	}
}

// A call that is refused leaves those that follow as they are.
func TestRefusedCallsHaveNoEffect(t *testing.T) {
	r := source()
	key, b := randomBytes(r, keySize), randomBytes(r, 3*blockSize)
	for _, c := range calls() {
		for _, number := range wrongNumbers() {
			c.run(randomBytes(r, keySize), number, randomBytes(r, blockSize))
			c.run(randomBytes(r, keySize-1), 7, b)
			c.run(key, 7, randomBytes(r, blockSize+1))
			c.check(t, "P8.1", key, 7, b)
		}
	}
}

// numbers are those at which one byte or one bit more is needed, the greatest one, and some between them.
func numbers(r *rand.Rand) []int {
	out := []int{0, 255, 256, 257, 258, 65535, 65536, math.MaxInt - 1, math.MaxInt}
	for shift := range 63 {
		out = append(out, 1<<shift, 1<<shift-1, 1<<shift+1, r.IntN(1<<shift))
	}
	return out
}

func TestNumbers(t *testing.T) {
	r := source()
	key, b := randomBytes(r, keySize), randomBytes(r, 2*blockSize)
	for _, number := range numbers(r) {
		for _, c := range calls() {
			c.check(t, "P8.1", key, number, b)
		}
		checkReversal(t, key, number, b)
	}
}

// Units with different numbers have nothing in common.
func TestNumbersMakeADifference(t *testing.T) {
	r := source()
	key, b := randomBytes(r, keySize), make([]byte, blockSize)
	seen := map[string]int{}
	for _, number := range numbers(r) {
		got := string(calls()[0].must(t, key, number, b))
		if other, ok := seen[got]; ok && other != number {
			t.Errorf("P8.1: the numbers %d and %d: the same encryption", other, number)
		}
		seen[got] = number
	}
}

// Each bit of the key matters, in the half to which it belongs.
func TestEachBitOfKeys(t *testing.T) {
	r := source()
	b := randomBytes(r, 2*blockSize)
	for _, key := range [][]byte{make([]byte, keySize), bytes.Repeat([]byte{0xff}, keySize), randomBytes(r, keySize)} {
		for bit := range 8 * keySize {
			changed := bytes.Clone(key)
			changed[bit/8] ^= 1 << (bit % 8)
			for _, c := range calls() {
				c.check(t, "P8.1", changed, 3, b)
				if bytes.Equal(c.must(t, changed, 3, b), c.must(t, key, 3, b)) {
					t.Errorf("P8.1: the key %x with bit %d changed: the same result of %s", key, bit, c.name)
				}
			}
		}
	}
}

// A key may have equal halves.
func TestEqualHalves(t *testing.T) {
	r := source()
	for range 50 {
		key := bytes.Repeat(randomBytes(r, keySize/2), 2)
		number, b := r.Int(), randomBytes(r, 4*blockSize)
		for _, c := range calls() {
			c.check(t, "P8.1", key, number, b)
		}
		checkReversal(t, key, number, b)
	}
}

// Both kinds of steps from tweak to tweak, with and without a bit that is shifted out, are taken at each position.
func TestLongestUnits(t *testing.T) {
	r := source()
	var over, under [maxBlocks]bool
	for range 40 {
		key, number := randomBytes(r, keySize), r.Int()
		for _, b := range [][]byte{make([]byte, maxSize), randomBytes(r, maxSize)} {
			for _, c := range calls() {
				c.check(t, "P8.1", key, number, b)
			}
		}
		for i := range maxBlocks {
			top := tweakOf(t, key, number, i)[blockSize-1] >= 0x80
			over[i], under[i] = over[i] || top, under[i] || !top
		}
	}
	for i := range maxBlocks {
		if !over[i] || !under[i] {
			t.Errorf("position %d: only one kind of step is tried", i)
		}
	}
}

func TestEachByteOfBlocks(t *testing.T) {
	r := source()
	key, b := randomBytes(r, keySize), randomBytes(r, 2*blockSize)
	for i := range b {
		for x := range 256 {
			changed := bytes.Clone(b)
			changed[i] = byte(x)
			for _, c := range calls() {
				c.check(t, "P8.1", key, 9, changed)
			}
			checkReversal(t, key, 9, changed)
		}
	}
}

// A block comes out the same whatever is in the other blocks, and however many there are.
func TestBlocksAreIndependent(t *testing.T) {
	r := source()
	for _, c := range calls() {
		key, number, b := randomBytes(r, keySize), r.Int(), randomBytes(r, maxSize)
		whole := c.must(t, key, number, b)
		for blocks := 1; blocks <= maxBlocks; blocks++ {
			end := blocks * blockSize
			if got := c.must(t, key, number, b[:end]); !bytes.Equal(got, whole[:end]) {
				t.Errorf("P8.2: %s of %d blocks differs from that of more", c.name, blocks)
			}
			others := randomBytes(r, maxSize)
			copy(others[end-blockSize:end], b[end-blockSize:end])
			if got := c.must(t, key, number, others); !bytes.Equal(got[end-blockSize:end], whole[end-blockSize:end]) {
				t.Errorf("P8.2: %s of block %d depends on the others", c.name, blocks-1)
			}
		}
	}
}

// A change of a block changes that block alone.
func TestChangesStayInTheirBlock(t *testing.T) {
	r := source()
	for _, c := range calls() {
		key, number, b := randomBytes(r, keySize), r.Int(), randomBytes(r, 8*blockSize)
		before := c.must(t, key, number, b)
		for bit := range 8 * len(b) {
			changed := bytes.Clone(b)
			changed[bit/8] ^= 1 << (bit % 8)
			after := c.must(t, key, number, changed)
			for i := range len(b) / blockSize {
				same := bytes.Equal(after[i*blockSize:(i+1)*blockSize], before[i*blockSize:(i+1)*blockSize])
				if same == (i == bit/8/blockSize) {
					t.Errorf("P8.2: %s with bit %d changed: block %d stays: %t", c.name, bit, i, same)
				}
			}
		}
	}
}

// Equal blocks come out different at different positions.
func TestPositionsMakeADifference(t *testing.T) {
	r := source()
	for _, c := range calls() {
		got := c.must(t, randomBytes(r, keySize), r.Int(), bytes.Repeat(randomBytes(r, blockSize), maxBlocks))
		seen := map[string]int{}
		for i := range maxBlocks {
			out := string(got[i*blockSize : (i+1)*blockSize])
			if other, ok := seen[out]; ok {
				t.Errorf("P8.1: %s of equal blocks at %d and %d: the same", c.name, other, i)
			}
			seen[out] = i
		}
	}
}

// Another key, or another number, decrypts to something else.
func TestOthersDoNotReverse(t *testing.T) {
	r := source()
	key, b := randomBytes(r, keySize), randomBytes(r, 2*blockSize)
	encrypted := calls()[0].must(t, key, 1000, b)
	for bit := range 8 * keySize {
		other := bytes.Clone(key)
		other[bit/8] ^= 1 << (bit % 8)
		if bytes.Equal(calls()[1].must(t, other, 1000, encrypted), b) {
			t.Errorf("P8.1: the key with bit %d changed decrypts what the key encrypted", bit)
		}
	}
	for bit := range 63 {
		if bytes.Equal(calls()[1].must(t, key, 1000^1<<bit, encrypted), b) {
			t.Errorf("P8.1: the number with bit %d changed decrypts what the number encrypted", bit)
		}
	}
}

// Many encryptions, then as many decryptions, lead back.
func TestLongWayBack(t *testing.T) {
	r := source()
	for range 10 {
		key, b := randomBytes(r, keySize), randomBytes(r, (1+r.IntN(maxBlocks))*blockSize)
		x := b
		for number := range 50 {
			x = calls()[0].must(t, key, number, x)
		}
		if bytes.Equal(x, b) {
			t.Errorf("P8.2: the key %x: nothing is encrypted", key)
		}
		for number := range 50 {
			x = calls()[1].must(t, key, 49-number, x)
		}
		if !bytes.Equal(x, b) {
			t.Errorf("P8.2: the key %x: %x comes back as %x", key, b, x)
		}
	}
}

// margin is more than the longest unit.
const margin = 2 * maxSize

// argument is a piece of a larger slice, so that a write before it or into its spare capacity is seen.
type argument struct{ whole, before []byte }

func newArgument(b []byte) argument {
	whole := slices.Concat(bytes.Repeat([]byte{'<'}, margin), b, bytes.Repeat([]byte{'>'}, margin))
	return argument{whole, bytes.Clone(whole)}
}

func (a argument) bytes() []byte { return a.whole[margin : len(a.whole)-margin] }

func (a argument) unchanged() bool { return bytes.Equal(a.whole, a.before) }

// spoil changes all of a slice, and what its capacity has behind it.
func spoil(b []byte) {
	b = b[:cap(b)]
	for i := range b {
		b[i] ^= 0xff
	}
}

func TestArgumentsStay(t *testing.T) {
	r := source()
	for _, c := range calls() {
		for n := range maxSize + 2*blockSize {
			key, b := newArgument(randomBytes(r, keySize)), newArgument(randomBytes(r, n))
			c.run(key.bytes(), n, b.bytes())
			c.run(key.bytes(), -n, b.bytes())
			if !key.unchanged() || !b.unchanged() {
				t.Errorf("P8.2: %s of %d bytes changes its arguments, or what is around them", c.name, n)
			}
		}
		for n := range 2 * keySize {
			key, b := newArgument(randomBytes(r, n)), newArgument(randomBytes(r, 2*blockSize))
			c.run(key.bytes(), n, b.bytes())
			if !key.unchanged() || !b.unchanged() {
				t.Errorf("P8.2: %s with a key of %d bytes changes its arguments, or what is around them", c.name, n)
			}
		}
	}
}

// A result stays when the arguments, or the results of other calls, are changed; and these stay when it is changed.
func TestResultsAreNewMemory(t *testing.T) {
	r := source()
	for _, c := range calls() {
		for blocks := 1; blocks <= maxBlocks; blocks++ {
			key, b := newArgument(randomBytes(r, keySize)), newArgument(randomBytes(r, blocks*blockSize))
			first, second := c.must(t, key.bytes(), 77, b.bytes()), c.must(t, key.bytes(), 77, b.bytes())
			keep := bytes.Clone(first)
			spoil(second)
			if !bytes.Equal(first, keep) {
				t.Errorf("P8.2: %s: two results of %d blocks share memory", c.name, blocks)
			}
			if !key.unchanged() || !b.unchanged() {
				t.Errorf("P8.2: %s: a result of %d blocks shares memory with an argument", c.name, blocks)
			}
			spoil(key.whole)
			spoil(b.whole)
			if !bytes.Equal(first, keep) {
				t.Errorf("P8.2: %s: a result of %d blocks changes with an argument", c.name, blocks)
			}
		}
	}
}

// The same slices with other bytes in them are other arguments.
func TestArgumentsAreNotKept(t *testing.T) {
	r := source()
	key, b := randomBytes(r, keySize), randomBytes(r, 3*blockSize)
	for range 50 {
		number := r.IntN(3)
		for _, c := range calls() {
			c.check(t, "P8.2", key, number, b)
			copy(b, randomBytes(r, len(b)))
			c.check(t, "P8.2", key, number, b)
			copy(key[r.IntN(2)*keySize/2:], randomBytes(r, keySize/2))
			c.check(t, "P8.2", key, number, b)
		}
	}
}

// A key may be its own unit, and one slice may hold both.
func TestSharedArguments(t *testing.T) {
	r := source()
	whole := randomBytes(r, maxSize)
	before := bytes.Clone(whole)
	for _, c := range calls() {
		c.check(t, "P8.1", whole[:keySize], 1, whole[:keySize])
		c.check(t, "P8.1", whole[8:8+keySize], 1, whole)
		if !bytes.Equal(whole, before) {
			t.Errorf("P8.2: %s changes its arguments", c.name)
		}
	}
}

// What was called before makes no difference.
func TestCallsInTurns(t *testing.T) {
	r := source()
	var keys, units [][]byte
	for range 10 {
		keys = append(keys, randomBytes(r, keySize))
		units = append(units, randomBytes(r, (1+r.IntN(4))*blockSize))
	}
	for range 1000 {
		c := calls()[r.IntN(2)]
		c.check(t, "P8.2", keys[r.IntN(len(keys))], r.IntN(4), units[r.IntN(len(units))])
	}
}

// source has a fixed seed: each run of the tests tries the same inputs.
func source() *rand.Rand { return rand.New(rand.NewPCG(1, 2)) }

func randomBytes(r *rand.Rand, n int) []byte {
	b := make([]byte, n)
	for i := range b {
		b[i] = byte(r.Uint32())
	}
	return b
}

// counted returns the bytes from 0 up to, and without, end.
func counted(end int) []byte {
	b := make([]byte, end)
	for i := range b {
		b[i] = byte(i)
	}
	return b
}
