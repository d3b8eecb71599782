package oracle_test

import (
	"bytes"
	"fmt"
	"testing"

	"turnkey/api"
	"turnkey/cts"
	"turnkey/oracle"
	"turnkey/tape"
)

// idealModel is an ideal oracle by layer 11, with names and queries that cannot be taken for others.
type idealModel struct{ lazy *tape.Lazy }

func newIdealModel(seed []byte) *idealModel { return &idealModel{tape.New(seed)} }

func (m *idealModel) Seal(key []byte, bs ...[]byte) [64]byte {
	return [64]byte(m.lazy.Function("seals", fmt.Sprintf("%x %x", key, bytes.Join(bs, nil)), 64))
}

func (m *idealModel) Tag(key []byte, bs ...[]byte) [32]byte {
	return [32]byte(m.lazy.Function("tags", fmt.Sprintf("%x %x", key, bytes.Join(bs, nil)), 32))
}

func (m *idealModel) Derive(material []byte, context byte, info []byte, n int) ([]byte, bool) {
	return derive(m.Seal, material, context, info, n)
}

func (m *idealModel) Block(key []byte) (cts.Block, api.Errno) {
	if len(key) != blockKey {
		return nil, api.ErrArg
	}
	return modelBlock{m.lazy, fmt.Sprintf("blocks %x", key)}, api.OK
}

// modelBlock is a permutation of blocks.
type modelBlock struct {
	lazy *tape.Lazy
	name string
}

func (m modelBlock) Encrypt(b [16]byte) [16]byte { return [16]byte(m.lazy.Forward(m.name, b[:])) }

func (m modelBlock) Decrypt(b [16]byte) [16]byte { return [16]byte(m.lazy.Backward(m.name, b[:])) }

func (m *idealModel) Encrypt(key []byte, number int, b []byte) ([]byte, api.Errno) {
	if !isUnit(key, number, b) {
		return nil, api.ErrArg
	}
	return m.lazy.Forward(fmt.Sprintf("units %x %d", key, number), b), api.OK
}

func (m *idealModel) Decrypt(key []byte, number int, b []byte) ([]byte, api.Errno) {
	if !isUnit(key, number, b) {
		return nil, api.ErrArg
	}
	return m.lazy.Backward(fmt.Sprintf("units %x %d", key, number), b), api.OK
}

func (m *idealModel) Nonce() [16]byte { return [16]byte(m.lazy.Draw(16)) }

func (m *idealModel) Bad() bool { return m.lazy.Bad() }

func (m *idealModel) Queries() int { return m.lazy.Queries() }

// counted returns n bytes from 1 on.
func counted(n int) []byte {
	b := make([]byte, n)
	for i := range b {
		b[i] = byte(i + 1)
	}
	return b
}

// checkState expects Bad and Queries.
func checkState(t *testing.T, o *oracle.Oracle, bad bool, queries int) {
	t.Helper()
	if o.Bad() != bad || o.Queries() != queries {
		t.Errorf("P12.3: Bad is %t and there are %d queries, want %t and %d", o.Bad(), o.Queries(), bad, queries)
	}
}

// The chapter's example, and what is drawn behind it.
func TestIdealExample(t *testing.T) {
	o := oracle.Ideal(counted(250))
	checkState(t, o, false, 0)
	if got := o.Seal([]byte("k"), []byte("t")); got != [64]byte(counted(64)) {
		t.Errorf("P12.1: the first seal is %v", got)
	}
	if got := o.Tag([]byte("k"), []byte("t")); got != [32]byte(counted(96)[64:]) {
		t.Errorf("P12.1: the first tag is %v", got)
	}
	if got := o.Nonce(); got != [16]byte(counted(112)[96:]) {
		t.Errorf("P12.3: the first nonce is %v", got)
	}
	c, _ := o.Block(make([]byte, blockKey))
	if got := c.Encrypt([16]byte{9}); got != [16]byte(counted(128)[112:]) {
		t.Errorf("P12.2: the first block is %v", got)
	}
	if got, err := o.Encrypt(make([]byte, unitKey), 0, make([]byte, 32)); err != api.OK || !bytes.Equal(got, counted(160)[128:]) {
		t.Errorf("P12.2: the first unit is %v, %d", got, err)
	}
	if got, err := o.Decrypt(make([]byte, unitKey), 0, make([]byte, 48)); err != api.OK || !bytes.Equal(got, counted(208)[160:]) {
		t.Errorf("P12.2: the second unit is %v, %d", got, err)
	}
	if got := c.Decrypt([16]byte{9}); got != [16]byte(counted(224)[208:]) {
		t.Errorf("P12.2: the second block is %v", got)
	}
	if got := o.Nonce(); got != [16]byte(counted(240)[224:]) {
		t.Errorf("P12.3: the second nonce is %v", got)
	}
	if got := o.Nonce(); got != [16]byte(append(counted(250)[240:], make([]byte, 6)...)) {
		t.Errorf("P12.3: the last nonce is %v", got)
	}
	if got := o.Nonce(); got != [16]byte{} {
		t.Errorf("P12.3: a nonce after the tape's end is %v", got)
	}
	checkState(t, o, false, 6)
}

// The tape is not the slice that Ideal was given.
func TestTapeIsNotKept(t *testing.T) {
	seed := newArgument(counted(200))
	o := oracle.Ideal(seed.bytes())
	o.Nonce()
	spoil(seed.whole)
	if got := o.Seal(nil); got != [64]byte(counted(80)[16:]) {
		t.Errorf("P12.4: a seal when the tape's slice was changed is %v", got)
	}
	spoil(seed.whole)
	for range 20 {
		o.Nonce()
	}
	if got := o.Nonce(); got != [16]byte{} || !seed.unchanged() {
		t.Errorf("P12.4: the spare capacity of the tape's slice is taken for tape, or changed")
	}
}

// The same bytes, divided into a key and a text at each place, are as many queries.
func TestKeyAndTextAreApart(t *testing.T) {
	const n = 1000
	for _, whole := range [][]byte{make([]byte, n), counted(n), bytes.Repeat([]byte{0, 1}, n/2)} {
		o := oracle.Ideal(randomBytes(source(), 200*n))
		for range 2 {
			for i := range n + 1 {
				o.Seal(whole[:i], whole[i:])
				o.Tag(whole[:i], whole[i:])
			}
		}
		checkState(t, o, false, 2*(n+1))
	}
}

// Lengths that are equal in their last three bytes, or in fewer, are not the same.
func TestLengthsOfKeys(t *testing.T) {
	const n = 1<<24 + 1
	whole, seed := make([]byte, n), counted(200)
	for _, k := range []int{256, 257, 1 << 16, 1<<16 + 1, 1 << 24, n} {
		o := oracle.Ideal(seed)
		for range 2 {
			o.Seal(whole[:k%256], whole[k%256:k])
			o.Seal(whole[:k])
		}
		checkState(t, o, false, 2)
	}
}

// Seal and Tag are two functions: neither draws for the other, and neither makes it bad.
func TestSealAndTagAreApart(t *testing.T) {
	key, text := []byte("key"), []byte("text")
	for _, tagFirst := range []bool{false, true} {
		o := oracle.Ideal(counted(96))
		if tagFirst {
			o.Tag(key, text)
		}
		seal, tag := o.Seal(key, text), o.Tag(key, text)
		if bytes.HasPrefix(seal[:], tag[:]) || o.Seal(key, text) != seal || o.Tag(key, text) != tag {
			t.Errorf("P12.1: a seal is %x, and the tag of the same text %x", seal, tag)
		}
		checkState(t, o, false, 2)
	}
	o := oracle.Ideal(nil)
	o.Seal(key, text)
	o.Tag(key, text)
	checkState(t, o, false, 2)
}

// After the tape's end all that is drawn is zero: the second text of one function makes it bad.
func TestBadOfFunctions(t *testing.T) {
	for _, ask := range []func(o *oracle.Oracle, text string){
		func(o *oracle.Oracle, text string) { o.Seal([]byte("k"), []byte(text)) },
		func(o *oracle.Oracle, text string) { o.Seal([]byte(text)) },
		func(o *oracle.Oracle, text string) { o.Tag([]byte("k"), []byte(text)) },
		func(o *oracle.Oracle, text string) { o.Tag([]byte(text)) },
	} {
		o := oracle.Ideal(nil)
		for range 2 {
			ask(o, "a")
			checkState(t, o, false, 1)
		}
		ask(o, "b")
		checkState(t, o, true, 2)
		ask(o, "a")
		o.Nonce()
		checkState(t, o, true, 2)
	}
}

// Nonces are no answers: they make nothing bad, nor are they questions.
func TestNoncesAreNoQuestions(t *testing.T) {
	o := oracle.Ideal(nil)
	for range 5 {
		o.Nonce()
	}
	o.Seal(nil)
	o.Nonce()
	checkState(t, o, false, 1)
}

// As for functions; the text that was there before is replaced by the next one.
func TestBadOfBlocks(t *testing.T) {
	for _, decrypting := range []bool{false, true} {
		o := oracle.Ideal(nil)
		c, _ := o.Block(make([]byte, blockKey))
		ask := c.Encrypt
		if decrypting {
			ask = c.Decrypt
		}
		if got := ask([16]byte{7}); got != [16]byte{} {
			t.Errorf("P12.2: the first block is %v", got)
		}
		checkState(t, o, false, 1)
		if got := ask([16]byte{8}); got != [16]byte{15: 1} {
			t.Errorf("P12.2: the second block is %v", got)
		}
		checkState(t, o, true, 2)
	}
}

func TestBadOfUnits(t *testing.T) {
	key, one := make([]byte, unitKey), make([]byte, 2*block)
	one[31] = 1
	for _, decrypting := range []bool{false, true} {
		o := oracle.Ideal(nil)
		ask := o.Encrypt
		if decrypting {
			ask = o.Decrypt
		}
		if got, err := ask(key, 5, counted(32)); err != api.OK || !bytes.Equal(got, make([]byte, 32)) {
			t.Errorf("P12.2: the first unit is %v, %d", got, err)
		}
		checkState(t, o, false, 1)
		if got, err := ask(key, 5, make([]byte, 32)); err != api.OK || !bytes.Equal(got, one) {
			t.Errorf("P12.2: the second unit is %v, %d", got, err)
		}
		checkState(t, o, true, 2)
	}
}

// Each key has a permutation of its own: in each one zeros are drawn once, and nothing becomes bad.
func TestKeysOfBlocksAreApart(t *testing.T) {
	o := oracle.Ideal(nil)
	for bit := range 8 * blockKey {
		key := make([]byte, blockKey)
		key[bit/8] ^= 1 << (bit % 8)
		c, _ := o.Block(key)
		if got := c.Encrypt([16]byte{1}); got != [16]byte{} {
			t.Errorf("P12.2: the first block of the key with bit %d is %v", bit, got)
		}
		checkState(t, o, false, bit+1)
	}
}

// Each key, each number and each length has a permutation of its own.
func TestUnitsAreApart(t *testing.T) {
	o, queries := oracle.Ideal(nil), 0
	check := func(what string, key []byte, number, n int) {
		t.Helper()
		queries++
		for range 2 {
			if got, err := o.Encrypt(key, number, counted(n)); err != api.OK || !bytes.Equal(got, make([]byte, n)) {
				t.Errorf("P12.2: %s: the first unit is %x, %d", what, got, err)
			}
			checkState(t, o, false, queries)
		}
	}
	for bit := range 8 * unitKey {
		key := make([]byte, unitKey)
		key[bit/8] ^= 1 << (bit % 8)
		check(fmt.Sprintf("bit %d of the key", bit), key, 0, block)
	}
	for bit := range 63 {
		check(fmt.Sprintf("bit %d of the number", bit), make([]byte, unitKey), 1<<bit, block)
	}
	for n := block; n <= maxUnit; n += block {
		check(fmt.Sprintf("%d bytes", n), make([]byte, unitKey), 0, n)
	}
}

// A unit of one block has nothing to do with that block's cipher.
func TestBlocksAndUnitsAreApart(t *testing.T) {
	o := oracle.Ideal(nil)
	c, _ := o.Block(make([]byte, blockKey))
	c.Encrypt([16]byte{1})
	o.Encrypt(make([]byte, unitKey), 0, make([]byte, block))
	o.Seal(make([]byte, blockKey), make([]byte, block))
	checkState(t, o, false, 3)
}

// A unit is drawn as a whole, at one question, and a cipher is drawn only when it is used.
func TestWhatIsDrawn(t *testing.T) {
	seed := randomBytes(source(), 3000)
	for n := block; n <= maxUnit; n += block {
		o := oracle.Ideal(seed)
		c, _ := o.Block(make([]byte, blockKey))
		checkState(t, o, false, 0)
		if got, _ := o.Encrypt(make([]byte, unitKey), 3, make([]byte, n)); !bytes.Equal(got, seed[:n]) {
			t.Errorf("P12.2: a unit of %d bytes is %x", n, got)
		}
		checkState(t, o, false, 1)
		if got := o.Nonce(); got != [16]byte(seed[n:n+16]) {
			t.Errorf("P12.3: the nonce behind a unit of %d bytes is %x", n, got)
		}
		if got := c.Encrypt([16]byte{}); got != [16]byte(seed[n+16:n+32]) {
			t.Errorf("P12.2: the block behind a unit of %d bytes and a nonce is %x", n, got)
		}
		checkState(t, o, false, 2)
	}
}

// Calls that are refused draw nothing, and are no questions.
func TestRefusedCallsDrawNothing(t *testing.T) {
	o := oracle.Ideal(counted(16))
	b := make([]byte, maxUnit+block)
	o.Block(b[:blockKey-1])
	o.Block(b[:blockKey+1])
	for _, run := range []func(key []byte, number int, b []byte) ([]byte, api.Errno){o.Encrypt, o.Decrypt} {
		run(b[:unitKey-1], 0, b[:block])
		run(b[:unitKey], -1, b[:block])
		run(b[:unitKey], 0, b[:block+1])
		run(b[:unitKey], 0, b)
		run(b[:unitKey], 0, nil)
	}
	o.Derive(nil, 0, nil, -1)
	o.Derive(nil, 0, nil, most+1)
	checkState(t, o, false, 0)
	if got := o.Nonce(); got != [16]byte(counted(16)) {
		t.Errorf("P12.3: the nonce behind refused calls is %v", got)
	}
}

// The extraction is one question, and each block of the expansion is another; none of them is asked twice.
func TestQuestionsOfDerive(t *testing.T) {
	seed := randomBytes(source(), 257*64)
	for _, n := range []int{0, 1, 63, 64, 65, 128, 129, most - 64, most - 63, most} {
		o, blocks := oracle.Ideal(seed), (n+63)/64
		for range 2 {
			if got, ok := o.Derive([]byte("m"), 1, []byte("i"), n); !ok || !bytes.Equal(got, seed[64:64+n]) {
				t.Errorf("P12.1: Derive of %d bytes = %x, %t", n, got, ok)
			}
			checkState(t, o, false, 1+blocks)
		}
		if got := o.Nonce(); !bytes.Equal(got[:], seed[64+64*blocks:64+64*blocks+16]) {
			t.Errorf("P12.3: the nonce behind a derivation of %d bytes is %x", n, got)
		}
	}
}

// The questions of Derive are those of Seal with the keys and texts of layer 6.
func TestDeriveAsksSeal(t *testing.T) {
	o := oracle.Ideal(randomBytes(source(), 1000))
	got, _ := o.Derive([]byte("material"), 5, []byte("info"), 128)
	key := o.Seal(make([]byte, 64), []byte("material"))
	first := o.Seal(key[:], []byte("turnkey\x00\x05info\x01"))
	second := o.Seal(key[:], first[:], []byte("turnkey\x00\x05info\x02"))
	if !bytes.Equal(got, append(first[:], second[:]...)) {
		t.Errorf("P12.1: Derive = %x, want %x and %x", got, first, second)
	}
	checkState(t, o, false, 3)
	// A salt of 64 zero bytes is another key than an empty one, which layer 5 makes no difference of.
	o.Seal(nil, []byte("material"))
	checkState(t, o, false, 4)
}

// An extraction that was asked before is no new question.
func TestSealBeforeDerive(t *testing.T) {
	o := oracle.Ideal(counted(250))
	o.Seal(make([]byte, 64), []byte("material"))
	checkState(t, o, false, 1)
	if got, ok := o.Derive([]byte("material"), 5, []byte("info"), 64); !ok || !bytes.Equal(got, counted(128)[64:]) {
		t.Errorf("P12.1: Derive = %v, %t", got, ok)
	}
	checkState(t, o, false, 2)
	o.Derive([]byte("material"), 6, []byte("info"), 64)
	checkState(t, o, false, 3)
}

// Bad becomes true at the same call as the model's, on tapes of few different bytes that end soon.
func TestShortTapes(t *testing.T) {
	r := source()
	for range 300 {
		seed := randomBytes(r, r.IntN(1500))
		for i := range seed {
			seed[i] %= byte(1 + r.IntN(2))
		}
		p := newIdealPair(t, seed)
		for range 60 {
			p.call(r)
		}
	}
}
