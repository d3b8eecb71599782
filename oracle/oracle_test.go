package oracle_test

import (
	"bytes"
	"encoding/binary"
	"fmt"
	"math"
	"math/rand/v2"
	"slices"
	"testing"

	"turnkey/api"
	"turnkey/cts"
	"turnkey/oracle"
)

const (
	blockKey = 32
	unitKey  = 64
	block    = 16
	maxUnit  = 1024
	most     = 255 * 64
)

// system is what an oracle does; the models of the tests do it, too.
type system interface {
	Seal(key []byte, bs ...[]byte) [64]byte
	Tag(key []byte, bs ...[]byte) [32]byte
	Derive(material []byte, context byte, info []byte, n int) ([]byte, bool)
	Block(key []byte) (cts.Block, api.Errno)
	Encrypt(key []byte, number int, b []byte) ([]byte, api.Errno)
	Decrypt(key []byte, number int, b []byte) ([]byte, api.Errno)
	Nonce() [16]byte
	Bad() bool
	Queries() int
}

// maker makes oracles of one kind, and their models.
type maker struct {
	name  string
	made  func() *oracle.Oracle
	model func() system
}

// makers has a real oracle, and ideal ones with a long tape, with one that ends soon, and with none.
func makers() []maker {
	out := []maker{{"real", oracle.Real, func() system { return &realModel{} }}}
	for _, n := range []int{1 << 20, 3000, 0} {
		seed := randomBytes(source(), n)
		out = append(out, maker{
			fmt.Sprintf("ideal, with a tape of %d bytes", n),
			func() *oracle.Oracle { return oracle.Ideal(seed) },
			func() system { return newIdealModel(seed) },
		})
	}
	return out
}

// The models have the methods of an oracle.
var _ = []system{&oracle.Oracle{}, &realModel{}, &idealModel{}}

// derive is layer 6 with another seal, by the words of the chapters.
func derive(seal func(key []byte, bs ...[]byte) [64]byte, material []byte, context byte, info []byte, n int) ([]byte, bool) {
	if n < 0 || n > most {
		return nil, false
	}
	key := seal(make([]byte, 64), material)
	whole := "turnkey\x00" + string([]byte{context}) + string(info)
	var out, previous []byte
	for i := range (n + 63) / 64 {
		sum := seal(key[:], []byte(string(previous)+whole+string([]byte{byte(i + 1)})))
		previous = sum[:]
		out = append(out, previous...)
	}
	return out[:n], true
}

// isUnit reports whether layer 8 has an answer.
func isUnit(key []byte, number int, b []byte) bool {
	sizes := make([]int, 64)
	for i := range sizes {
		sizes[i] = 16 * (i + 1)
	}
	return len(key) == unitKey && number >= 0 && slices.Contains(sizes, len(b))
}

// pair is an oracle and its model, which get the same calls.
type pair struct {
	t     *testing.T
	name  string
	o     *oracle.Oracle
	model system
}

func (m maker) pair(t *testing.T) pair { return pair{t, m.name, m.made(), m.model()} }

// newIdealPair is an ideal oracle with that tape, and its model.
func newIdealPair(t *testing.T, seed []byte) pair {
	return pair{t, "ideal", oracle.Ideal(seed), newIdealModel(seed)}
}

// state holds what the two tell about themselves against each other.
func (p pair) state(after string) {
	p.t.Helper()
	if p.o.Bad() != p.model.Bad() || p.o.Queries() != p.model.Queries() {
		p.t.Fatalf("P12.3: %s: after %s Bad is %t and there are %d queries, want %t and %d",
			p.name, after, p.o.Bad(), p.o.Queries(), p.model.Bad(), p.model.Queries())
	}
}

func (p pair) seal(key []byte, bs ...[]byte) [64]byte {
	p.t.Helper()
	got, want := p.o.Seal(key, bs...), p.model.Seal(key, bs...)
	if got != want {
		p.t.Fatalf("P12.1: %s: Seal(%.100x, %.100x) = %x, want %x", p.name, key, bs, got, want)
	}
	p.state("Seal")
	return got
}

func (p pair) tag(key []byte, bs ...[]byte) [32]byte {
	p.t.Helper()
	got, want := p.o.Tag(key, bs...), p.model.Tag(key, bs...)
	if got != want {
		p.t.Fatalf("P12.1: %s: Tag(%.100x, %.100x) = %x, want %x", p.name, key, bs, got, want)
	}
	p.state("Tag")
	return got
}

func (p pair) derive(material []byte, context byte, info []byte, n int) ([]byte, bool) {
	p.t.Helper()
	got, ok := p.o.Derive(material, context, info, n)
	want, wantOk := p.model.Derive(material, context, info, n)
	if ok != wantOk || !bytes.Equal(got, want) {
		p.t.Fatalf("P12.1: %s: Derive(%x, %d, %x, %d) = %x, %t, want %x, %t", p.name, material, context, info, n, got, ok, want, wantOk)
	}
	p.state(fmt.Sprintf("Derive of %d bytes", n))
	return got, ok
}

// ciphers are the ciphers of both for one key.
type ciphers struct {
	pair
	c, model cts.Block
}

func (p pair) block(key []byte) ciphers {
	p.t.Helper()
	c, err := p.o.Block(key)
	model, _ := p.model.Block(key)
	if c == nil || err != api.OK {
		p.t.Fatalf("P12.2: %s: Block = %v, %d", p.name, c, err)
	}
	p.state("Block")
	return ciphers{p, c, model}
}

func (c ciphers) encrypt(b [16]byte) [16]byte {
	c.t.Helper()
	got, want := c.c.Encrypt(b), c.model.Encrypt(b)
	if got != want {
		c.t.Fatalf("P12.2: %s: the block %x is encrypted to %x, want %x", c.name, b, got, want)
	}
	c.state("a block's encryption")
	return got
}

func (c ciphers) decrypt(b [16]byte) [16]byte {
	c.t.Helper()
	got, want := c.c.Decrypt(b), c.model.Decrypt(b)
	if got != want {
		c.t.Fatalf("P12.2: %s: the block %x is decrypted to %x, want %x", c.name, b, got, want)
	}
	c.state("a block's decryption")
	return got
}

func (p pair) encrypt(key []byte, number int, b []byte) []byte {
	p.t.Helper()
	got, err := p.o.Encrypt(key, number, b)
	want, wantErr := p.model.Encrypt(key, number, b)
	if err != wantErr || !bytes.Equal(got, want) {
		p.t.Fatalf("P12.2: %s: number %d, %d bytes: Encrypt = %x, %d, want %x, %d", p.name, number, len(b), got, err, want, wantErr)
	}
	p.state("Encrypt")
	return got
}

func (p pair) decrypt(key []byte, number int, b []byte) []byte {
	p.t.Helper()
	got, err := p.o.Decrypt(key, number, b)
	want, wantErr := p.model.Decrypt(key, number, b)
	if err != wantErr || !bytes.Equal(got, want) {
		p.t.Fatalf("P12.2: %s: number %d, %d bytes: Decrypt = %x, %d, want %x, %d", p.name, number, len(b), got, err, want, wantErr)
	}
	p.state("Decrypt")
	return got
}

// nonce also finds out whether as much of the tape was drawn as of the model's.
func (p pair) nonce() [16]byte {
	p.t.Helper()
	got, want := p.o.Nonce(), p.model.Nonce()
	if got != want {
		p.t.Fatalf("P12.3: %s: Nonce = %x, want %x", p.name, got, want)
	}
	p.state("Nonce")
	return got
}

// divide cuts b at random places, with empty pieces among the others.
func divide(r *rand.Rand, b []byte) [][]byte {
	var bs [][]byte
	for {
		n := r.IntN(len(b) + 1)
		bs, b = append(bs, b[:n]), b[n:]
		if len(b) == 0 {
			return append(bs, nil)
		}
	}
}

// sizes are lengths around the ends of a block of the hash, of a MAC, and of its padding.
func sizes() []int { return []int{0, 1, 2, 15, 16, 32, 63, 64, 65, 127, 128, 129, 200, 256, 257, 1000} }

func TestSealsAndTags(t *testing.T) {
	r := source()
	for _, m := range makers() {
		p := m.pair(t)
		for _, k := range sizes() {
			for _, n := range sizes() {
				key, text := randomBytes(r, k), randomBytes(r, n)
				seal, tag := p.seal(key, text), p.tag(key, text)
				for range 3 {
					if p.seal(key, divide(r, text)...) != seal || p.tag(key, divide(r, text)...) != tag {
						t.Errorf("P12.1: %s: a text of %d bytes is sealed otherwise when it is divided", m.name, n)
					}
				}
			}
		}
		p.nonce()
	}
}

// No text, an empty list, and lists of empty pieces are the same text, and so are all empty keys.
func TestNothing(t *testing.T) {
	empties := [][]byte{nil, {}, make([]byte, 0, 200), []byte("spare")[:0]}
	for _, m := range makers() {
		p := m.pair(t)
		seal, tag := p.seal(nil), p.tag(nil)
		derived, _ := p.derive(nil, 0, nil, 100)
		queries := p.o.Queries()
		for _, empty := range empties {
			for _, bs := range [][][]byte{nil, {}, {nil}, {empty}, {empty, nil, {}}, empties} {
				if p.seal(empty, bs...) != seal || p.tag(empty, bs...) != tag {
					t.Errorf("P12.1: %s: %d empty pieces are another text than none", m.name, len(bs))
				}
			}
			if got, ok := p.derive(empty, 0, empty, 100); !ok || !bytes.Equal(got, derived) {
				t.Errorf("P12.1: %s: an empty slice is other material, or another info, than nil", m.name)
			}
		}
		if p.o.Queries() != queries {
			t.Errorf("P12.1: %s: empty slices are new queries", m.name)
		}
	}
}

func TestDeriveOfLengths(t *testing.T) {
	r := source()
	for _, m := range makers() {
		p := m.pair(t)
		for _, n := range []int{0, 1, 2, 32, 63, 64, 65, 127, 128, 129, 192, 1000, most - 65, most - 64, most - 63, most - 1, most} {
			material, context, info := randomBytes(r, r.IntN(100)), byte(r.Uint32()), randomBytes(r, r.IntN(100))
			for range 2 {
				if got, ok := p.derive(material, context, info, n); !ok || len(got) != n {
					t.Errorf("P12.1: %s: Derive of %d bytes = %d bytes, %t", m.name, n, len(got), ok)
				}
			}
			p.nonce()
		}
	}
}

// wrongLengths are those of which there is nothing; a cut to fewer bits, or a multiplication, would make some of them good.
func wrongLengths() []int {
	wrong := []int{-1, most + 1, math.MinInt, math.MinInt32, math.MaxInt32, math.MaxInt - 64, math.MaxInt - 1, math.MaxInt}
	for _, n := range []int{1, 2, 32, 63, 64, 65, 256, 1000, most - 1, most} {
		wrong = append(wrong, -n, most+n, 1<<16+n, 1<<31+n, 1<<32+n, 1<<58+n, -1<<32+n, math.MinInt+n)
	}
	return wrong
}

// It stops at the first fault: a program that accepts one of these lengths may take very long for the next one.
func TestDeriveOfWrongLengths(t *testing.T) {
	for _, m := range makers() {
		p := m.pair(t)
		for _, n := range wrongLengths() {
			if got, ok := p.derive([]byte("m"), 3, []byte("i"), n); ok || len(got) != 0 {
				t.Fatalf("P12.1: %s: Derive of %d bytes = %d bytes, %t", m.name, n, len(got), ok)
			}
		}
		if p.o.Queries() != 0 {
			t.Errorf("P12.1: %s: lengths of which there is nothing make %d queries", m.name, p.o.Queries())
		}
		p.nonce()
		p.derive([]byte("m"), 3, []byte("i"), 100)
	}
}

func TestDeriveOfAllContexts(t *testing.T) {
	for _, m := range makers()[:2] {
		p := m.pair(t)
		seen := map[string]int{}
		for context := range 256 {
			p.derive([]byte("master"), byte(context), nil, 65)
			got, _ := p.derive([]byte("master"), byte(context), []byte("info"), 65)
			if other, ok := seen[string(got)]; ok {
				t.Errorf("P12.1: %s: the contexts %d and %d derive the same", m.name, other, context)
			}
			seen[string(got)] = context
		}
	}
}

// Infos that a conversion by runes, or one that ends at a zero, would change.
func TestDeriveOfInfosThatAreNoText(t *testing.T) {
	infos := []string{"\x00", "\x00\x00", "info\x00", "\x00info", "\x80", "\xff\xfe", "\xc3", "\xed\xa0\x80", "\xef\xbf\xbd"}
	for _, m := range makers()[:2] {
		p := m.pair(t)
		for _, info := range infos {
			p.derive([]byte("master"), 1, []byte(info), 65)
			p.derive([]byte(info), 1, nil, 65)
		}
	}
}

// A shorter derivation is a prefix of a longer one, whichever comes first.
func TestShorterDerivationIsPrefix(t *testing.T) {
	r := source()
	for _, m := range makers() {
		p := m.pair(t)
		for _, n := range r.Perm(300) {
			short, _ := p.derive([]byte("m"), 9, []byte("i"), n)
			long, _ := p.derive([]byte("m"), 9, []byte("i"), 300)
			if !bytes.Equal(short, long[:n]) {
				t.Errorf("P12.1: %s: a derivation of %d bytes is no prefix", m.name, n)
			}
		}
	}
}

func TestBlocks(t *testing.T) {
	r := source()
	for _, m := range makers() {
		p := m.pair(t)
		for range 60 {
			c := p.block(randomBytes(r, blockKey))
			for range 4 {
				checkBlockReversal(t, c, [16]byte(randomBytes(r, block)))
			}
			checkBlockReversal(t, c, [16]byte{})
		}
		p.nonce()
	}
}

// checkBlockReversal encrypts and decrypts a block, in both orders.
func checkBlockReversal(t *testing.T, c ciphers, b [16]byte) {
	t.Helper()
	if got := c.decrypt(c.encrypt(b)); got != b {
		t.Errorf("P12.4: %s: the block %x, encrypted and decrypted, is %x", c.name, b, got)
	}
	if got := c.encrypt(c.decrypt(b)); got != b {
		t.Errorf("P12.4: %s: the block %x, decrypted and encrypted, is %x", c.name, b, got)
	}
}

// A cipher that is not there equals nil, which a nil pointer in it would not.
func TestWrongBlockKeys(t *testing.T) {
	sizes := []int{256, 256 + blockKey, 1000, 1<<16 + blockKey, 1 << 20}
	for n := range 200 {
		if n != blockKey {
			sizes = append(sizes, n)
		}
	}
	whole := randomBytes(source(), 1<<20)
	for _, m := range makers() {
		p := m.pair(t)
		for _, n := range sizes {
			for _, key := range [][]byte{make([]byte, n), whole[:n]} {
				if c, err := p.o.Block(key); c != nil || err != api.ErrArg {
					t.Errorf("P12.2: %s: a key of %d bytes: Block = %v, %d", m.name, n, c, err)
				}
			}
		}
		if c, err := p.o.Block(nil); c != nil || err != api.ErrArg {
			t.Errorf("P12.2: %s: no key: Block = %v, %d", m.name, c, err)
		}
		p.state("Block with wrong keys")
		p.nonce()
	}
}

// What counts is the length of a slice, not its capacity.
func TestCapacityDoesNotCount(t *testing.T) {
	whole := randomBytes(source(), 2*maxUnit)
	for _, m := range makers() {
		p := m.pair(t)
		for _, end := range []int{blockKey, unitKey, 2 * maxUnit} {
			checkBlockReversal(t, p.block(whole[:blockKey:end]), [16]byte{3})
		}
		for _, end := range []int{unitKey, unitKey + 1, 2 * maxUnit} {
			checkReversal(t, p, whole[:unitKey:end], 7, whole[:unitKey:end])
		}
		for n := range unitKey {
			if c, err := p.o.Block(whole[: n : blockKey+n]); n != blockKey && (c != nil || err != api.ErrArg) {
				t.Errorf("P12.2: %s: a key of %d bytes: Block = %v, %d", m.name, n, c, err)
			}
			if c, err := p.o.Block(whole[:n:max(n, blockKey)]); n != blockKey && (c != nil || err != api.ErrArg) {
				t.Errorf("P12.2: %s: a key of %d bytes: Block = %v, %d", m.name, n, c, err)
			}
			checkRefused(t, p, whole[:n:unitKey], 7, whole[:block])
			if n%block != 0 {
				checkRefused(t, p, whole[:unitKey], 7, whole[:n:unitKey])
			}
		}
		p.nonce()
	}
}

// All ciphers of one key are the same cipher, and other keys have nothing to do with it.
func TestCiphersOfOneKey(t *testing.T) {
	r := source()
	for _, m := range makers() {
		p := m.pair(t)
		key := randomBytes(r, blockKey)
		other := bytes.Clone(key)
		other[31] ^= 1
		first, apart, second := p.block(key), p.block(other), p.block(bytes.Clone(key))
		for range 30 {
			b := [16]byte(randomBytes(r, block))
			encrypted := first.encrypt(b)
			apart.encrypt(b)
			apart.decrypt(encrypted)
			if second.decrypt(encrypted) != b || p.block(key).encrypt(b) != encrypted {
				t.Errorf("P12.2: %s: two ciphers of one key differ", m.name)
			}
		}
	}
}

// Layer 9 takes the ciphers, and reverses what it does with them.
func TestCiphersInLayer9(t *testing.T) {
	r := source()
	for _, m := range makers() {
		p := m.pair(t)
		for n := 16; n <= 256; n++ {
			c, text := p.block(randomBytes(r, blockKey)), randomBytes(r, n)
			got, err := cts.Encrypt(c.c, text)
			want, _ := cts.Encrypt(c.model, text)
			if err != api.OK || !bytes.Equal(got, want) {
				t.Errorf("P12.2: %s: a text of %d bytes is encrypted to %x, %d, want %x", m.name, n, got, err, want)
			}
			if back, err := cts.Decrypt(c.c, got); err != api.OK || !bytes.Equal(back, text) {
				t.Errorf("P12.4: %s: a text of %d bytes comes back as %x, %d", m.name, n, back, err)
			}
		}
	}
}

func TestUnits(t *testing.T) {
	r := source()
	for _, m := range makers() {
		p := m.pair(t)
		for n := block; n <= maxUnit; n += block {
			key, number := randomBytes(r, unitKey), r.Int()
			for range 2 {
				checkReversal(t, p, key, number, randomBytes(r, n))
			}
			checkReversal(t, p, make([]byte, unitKey), 0, make([]byte, n))
		}
		p.nonce()
	}
}

// checkReversal encrypts and decrypts b, in both orders.
func checkReversal(t *testing.T, p pair, key []byte, number int, b []byte) {
	t.Helper()
	if got := p.decrypt(key, number, p.encrypt(key, number, b)); !bytes.Equal(got, b) {
		t.Errorf("P12.4: %s: number %d: %x, encrypted and decrypted, is %x", p.name, number, b, got)
	}
	if got := p.encrypt(key, number, p.decrypt(key, number, b)); !bytes.Equal(got, b) {
		t.Errorf("P12.4: %s: number %d: %x, decrypted and encrypted, is %x", p.name, number, b, got)
	}
}

// numbers are those at which one byte or one bit more is needed, the greatest one, and some between them.
func numbers(r *rand.Rand) []int {
	out := []int{0, 255, 256, 257, 258, 65535, 65536, math.MaxInt - 1, math.MaxInt}
	for shift := range 63 {
		out = append(out, 1<<shift, 1<<shift-1, 1<<shift+1, r.IntN(1<<shift))
	}
	return out
}

func TestNumbers(t *testing.T) {
	r := source()
	key, b := randomBytes(r, unitKey), randomBytes(r, 2*block)
	for _, m := range makers() {
		p := m.pair(t)
		for _, number := range numbers(r) {
			checkReversal(t, p, key, number, b)
		}
	}
}

// checkRefused expects ErrArg, and no bytes.
func checkRefused(t *testing.T, p pair, key []byte, number int, b []byte) {
	t.Helper()
	for range 2 {
		if got, err := p.o.Encrypt(key, number, b); err != api.ErrArg || len(got) != 0 {
			t.Errorf("P12.2: %s: a key of %d bytes, number %d, %d bytes: Encrypt = %x, %d", p.name, len(key), number, len(b), got, err)
		}
		if got, err := p.o.Decrypt(key, number, b); err != api.ErrArg || len(got) != 0 {
			t.Errorf("P12.2: %s: a key of %d bytes, number %d, %d bytes: Decrypt = %x, %d", p.name, len(key), number, len(b), got, err)
		}
	}
	p.state("refused calls")
}

// All lengths that a unit does not have, up to some beyond the longest one, and longer ones that a cut to fewer bits would make good.
func TestWrongUnits(t *testing.T) {
	r := source()
	key, whole := randomBytes(r, unitKey), randomBytes(r, 1<<20+1)
	sizes := []int{0, 4096, 1<<16 + block, 1<<16 + maxUnit, 1 << 20, 1<<20 + 1}
	for n := range 2*maxUnit + 3 {
		if n%block != 0 || n > maxUnit {
			sizes = append(sizes, n)
		}
	}
	for _, m := range makers() {
		p := m.pair(t)
		for _, n := range sizes {
			checkRefused(t, p, key, n, whole[:n])
			checkRefused(t, p, key, n, make([]byte, n))
		}
		checkRefused(t, p, key, 0, nil)
		p.nonce()
	}
}

func TestWrongUnitKeys(t *testing.T) {
	r := source()
	b, whole := randomBytes(r, 2*block), randomBytes(r, 1<<20)
	sizes := []int{256, 256 + unitKey, 1000, 1<<16 + unitKey, 1 << 20}
	for n := range 200 {
		if n != unitKey {
			sizes = append(sizes, n)
		}
	}
	for _, m := range makers() {
		p := m.pair(t)
		for _, n := range sizes {
			checkRefused(t, p, whole[:n], n, b)
			checkRefused(t, p, make([]byte, n), 0, b)
		}
		checkRefused(t, p, nil, 0, b)
		p.nonce()
	}
}

func TestWrongNumbers(t *testing.T) {
	r := source()
	key := randomBytes(r, unitKey)
	wrong := []int{math.MinInt, math.MinInt + 1, math.MinInt + 258, -2, -255, -1<<31 - 1}
	for shift := range 63 {
		wrong = append(wrong, -1<<shift)
	}
	for _, m := range makers() {
		p := m.pair(t)
		for _, number := range wrong {
			checkRefused(t, p, key, number, randomBytes(r, block))
			checkRefused(t, p, key, number, randomBytes(r, maxUnit))
		}
		p.nonce()
	}
}

// Whatever is wrong together is ErrArg, too, and only what is right is not.
func TestErrorsOfLayer8(t *testing.T) {
	for _, m := range makers() {
		p := m.pair(t)
		for _, k := range []int{0, 1, 32, 63, 64, 65, 128} {
			for _, number := range []int{math.MinInt, -1, 0, 1, math.MaxInt} {
				for _, n := range []int{0, 1, 15, 16, 17, 512, 1008, 1024, 1025, 1040} {
					p.encrypt(make([]byte, k), number, make([]byte, n))
					p.decrypt(make([]byte, k), number, make([]byte, n))
				}
			}
		}
		p.nonce()
	}
}

// call makes one of all calls, with few different arguments, so that many are made again.
func (p pair) call(r *rand.Rand) {
	p.t.Helper()
	text := func() []byte { return bytes.Repeat([]byte{byte(r.IntN(3))}, r.IntN(3)) }
	unit := func() []byte { return bytes.Repeat([]byte{byte(r.IntN(6))}, block*r.IntN(4)) }
	switch r.IntN(8) {
	case 0:
		p.seal(text(), text(), text())
	case 1:
		p.tag(text(), text(), text())
	case 2:
		p.derive(text(), byte(r.IntN(2)), text(), r.IntN(202)-1)
	case 3:
		p.block(bytes.Repeat([]byte{byte(r.IntN(2))}, blockKey)).encrypt([16]byte{byte(r.IntN(5))})
	case 4:
		p.block(make([]byte, blockKey)).decrypt([16]byte{byte(r.IntN(5))})
	case 5:
		p.encrypt(make([]byte, unitKey), r.IntN(3)-1, unit())
	case 6:
		p.decrypt(make([]byte, unitKey), r.IntN(3)-1, unit())
	default:
		p.nonce()
	}
}

func TestCallsInTurns(t *testing.T) {
	r := source()
	for _, m := range makers() {
		for range 10 {
			p := m.pair(t)
			for range 300 {
				p.call(r)
			}
		}
	}
}

// Bad and Queries ask nothing.
func TestAskingForTheStateChangesNothing(t *testing.T) {
	for _, m := range makers() {
		p := m.pair(t)
		for range 3 {
			p.seal(nil)
			p.o.Queries()
			p.o.Bad()
			p.nonce()
			p.state("Bad and Queries")
		}
	}
}

// margin is more than a unit, and a block of the hash with its padding, have.
const margin = 2 * maxUnit

// argument is a piece of a larger slice, so that a write before it or into its spare capacity is seen.
type argument struct{ whole, before []byte }

func newArgument(b []byte) argument {
	whole := slices.Concat(bytes.Repeat([]byte{'<'}, margin), b, bytes.Repeat([]byte{'>'}, margin))
	return argument{whole, bytes.Clone(whole)}
}

func (a argument) bytes() []byte { return a.whole[margin : len(a.whole)-margin] }

func (a argument) unchanged() bool { return bytes.Equal(a.whole, a.before) }

// spoil changes all of a slice, and what its capacity has behind it.
func spoil(b []byte) {
	b = b[:cap(b)]
	for i := range b {
		b[i] ^= 0xff
	}
}

// use makes each call with the arguments, wrong ones among them.
func use(o system, key, b []byte) {
	o.Seal(key, b)
	o.Tag(key, b, b)
	for _, n := range []int{-1, 0, 1, 64, 65, most + 1} {
		o.Derive(key, 7, b, n)
	}
	if c, err := o.Block(key); err == api.OK {
		c.Encrypt([16]byte{})
		c.Decrypt([16]byte{})
	}
	for number := range 3 {
		o.Encrypt(key, number-1, b)
		o.Decrypt(key, number-1, b)
	}
}

func TestArgumentsStay(t *testing.T) {
	r := source()
	for _, m := range makers() {
		o := m.made()
		for _, k := range []int{0, 1, 31, 32, 33, 63, 64, 65, 128, 129} {
			for _, n := range []int{0, 1, 16, 17, 32, 64, 512, 1024, 1025, 1040} {
				key, b := newArgument(randomBytes(r, k)), newArgument(randomBytes(r, n))
				use(o, key.bytes(), b.bytes())
				if !key.unchanged() || !b.unchanged() {
					t.Errorf("P12.4: %s: arguments of %d and %d bytes are changed, or what is around them", m.name, k, n)
				}
			}
		}
	}
}

// The list of the pieces is an argument, too, with its spare capacity.
func TestListsStay(t *testing.T) {
	for _, m := range makers() {
		o := m.made()
		whole := [][]byte{[]byte("before"), []byte("a"), nil, []byte("b"), []byte("behind"), []byte("behind")}
		before := slices.Clone(whole)
		o.Seal([]byte("k"), whole[1:4]...)
		o.Tag([]byte("k"), whole[1:4]...)
		for i := range whole {
			if !bytes.Equal(whole[i], before[i]) || len(whole[i]) > 0 && &whole[i][0] != &before[i][0] {
				t.Errorf("P12.4: %s: item %d of a list is changed", m.name, i)
			}
		}
	}
}

// Every argument is changed as soon as it was used; what was answered to the former ones stays.
func TestArgumentsAreNotKept(t *testing.T) {
	r := source()
	for _, m := range makers() {
		p := m.pair(t)
		short, long, b := randomBytes(r, blockKey), randomBytes(r, unitKey), randomBytes(r, 3*block)
		for range 30 {
			c := p.block(short)
			encrypted := c.encrypt([16]byte{1})
			spoil(short)
			if c.encrypt([16]byte{1}) != encrypted || c.decrypt(encrypted) != [16]byte{1} {
				t.Errorf("P12.4: %s: a cipher changes with its key", m.name)
			}
			p.seal(long, b, short)
			p.tag(long, b, short)
			p.derive(long, 1, b, 70)
			p.encrypt(long, 1, b)
			p.decrypt(long, 1, b)
			changed := [][]byte{short, long, b}[r.IntN(3)]
			copy(changed, randomBytes(r, 1+r.IntN(len(changed))))
		}
	}
}

// results are all slices that calls with these arguments return; a call that fails returns none.
func results(o system, key, b []byte) [][]byte {
	derived, _ := o.Derive(key, 1, b, 70)
	none, _ := o.Derive(key, 1, b, 0)
	encrypted, _ := o.Encrypt(key, 1, b)
	decrypted, _ := o.Decrypt(key, 1, b)
	return [][]byte{derived, none, encrypted, decrypted}
}

// A change of a result reaches neither an argument, nor another result, nor the oracle.
func TestResultsAreNewMemory(t *testing.T) {
	r := source()
	for _, m := range makers() {
		o, model := m.made(), m.model()
		for n := block; n <= maxUnit; n += 5 * block {
			key, b := newArgument(randomBytes(r, unitKey)), newArgument(randomBytes(r, n))
			want := results(model, key.bytes(), b.bytes())
			first, second := results(o, key.bytes(), b.bytes()), results(o, key.bytes(), b.bytes())
			for i := range first {
				spoil(second[i])
				if !bytes.Equal(first[i], want[i]) {
					t.Errorf("P12.4: %s: result %d for %d bytes is %x, want %x", m.name, i, n, first[i], want[i])
				}
				spoil(first[i])
			}
			if !key.unchanged() || !b.unchanged() {
				t.Errorf("P12.4: %s: a result for %d bytes shares memory with an argument", m.name, n)
			}
			if again := results(o, key.bytes(), b.bytes()); !slices.EqualFunc(again, want, bytes.Equal) {
				t.Errorf("P12.4: %s: a result for %d bytes shares memory with the oracle", m.name, n)
			}
		}
	}
}

// What follows in a longer derivation must not be found behind a shorter one.
func TestNothingBehindResults(t *testing.T) {
	for _, m := range makers() {
		o := m.made()
		for n := range 200 {
			got, _ := o.Derive([]byte("key"), 1, []byte("info"), n)
			for i, x := range got[len(got):cap(got)] {
				if x != 0 {
					t.Fatalf("P12.4: %s: n %d: byte %d behind the result is %x", m.name, n, i, x)
				}
			}
		}
	}
}

// Two oracles have nothing in common.
func TestOraclesAreApart(t *testing.T) {
	r := source()
	for _, m := range makers() {
		one, two, other := m.pair(t), m.pair(t), m.made()
		for range 200 {
			one.call(r)
			use(other, randomBytes(r, blockKey), randomBytes(r, block))
			other.Nonce()
			two.call(r)
		}
	}
}

// source has a fixed seed: each run of the tests tries the same inputs.
func source() *rand.Rand { return rand.New(rand.NewPCG(1, 2)) }

func randomBytes(r *rand.Rand, n int) []byte {
	b := make([]byte, n)
	for i := range b {
		b[i] = byte(r.Uint32())
	}
	return b
}

// eight returns n in eight bytes, the most significant first.
func eight(n int) []byte { return binary.BigEndian.AppendUint64(nil, uint64(n)) }
