package oracle_test

import (
	"bytes"
	"crypto/aes"
	"crypto/cipher"
	"crypto/hkdf"
	"crypto/hmac"
	"crypto/sha512"
	"encoding/hex"
	"testing"

	"turnkey/api"
	"turnkey/cts"
	lower "turnkey/hmac"
	"turnkey/oracle"
	"turnkey/xts"
)

// realModel is a real oracle by the standard library, which has all but units.
type realModel struct{ nonces int }

func (m *realModel) Seal(key []byte, bs ...[]byte) [64]byte {
	h := hmac.New(sha512.New, key)
	for _, b := range bs {
		h.Write(b)
	}
	return [64]byte(h.Sum(nil))
}

func (m *realModel) Tag(key []byte, bs ...[]byte) [32]byte {
	sum := m.Seal(key, bs...)
	return [32]byte(sum[:32])
}

func (m *realModel) Derive(material []byte, context byte, info []byte, n int) ([]byte, bool) {
	if n < 0 {
		return nil, false
	}
	out, err := hkdf.Key(sha512.New, material, nil, "turnkey\x00"+string([]byte{context})+string(info), n)
	return out, err == nil
}

func (m *realModel) Block(key []byte) (cts.Block, api.Errno) {
	if len(key) != blockKey {
		return nil, api.ErrArg
	}
	c, err := aes.NewCipher(key)
	if err != nil {
		panic(err)
	}
	return libraryBlock{c}, api.OK
}

// libraryBlock is a cipher of the standard library.
type libraryBlock struct{ c cipher.Block }

func (l libraryBlock) Encrypt(b [16]byte) [16]byte {
	l.c.Encrypt(b[:], b[:])
	return b
}

func (l libraryBlock) Decrypt(b [16]byte) [16]byte {
	l.c.Decrypt(b[:], b[:])
	return b
}

func (m *realModel) Encrypt(key []byte, number int, b []byte) ([]byte, api.Errno) {
	return xts.Encrypt(key, number, b)
}

func (m *realModel) Decrypt(key []byte, number int, b []byte) ([]byte, api.Errno) {
	return xts.Decrypt(key, number, b)
}

func (m *realModel) Nonce() [16]byte {
	sum := m.Seal(make([]byte, 32), eight(m.nonces))
	m.nonces++
	return [16]byte(sum[:16])
}

func (m *realModel) Bad() bool { return false }

func (m *realModel) Queries() int { return 0 }

// checkHex holds bytes against what a chapter, or a program that is not in Go, has.
func checkHex(t *testing.T, what string, got []byte, want string) {
	t.Helper()
	if hex.EncodeToString(got) != want {
		t.Errorf("%s is %x, want %s", what, got, want)
	}
}

// The examples of the chapters 5, 7 and 8, and the chapter's own.
func TestRealExamples(t *testing.T) {
	o := oracle.Real()
	key, text := []byte("Jefe"), []byte("what do ya want for nothing?")
	seal, tag := o.Seal(key, text), o.Tag(key, text)
	const sum = "164b7a7bfcf819e2e395fbe73b56e0a387bd64222e831fd610270cd7ea250554" +
		"9758bf75c05a994a6d034f65f8f0e6fdcaeab1a34d4a6b4b636e070a38bce737"
	checkHex(t, "P12.1: the seal of chapter 5's text", seal[:], sum)
	checkHex(t, "P12.1: the tag of chapter 5's text", tag[:], sum[:64])
	if seal != lower.Sum(key, text) || tag != lower.Tag(key, text) {
		t.Errorf("P12.1: Seal and Tag are not layer 5's")
	}
	counted := make([]byte, blockKey)
	for i := range counted {
		counted[i] = byte(i)
	}
	c, err := o.Block(counted)
	if err != api.OK {
		t.Fatalf("P12.2: Block returns %d", err)
	}
	b := c.Encrypt([16]byte{0, 0x11, 0x22, 0x33, 0x44, 0x55, 0x66, 0x77, 0x88, 0x99, 0xaa, 0xbb, 0xcc, 0xdd, 0xee, 0xff})
	checkHex(t, "P12.2: the encryption of chapter 7's block", b[:], "8ea2b7ca516745bfeafc49904b496089")
	b = c.Decrypt(b)
	checkHex(t, "P12.2: the decryption of chapter 7's block", b[:], "00112233445566778899aabbccddeeff")
	unit, err := o.Encrypt(make([]byte, unitKey), 0, make([]byte, 32))
	checkHex(t, "P12.2: the encryption of chapter 8's unit", unit, "d456b4fc2e620bba6ffbed27b956c9543454dd49ebd8d8ee6f94b65cbe158f73")
	if back, backErr := o.Decrypt(make([]byte, unitKey), 0, unit); err != api.OK || backErr != api.OK || !bytes.Equal(back, make([]byte, 32)) {
		t.Errorf("P12.2: the decryption of chapter 8's unit is %x, %d, %d", back, err, backErr)
	}
}

// What was computed by a program that is not in Go.
func TestRealDerivation(t *testing.T) {
	got, ok := oracle.Real().Derive([]byte("master"), 7, []byte("nonce"), 80)
	if !ok {
		t.Errorf("P12.1: Derive returns false")
	}
	checkHex(t, "P12.1: what is derived", got, "fbae91699dd8f39219f0db23661a048b216b925844cee1690e8f8bcdc6f99af5"+
		"dade155848d24be0eb20152f8e20d1fb17e64be0c3547008bf1b070758a90b05"+
		"fda60c8065a460d8574a7a55594bb4d8")
}

func TestRealNonces(t *testing.T) {
	want := map[int]string{
		0:     "6a410b5a992a613a3e791dc3368cdd61",
		1:     "ce7dd35ce30dcd5cd1774ce39826b154",
		2:     "ae995cddd906ff373167a0e13bc42be3",
		255:   "5058725291b98532c584b8a2b15d2546",
		256:   "99faeb4af93b45326a018198b7731e9c",
		65535: "34d629b3388476df3695210ad2ebc9ac",
		65536: "24800cefd8a07638917db54502223c5a",
	}
	o, model, seen := oracle.Real(), &realModel{}, map[[16]byte]int{}
	for n := range 1<<16 + 300 {
		got := o.Nonce()
		if got != model.Nonce() {
			t.Fatalf("P12.3: nonce %d is %x", n, got)
		}
		if other, ok := seen[got]; ok {
			t.Fatalf("P12.3: the nonces %d and %d are the same", other, n)
		}
		seen[got] = n
		if s, ok := want[n]; ok {
			checkHex(t, "P12.3: a nonce", got[:], s)
		}
	}
	first := oracle.Real().Nonce()
	checkHex(t, "P12.3: the first nonce of another oracle", first[:], want[0])
}

// A real oracle draws nothing, whatever it is asked: two seals that are the same are no reason to become bad.
func TestRealIsNeverBad(t *testing.T) {
	r := source()
	o := oracle.Real()
	for range 3 {
		for _, k := range []int{0, blockKey, unitKey} {
			use(o, randomBytes(r, k), randomBytes(r, block))
			use(o, make([]byte, k), make([]byte, block))
			o.Nonce()
		}
		o.Seal([]byte("k"), []byte("t"))
		// A key is padded with zeros, so that this is the same seal for another key.
		o.Seal([]byte("k\x00"), []byte("t"))
		if o.Bad() || o.Queries() != 0 {
			t.Errorf("P12.3: Bad is %t and there are %d queries", o.Bad(), o.Queries())
		}
	}
}
