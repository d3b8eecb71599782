package oracle

import (
	"turnkey/aes"
	"turnkey/api"
	"turnkey/cts"
	"turnkey/hmac"
	"turnkey/octets"
	"turnkey/xts"
)

// nonceKeySize is how many zeros the key has of whose seals real nonces are made.
const nonceKeySize = 32

// realSource asks the layers below. It has the number of nonces that it returned.
type realSource struct{ nonces int }

func (r *realSource) seal(key []byte, bs ...[]byte) [sealSize]byte { return hmac.Sum(key, bs...) }

func (r *realSource) tag(key []byte, bs ...[]byte) [tagSize]byte { return hmac.Tag(key, bs...) }

func (r *realSource) block(key []byte) (cts.Block, api.Errno) {
	c, err := aes.New(key)
	if err != api.OK {
		// A nil pointer in a Block would not equal nil.
		return nil, err
	}
	return c, api.OK
}

func (r *realSource) encrypt(key []byte, number int, b []byte) ([]byte, api.Errno) {
	return xts.Encrypt(key, number, b)
}

func (r *realSource) decrypt(key []byte, number int, b []byte) ([]byte, api.Errno) {
	return xts.Decrypt(key, number, b)
}

// nonce returns the beginning of a seal under a key that everybody knows: nonces must differ, but they are no secrets.
func (r *realSource) nonce() [nonceSize]byte {
	sum := r.seal(make([]byte, nonceKeySize), octets.Lay(r.nonces, 8))
	r.nonces++
	return [nonceSize]byte(sum[:nonceSize])
}

func (r *realSource) bad() bool { return false }

func (r *realSource) queries() int { return 0 }
