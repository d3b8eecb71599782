package oracle

import (
	"strings"

	"turnkey/api"
	"turnkey/cts"
	"turnkey/octets"
	"turnkey/tape"
)

const (
	blockSize    = 16
	maxBlocks    = 64
	blockKeySize = 32
	unitKeySize  = 64
)

// idealSource asks lazy tables, and so do the block ciphers that it returns.
type idealSource struct{ lazy *tape.Lazy }

func newIdealSource(seed []byte) *idealSource { return &idealSource{tape.New(seed)} }

func (i *idealSource) seal(key []byte, bs ...[]byte) [sealSize]byte {
	return [sealSize]byte(i.lazy.Function("seal", query(key, bs), sealSize))
}

func (i *idealSource) tag(key []byte, bs ...[]byte) [tagSize]byte {
	return [tagSize]byte(i.lazy.Function("tag", query(key, bs), tagSize))
}

// query returns the key and the text as one. The length of the key tells where the text begins.
func query(key []byte, bs [][]byte) string {
	var q strings.Builder
	q.Write(octets.Lay(len(key), 4))
	q.Write(key)
	for _, b := range bs {
		q.Write(b)
	}
	return q.String()
}

func (i *idealSource) block(key []byte) (cts.Block, api.Errno) {
	if len(key) != blockKeySize {
		return nil, api.ErrArg
	}
	return lazyBlock{i.lazy, "block" + string(key)}, api.OK
}

// lazyBlock is a block cipher by the permutation with that name.
type lazyBlock struct {
	lazy *tape.Lazy
	name string
}

// Encrypt returns the encrypted block.
func (l lazyBlock) Encrypt(b [16]byte) [16]byte { return [16]byte(l.lazy.Forward(l.name, b[:])) }

// Decrypt returns the decrypted block.
func (l lazyBlock) Decrypt(b [16]byte) [16]byte { return [16]byte(l.lazy.Backward(l.name, b[:])) }

func (i *idealSource) encrypt(key []byte, number int, b []byte) ([]byte, api.Errno) {
	if !isUnit(key, number, b) {
		return nil, api.ErrArg
	}
	return i.lazy.Forward(unitName(key, number), b), api.OK
}

func (i *idealSource) decrypt(key []byte, number int, b []byte) ([]byte, api.Errno) {
	if !isUnit(key, number, b) {
		return nil, api.ErrArg
	}
	return i.lazy.Backward(unitName(key, number), b), api.OK
}

// isUnit reports whether these are a key, a number and the bytes of a unit of layer 8.
func isUnit(key []byte, number int, b []byte) bool {
	size := len(b)
	return len(key) == unitKeySize && number >= 0 && size > 0 && size <= maxBlocks*blockSize && size%blockSize == 0
}

// unitName returns the name of the permutation of the units with that key and number.
func unitName(key []byte, number int) string {
	return "unit" + string(key) + string(octets.Lay(number, 8))
}

func (i *idealSource) nonce() [nonceSize]byte { return [nonceSize]byte(i.lazy.Draw(nonceSize)) }

func (i *idealSource) bad() bool { return i.lazy.Bad() }

func (i *idealSource) queries() int { return i.lazy.Queries() }
