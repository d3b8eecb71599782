// Package octets is layer 1, operations on bytes: see shared/doc/01-octets.md.
package octets

import (
	"bytes"
	"strings"
)

// digits are those of Hex, by their values.
const digits = "0123456789abcdef"

// maxResult is how many bytes the document lets a result have.
const maxResult = 1<<31 - 1

// Lay returns n, modulo 2 to the power of 8 size, in size bytes, the most significant first.
func Lay(n, size int) []byte {
	size = min(max(size, 0), 8)
	out := make([]byte, size)
	for i := range size {
		out[size-1-i] = byte(n >> (8 * i))
	}
	return out
}

// Number returns the number that Lay lays as these bytes.
func Number(bs ...byte) int {
	n := 0
	for _, b := range bs {
		// Only the last eight bytes count: the shift drops those before them.
		n = n<<8 | int(b)
	}
	return n
}

// Xor returns the bytewise XOR of a and b, as long as the shorter one.
func Xor(a, b []byte) []byte {
	out := make([]byte, min(len(a), len(b)))
	for i := range out {
		out[i] = a[i] ^ b[i]
	}
	return out
}

// Same reports whether a and b have the same length and equal bytes.
// It goes on behind a difference, and to the end of the longer one, so that its time does not tell where tags differ.
func Same(a, b []byte) bool {
	differ := len(a) ^ len(b)
	for i := range max(len(a), len(b)) {
		differ |= int(byteAt(a, i) ^ byteAt(b, i))
	}
	return differ == 0
}

// byteAt returns byte i of b; zero if b is shorter.
func byteAt(b []byte, i int) byte {
	if i < len(b) {
		return b[i]
	}
	return 0
}

// Cut returns b in pieces of size bytes, of which the last one may have fewer.
func Cut(b []byte, size int) [][]byte {
	if size < 1 {
		return nil
	}
	var pieces [][]byte
	for len(b) > 0 {
		n := min(size, len(b))
		pieces = append(pieces, bytes.Clone(b[:n]))
		b = b[n:]
	}
	return pieces
}

// Fill returns b, padded with zeros to size bytes if it has fewer.
// Beyond maxResult nothing is promised: b stays as it is there, because so much memory would end the program.
func Fill(b []byte, size int) []byte {
	if size > maxResult {
		return bytes.Clone(b)
	}
	out := make([]byte, max(size, len(b)))
	copy(out, b)
	return out
}

// Hex returns two digits for each byte.
func Hex(b []byte) string {
	out := make([]byte, 0, 2*len(b))
	for _, x := range b {
		out = append(out, digits[x>>4], digits[x&15])
	}
	return string(out)
}

// Unhex returns the bytes of which s is the Hex; false if there are none.
func Unhex(s string) ([]byte, bool) {
	if len(s)%2 != 0 {
		return nil, false
	}
	out := make([]byte, len(s)/2)
	for i := range out {
		high := strings.IndexByte(digits, s[2*i])
		low := strings.IndexByte(digits, s[2*i+1])
		if high < 0 || low < 0 {
			return nil, false
		}
		out[i] = byte(high<<4 | low)
	}
	return out, true
}
