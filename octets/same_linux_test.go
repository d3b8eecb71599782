package octets_test

import (
	"runtime/debug"
	"syscall"
	"testing"

	"turnkey/octets"
)

// Which bytes Same examines does not show in its result. Here one byte lies in memory that must not be read:
// that Same examines it shows by a fault.

// pages returns two pages of zeros, of which one can't be read.
func pages(t *testing.T, unreadable int) (both []byte, size int) {
	size = syscall.Getpagesize()
	both, err := syscall.Mmap(-1, 0, 2*size, syscall.PROT_READ|syscall.PROT_WRITE, syscall.MAP_ANON|syscall.MAP_PRIVATE)
	if err != nil {
		t.Fatal(err)
	}
	t.Cleanup(func() {
		if err := syscall.Munmap(both); err != nil {
			t.Error(err)
		}
	})
	if err := syscall.Mprotect(both[unreadable*size:(unreadable+1)*size], syscall.PROT_NONE); err != nil {
		t.Fatal(err)
	}
	return both, size
}

// answer takes what Same returns: without a use of it, the compiler may drop what Same reads.
var answer bool

// faults reports whether Same of a and b reads what can't be read.
func faults(a, b []byte) (did bool) {
	defer debug.SetPanicOnFault(debug.SetPanicOnFault(true))
	defer func() { did = recover() != nil }()
	answer = octets.Same(a, b)
	return
}

func TestSameExaminesLastByte(t *testing.T) {
	both, size := pages(t, 1)
	hidden := both[size-31 : size+1] // 32 bytes; the last one can't be read
	ones := make([]byte, 64)
	for i := range ones {
		ones[i] = 1
	}
	for _, n := range []int{0, 1, 31, 32, 33, 64} {
		if !faults(hidden, ones[:n]) || !faults(ones[:n], hidden) {
			t.Errorf("P1.2: beside %d bytes that all differ, the last one of 32 is not examined", n)
		}
	}
	if faults(hidden[:31], ones) || faults(ones, hidden[:31]) {
		t.Error("P1.2: a byte behind the last one is examined")
	}
}

func TestSameExaminesFirstByte(t *testing.T) {
	both, size := pages(t, 0)
	hidden := both[size-1 : size+31] // 32 bytes; the first one can't be read
	for _, n := range []int{0, 1, 32, 64} {
		if !faults(hidden, make([]byte, n)) || !faults(make([]byte, n), hidden) {
			t.Errorf("P1.2: beside %d bytes, the first one of 32 is not examined", n)
		}
	}
}
