package dev_test

import (
	"bytes"
	"fmt"
	"math"
	"math/rand/v2"
	"slices"
	"testing"

	"turnkey/api"
	"turnkey/dev"
)

// model is a device by the words of the chapter: a read goes through all pending writes.
type model struct {
	durable [][]byte
	pending []write
	counter int
	limited bool
	left    int
}

type write struct {
	at    int
	bytes []byte
}

func newModel(n int) *model {
	m := &model{}
	for range n {
		m.durable = append(m.durable, make([]byte, 512))
	}
	return m
}

// call counts one, and tells whether the power is on.
func (m *model) call() bool {
	if !m.limited {
		return true
	}
	m.left--
	return m.left >= 0
}

func (m *model) contents(at int) []byte {
	out := m.durable[at]
	for _, w := range m.pending {
		if w.at == at {
			out = w.bytes
		}
	}
	return out
}

func (m *model) read(at int) ([]byte, api.Errno) {
	if at < 0 || at >= len(m.durable) {
		return nil, api.ErrArg
	}
	if !m.call() {
		return nil, api.ErrOff
	}
	return m.contents(at), api.OK
}

func (m *model) write(at int, b []byte) api.Errno {
	if at < 0 || at >= len(m.durable) || len(b) > 512 {
		return api.ErrArg
	}
	if !m.call() {
		return api.ErrOff
	}
	m.pending = append(m.pending, write{at, filled(b)})
	return api.OK
}

func (m *model) flush() api.Errno {
	if !m.call() {
		return api.ErrOff
	}
	for _, w := range m.pending {
		m.durable[w.at] = w.bytes
	}
	m.pending = nil
	return api.OK
}

func (m *model) raise() api.Errno {
	if !m.call() {
		return api.ErrOff
	}
	if m.counter >= 1<<48 {
		return api.ErrCounter
	}
	m.counter++
	return api.OK
}

func (m *model) wear(n int) {
	if n > 1<<48 {
		n = 1 << 48
	}
	if n > m.counter {
		m.counter = n
	}
}

func (m *model) limit(calls int) { m.limited, m.left = calls >= 0, calls }

func (m *model) crash(keep []int) int {
	kept := 0
	for i, w := range m.pending {
		if slices.Contains(keep, i) {
			m.durable[w.at] = w.bytes
			kept++
		}
	}
	m.pending, m.limited = nil, false
	return kept
}

func (m *model) tamper(at int, b []byte) api.Errno {
	if at < 0 || at >= len(m.durable) || len(b) > 512 {
		return api.ErrArg
	}
	m.durable[at] = filled(b)
	var others []write
	for _, w := range m.pending {
		if w.at != at {
			others = append(others, w)
		}
	}
	m.pending = others
	return api.OK
}

func (m *model) image() []byte {
	var out []byte
	for at := range m.durable {
		out = append(out, m.contents(at)...)
	}
	return out
}

// filled is b with as many zeros as a sector has more bytes.
func filled(b []byte) []byte {
	out := bytes.Clone(b)
	for len(out) < 512 {
		out = append(out, 0)
	}
	return out
}

// both are a device and its model, which get the same calls.
type both struct {
	t *testing.T
	d *dev.Dev
	m *model
}

func newBoth(t *testing.T, n int) both { return both{t, newDev(t, n), newModel(n)} }

func newDev(t *testing.T, n int) *dev.Dev {
	t.Helper()
	d, err := dev.New(n)
	if d == nil || err != api.OK {
		t.Fatalf("P13.1: New(%d) = %v, %d", n, d, err)
	}
	return d
}

// state holds what the device tells without a call against its model.
func (b both) state(promise, after string) {
	b.t.Helper()
	if got, want := b.d.Size(), len(b.m.durable); got != want {
		b.t.Fatalf("P13.1: after %s Size is %d, want %d", after, got, want)
	}
	if got, want := b.d.Waiting(), len(b.m.pending); got != want {
		b.t.Fatalf("%s: after %s there are %d pending writes, want %d", promise, after, got, want)
	}
	if got, want := b.d.Count(), b.m.counter; got != want {
		b.t.Fatalf("P13.2: after %s the counter is %d, want %d", after, got, want)
	}
	checkImage(b.t, promise+": after "+after, b.d, b.m.image())
}

func (b both) same(promise, what string, got, want any) {
	b.t.Helper()
	if got != want {
		b.t.Fatalf("%s: %s = %d, want %d", promise, what, got, want)
	}
	b.state(promise, what)
}

func (b both) read(at int) []byte {
	b.t.Helper()
	got, err := b.d.Read(at)
	want, wantErr := b.m.read(at)
	if err != wantErr || !bytes.Equal(got, want) {
		b.t.Fatalf("P13.1: Read(%d) = %.20q, %d, want %.20q, %d", at, got, err, want, wantErr)
	}
	b.state("P13.1", fmt.Sprintf("Read(%d)", at))
	return got
}

func (b both) write(at int, bs []byte) {
	b.t.Helper()
	b.same("P13.1", fmt.Sprintf("Write(%d) of %d bytes", at, len(bs)), b.d.Write(at, bs), b.m.write(at, bs))
}

func (b both) flush() {
	b.t.Helper()
	b.same("P13.1", "Flush", b.d.Flush(), b.m.flush())
}

func (b both) raise() {
	b.t.Helper()
	b.same("P13.2", "Raise", b.d.Raise(), b.m.raise())
}

func (b both) wear(n int) {
	b.t.Helper()
	b.d.Wear(n)
	b.m.wear(n)
	b.state("P13.2", fmt.Sprintf("Wear(%d)", n))
}

func (b both) limit(calls int) {
	b.t.Helper()
	b.d.Limit(calls)
	b.m.limit(calls)
	b.state("P13.3", fmt.Sprintf("Limit(%d)", calls))
}

func (b both) crash(keep ...int) {
	b.t.Helper()
	b.same("P13.3", fmt.Sprintf("Crash(%v)", keep), b.d.Crash(keep...), b.m.crash(keep))
}

func (b both) tamper(at int, bs []byte) {
	b.t.Helper()
	b.same("P13.4", fmt.Sprintf("Tamper(%d) with %d bytes", at, len(bs)), b.d.Tamper(at, bs), b.m.tamper(at, bs))
}

func checkImage(t *testing.T, what string, d *dev.Dev, want []byte) {
	t.Helper()
	got := d.Image()
	if len(got) != len(want) {
		t.Fatalf("%s: the image has %d bytes, want %d", what, len(got), len(want))
	}
	for at := range len(want) / 512 {
		if a, b := got[512*at:512*at+512], want[512*at:512*at+512]; !bytes.Equal(a, b) {
			t.Fatalf("%s: sector %d of the image is %.20q, want %.20q", what, at, a, b)
		}
	}
}

func checkErr(t *testing.T, what string, got, want api.Errno) {
	t.Helper()
	if got != want {
		t.Errorf("%s = %d, want %d", what, got, want)
	}
}

// checkSector expects that a sector begins with a text, and that all behind it is zero.
func checkSector(t *testing.T, what string, d *dev.Dev, at int, want string) {
	t.Helper()
	got, err := d.Read(at)
	if err != api.OK || !bytes.Equal(got, filled([]byte(want))) {
		t.Errorf("%s: Read(%d) = %.20q (%d bytes), %d, want %.20q and zeros", what, at, got, len(got), err, want)
	}
}

func checkCount(t *testing.T, what string, d *dev.Dev, want int) {
	t.Helper()
	if got := d.Count(); got != want {
		t.Errorf("P13.2: %s: the counter is %d, want %d", what, got, want)
	}
}

func checkWaiting(t *testing.T, what string, d *dev.Dev, want int) {
	t.Helper()
	if got := d.Waiting(); got != want {
		t.Errorf("P13.1: %s: there are %d pending writes, want %d", what, got, want)
	}
}

// checkCrash expects that this many writes become durable.
func checkCrash(t *testing.T, d *dev.Dev, want int, keep ...int) {
	t.Helper()
	if got := d.Crash(keep...); got != want {
		t.Errorf("P13.3: Crash(%v) = %d, want %d", keep, got, want)
	}
}

// isOn asks by a Raise, which changes nothing but the counter.
func isOn(d *dev.Dev) bool { return d.Raise() == api.OK }

func TestExample(t *testing.T) {
	d := newDev(t, 2)
	checkErr(t, "P13.1: Write(0, a)", d.Write(0, []byte("a")), api.OK)
	checkErr(t, "P13.1: Flush", d.Flush(), api.OK)
	checkErr(t, "P13.1: Write(0, b)", d.Write(0, []byte("b")), api.OK)
	checkErr(t, "P13.1: Write(1, c)", d.Write(1, []byte("c")), api.OK)
	checkSector(t, "P13.1: before the crash", d, 0, "b")
	checkCrash(t, d, 1, 1)
	checkSector(t, "P13.3: after the crash", d, 0, "a")
	checkSector(t, "P13.3: after the crash", d, 1, "c")
}

func TestNew(t *testing.T) {
	for _, n := range []int{1, 2, 3, 4, 255, 256, 257, 4096, 65535, 65536} {
		d := newDev(t, n)
		if d.Size() != n || d.Count() != 0 || d.Waiting() != 0 {
			t.Errorf("P13.1: a new device has %d sectors, the counter %d, and %d pending writes, want %d, 0, 0", d.Size(), d.Count(), d.Waiting(), n)
		}
		checkImage(t, "P13.1: of a new device", d, make([]byte, 512*n))
		checkSector(t, "P13.1: the first sector", d, 0, "")
		checkSector(t, "P13.1: the last sector", d, n-1, "")
		if !isOn(d) {
			t.Errorf("P13.1: the power of a new device is off")
		}
	}
}

func TestWrongSizes(t *testing.T) {
	for _, n := range []int{0, -1, -2, -65536, 65537, 65538, 1 << 17, 1<<31 + 1, 1<<32 + 1, 1<<32 + 65536, 1 << 53, math.MinInt, math.MinInt + 1, math.MaxInt} {
		if d, err := dev.New(n); d != nil || err != api.ErrArg {
			t.Errorf("P13.1: New(%d) = %v, %d", n, d, err)
		}
	}
}

// wrongSectors are those that a device with n sectors does not have; a cut to fewer bits would make some of them good.
func wrongSectors(n int) []int {
	return []int{-1, -2, -n, n, n + 1, 2 * n, 1<<16 + n, 1 << 31, 1 << 32, 1<<32 + 1, -1 << 32, 1 << 55, math.MinInt, math.MaxInt}
}

// checkRefused expects ErrArg from all calls with a sector that is not there, or too many bytes.
func checkRefused(t *testing.T, d *dev.Dev, n int) {
	t.Helper()
	for _, at := range wrongSectors(n) {
		if b, err := d.Read(at); len(b) != 0 || err != api.ErrArg {
			t.Errorf("P13.1: of %d sectors, Read(%d) = %d bytes, %d", n, at, len(b), err)
		}
		for _, size := range []int{0, 1, 512, 513} {
			checkErr(t, fmt.Sprintf("P13.1: of %d sectors, Write(%d) of %d bytes", n, at, size), d.Write(at, make([]byte, size)), api.ErrArg)
			checkErr(t, fmt.Sprintf("P13.4: of %d sectors, Tamper(%d) with %d bytes", n, at, size), d.Tamper(at, make([]byte, size)), api.ErrArg)
		}
	}
	for _, size := range []int{513, 514, 1023, 1024, 1 << 16, 1<<16 + 1} {
		for _, at := range []int{0, n - 1} {
			checkErr(t, fmt.Sprintf("P13.1: Write(%d) of %d bytes", at, size), d.Write(at, make([]byte, size)), api.ErrArg)
			checkErr(t, fmt.Sprintf("P13.4: Tamper(%d) with %d bytes", at, size), d.Tamper(at, make([]byte, size)), api.ErrArg)
		}
	}
}

// What is refused changes neither a sector nor what is pending, whether the power is on or off, and is no call.
func TestRefusedCalls(t *testing.T) {
	for _, n := range []int{1, 2, 5, 65536} {
		d := newDev(t, n)
		d.Write(0, []byte("zero"))
		d.Write(n-1, []byte("last"))
		d.Limit(2)
		image := d.Image()
		checkRefused(t, d, n)
		d.Raise()
		checkRefused(t, d, n)
		checkErr(t, "P13.3: the second of two calls", d.Raise(), api.OK)
		checkErr(t, "P13.3: the third of two calls", d.Raise(), api.ErrOff)
		checkRefused(t, d, n)
		checkWaiting(t, "after calls that were refused", d, 2)
		checkImage(t, "P13.1: after calls that were refused", d, image)
	}
}

// All lengths that a sector takes, over bytes that were there before: what is behind b is zero.
func TestPadding(t *testing.T) {
	full := bytes.Repeat([]byte{0xee}, 512)
	b := newBoth(t, 3)
	for n := range 513 {
		text := bytes.Repeat([]byte{byte(n%255 + 1)}, n)
		b.write(1, full)
		b.flush()
		b.write(1, text)
		b.read(1)
		b.flush()
		b.read(1)
		b.tamper(2, full)
		b.tamper(2, text)
		b.read(2)
	}
	b.write(1, full)
	b.write(1, nil)
	b.read(1)
	b.tamper(2, full)
	b.tamper(2, nil)
	b.read(2)
}

// Each sector is one of its own.
func TestSectorsAreApart(t *testing.T) {
	const n = 300
	for _, durable := range []bool{false, true} {
		d := newDev(t, n)
		for at := range n {
			d.Write(at, fmt.Append(nil, "sector ", at))
		}
		if durable {
			d.Flush()
		}
		var image []byte
		for at := range n {
			text := fmt.Sprint("sector ", at)
			checkSector(t, "P13.1: each sector was written", d, at, text)
			image = append(image, filled([]byte(text))...)
		}
		checkImage(t, "P13.4: each sector was written", d, image)
	}
}

// Every write is a pending one, also the second of a sector, and one that changes nothing.
func TestWaiting(t *testing.T) {
	d := newDev(t, 3)
	for i, at := range []int{0, 0, 1, 0, 2, 2, 1} {
		d.Write(at, nil)
		checkWaiting(t, "after a write", d, i+1)
		d.Read(at)
		d.Raise()
		checkWaiting(t, "after a Read and a Raise", d, i+1)
	}
	d.Flush()
	checkWaiting(t, "after a Flush", d, 0)
	d.Write(1, []byte("a"))
	checkWaiting(t, "after a Flush and a write", d, 1)
	d.Crash(0)
	checkWaiting(t, "after a crash that keeps the write", d, 0)
	d.Write(1, []byte("b"))
	d.Crash()
	checkWaiting(t, "after a crash that loses the write", d, 0)
}

// Of several writes of a sector the last one counts, before and after a Flush.
func TestLatestWrite(t *testing.T) {
	d := newDev(t, 2)
	for _, text := range []string{"one", "two", "", "three", "one"} {
		d.Write(1, []byte(text))
		checkSector(t, "P13.1: after a write", d, 1, text)
		checkSector(t, "P13.1: after a write of another sector", d, 0, "")
	}
	d.Flush()
	checkSector(t, "P13.1: after a Flush", d, 1, "one")
	d.Crash()
	checkSector(t, "P13.5: after a Flush and a crash", d, 1, "one")
	d.Write(1, []byte("four"))
	checkSector(t, "P13.1: a write after a Flush", d, 1, "four")
}

// numbers are some of 0 to n - 1, by the bits of set.
func numbers(set, n int) []int {
	var out []int
	for i := range n {
		if set>>i&1 == 1 {
			out = append(out, i)
		}
	}
	return out
}

// All subsets of the writes of a few sectors survive, in all of which some are written several times.
func TestAllCrashes(t *testing.T) {
	sectors := []int{0, 1, 0, 2, 1, 0, 3}
	for set := range 1 << len(sectors) {
		b := newBoth(t, 5)
		for at := range 5 {
			b.write(at, fmt.Append(nil, "durable ", at))
		}
		b.flush()
		for i, at := range sectors {
			b.write(at, fmt.Append(nil, "write ", i))
		}
		b.crash(numbers(set, len(sectors))...)
		for at := range 5 {
			b.read(at)
		}
	}
}

// The writes become durable in their own order, each once, however they are listed; numbers of no write do nothing.
func TestListsOfWritesToKeep(t *testing.T) {
	lost := []int{-1, 3, 4, 1 << 8, 1 << 16, 1 << 32, -1 << 32, math.MinInt, math.MaxInt}
	for _, c := range []struct {
		keep []int
		kept int
		text string
	}{
		{nil, 0, "durable"},
		{[]int{}, 0, "durable"},
		{lost, 0, "durable"},
		{[]int{0}, 1, "one"},
		{[]int{1}, 1, "two"},
		{[]int{2}, 1, "three"},
		{[]int{0, 1, 2}, 3, "three"},
		{[]int{2, 1, 0}, 3, "three"},
		{[]int{1, 0}, 2, "two"},
		{[]int{2, 0}, 2, "three"},
		{[]int{0, 0, 0, 0}, 1, "one"},
		{[]int{1, 0, 1, 0, 0}, 2, "two"},
		{append(slices.Clone(lost), 1), 1, "two"},
		{append([]int{1, 0}, lost...), 2, "two"},
	} {
		d := newDev(t, 1)
		d.Write(0, []byte("durable"))
		d.Flush()
		for _, text := range []string{"one", "two", "three"} {
			d.Write(0, []byte(text))
		}
		checkCrash(t, d, c.kept, c.keep...)
		checkSector(t, fmt.Sprintf("P13.3: after Crash(%v)", c.keep), d, 0, c.text)
	}
}

// What was lost is lost for ever, and later writes are numbered from 0 again.
func TestCrashesInTurns(t *testing.T) {
	d := newDev(t, 3)
	d.Write(0, []byte("a"))
	d.Write(1, []byte("b"))
	checkCrash(t, d, 1, 1)
	checkCrash(t, d, 0, 0, 1, 2)
	checkErr(t, "P13.1: Flush", d.Flush(), api.OK)
	checkSector(t, "P13.3: a write that was lost", d, 0, "")
	checkSector(t, "P13.3: a write that was kept", d, 1, "b")
	d.Write(2, []byte("c"))
	d.Write(1, []byte("d"))
	checkCrash(t, d, 1, 0)
	checkSector(t, "P13.3: the first write behind a crash", d, 2, "c")
	checkSector(t, "P13.5: what was durable before the second write", d, 1, "b")
	d.Write(0, []byte("e"))
	d.Flush()
	d.Write(0, []byte("f"))
	checkCrash(t, d, 1, 0, 1)
	checkSector(t, "P13.3: the first write behind a Flush", d, 0, "f")
}

func TestCounter(t *testing.T) {
	d := newDev(t, 1)
	for i := range 300 {
		checkCount(t, "before Raise", d, i)
		checkErr(t, "P13.2: Raise", d.Raise(), api.OK)
	}
	d.Write(0, []byte("a"))
	d.Crash()
	checkCount(t, "after a crash", d, 300)
	d.Tamper(0, []byte("b"))
	d.Flush()
	d.Read(0)
	d.Image()
	checkCount(t, "after other calls", d, 300)
	d.Limit(0)
	checkErr(t, "P13.2: Raise with the power off", d.Raise(), api.ErrOff)
	checkCount(t, "with the power off", d, 300)
	d.Crash()
	checkCount(t, "after a crash with the power off", d, 300)
	checkErr(t, "P13.2: Raise", d.Raise(), api.OK)
	checkCount(t, "after Raise", d, 301)
}

func TestWear(t *testing.T) {
	const most = 1 << 48
	for _, c := range []struct{ from, n, want int }{
		{0, 0, 0}, {0, -1, 0}, {0, math.MinInt, 0}, {0, 1, 1}, {0, 7, 7},
		{7, 6, 7}, {7, 7, 7}, {7, 8, 8}, {7, 0, 7}, {7, -8, 7}, {7, math.MinInt, 7},
		{0, 1 << 31, 1 << 31}, {1 << 31, 1 << 32, 1 << 32}, {1 << 32, 5, 1 << 32},
		{0, most - 1, most - 1}, {0, most, most}, {0, most + 1, most}, {0, 1 << 60, most}, {0, math.MaxInt, most},
		{5, most + 1, most}, {most - 1, most - 2, most - 1}, {most - 1, most, most}, {most, 3, most}, {most, most + 5, most}, {most, math.MaxInt, most},
	} {
		d := newDev(t, 1)
		d.Wear(c.from)
		d.Wear(c.n)
		checkCount(t, fmt.Sprintf("after Wear(%d) and Wear(%d)", c.from, c.n), d, c.want)
		want := api.OK
		if c.want == most {
			want = api.ErrCounter
		}
		checkErr(t, "P13.2: Raise behind Wear", d.Raise(), want)
		checkCount(t, "after Wear and Raise", d, min(c.want+1, most))
	}
}

// Wear works with the power off, and does not turn it on; the power's error comes before the counter's, which is that of a call.
func TestCounterAtItsEnd(t *testing.T) {
	const most = 1 << 48
	d := newDev(t, 1)
	d.Limit(0)
	d.Wear(most - 1)
	checkCount(t, "after Wear with the power off", d, most-1)
	checkErr(t, "P13.2: Raise with the power off", d.Raise(), api.ErrOff)
	d.Limit(3)
	checkErr(t, "P13.2: the last Raise", d.Raise(), api.OK)
	checkErr(t, "P13.2: Raise at the end", d.Raise(), api.ErrCounter)
	checkErr(t, "P13.2: Raise at the end", d.Raise(), api.ErrCounter)
	checkErr(t, "P13.2: Raise at the end with the power off", d.Raise(), api.ErrOff)
	d.Crash()
	checkErr(t, "P13.2: Raise at the end behind a crash", d.Raise(), api.ErrCounter)
	checkCount(t, "at the end", d, most)
	checkErr(t, "P13.2: Flush with the counter at its end", d.Flush(), api.OK)
	checkErr(t, "P13.2: Write with the counter at its end", d.Write(0, nil), api.OK)
}

// deed is a call that counts, with good arguments.
type deed struct {
	name string
	do   func(d *dev.Dev) api.Errno
}

func deeds() []deed {
	return []deed{
		{"Read", func(d *dev.Dev) api.Errno { _, err := d.Read(0); return err }},
		{"Write", func(d *dev.Dev) api.Errno { return d.Write(0, []byte("new")) }},
		{"Flush", func(d *dev.Dev) api.Errno { return d.Flush() }},
		{"Raise", func(d *dev.Dev) api.Errno { return d.Raise() }},
	}
}

// quiet makes all calls that do not count.
func quiet(d *dev.Dev) {
	d.Size()
	d.Count()
	d.Waiting()
	d.Image()
	d.Tamper(1, []byte("evil"))
	d.Wear(1)
	d.Read(-1)
	d.Write(2, nil)
	d.Write(0, make([]byte, 513))
	d.Tamper(2, nil)
}

// Each of the four calls counts, so many of them succeed, and others between them do not count.
func TestLimit(t *testing.T) {
	for _, x := range deeds() {
		for n := range 6 {
			d := newDev(t, 2)
			d.Limit(n)
			for i := range n + 3 {
				want := api.OK
				if i >= n {
					want = api.ErrOff
				}
				quiet(d)
				checkErr(t, fmt.Sprintf("P13.3: %s number %d of %d", x.name, i, n), x.do(d), want)
			}
		}
	}
}

// Whichever of the calls are made, those before the limit succeed.
func TestLimitOfMixedCalls(t *testing.T) {
	all := deeds()
	for i := range 256 {
		d := newDev(t, 2)
		d.Limit(3)
		for place := range 4 {
			x := all[i>>(2*place)%4]
			want := api.OK
			if place == 3 {
				want = api.ErrOff
			}
			checkErr(t, fmt.Sprintf("P13.3: %s as call %d of 3", x.name, place), x.do(d), want)
		}
	}
}

// With the power off nothing changes; reads beside the calls go on, and all is as it was when it is on again.
func TestPowerOff(t *testing.T) {
	for _, again := range []func(d *dev.Dev){
		func(d *dev.Dev) { d.Limit(-1) },
		func(d *dev.Dev) { d.Limit(10) },
	} {
		d := newDev(t, 2)
		d.Write(0, []byte("durable"))
		d.Flush()
		d.Write(0, []byte("pending"))
		d.Write(1, []byte("too"))
		d.Raise()
		image := d.Image()
		d.Limit(0)
		for range 3 {
			for _, x := range deeds() {
				checkErr(t, "P13.3: with the power off, "+x.name, x.do(d), api.ErrOff)
				checkWaiting(t, "with the power off, after "+x.name, d, 2)
				checkCount(t, "with the power off, after "+x.name, d, 1)
				checkImage(t, "P13.3: with the power off, after "+x.name, d, image)
			}
		}
		if b, err := d.Read(0); len(b) != 0 || err != api.ErrOff {
			t.Errorf("P13.1: with the power off, Read = %d bytes, %d", len(b), err)
		}
		if d.Size() != 2 {
			t.Errorf("P13.1: with the power off, Size is %d", d.Size())
		}
		again(d)
		checkSector(t, "P13.3: when the power is on again", d, 0, "pending")
		checkErr(t, "P13.3: Flush when the power is on again", d.Flush(), api.OK)
		d.Crash()
		checkSector(t, "P13.3: after a Flush when the power is on again", d, 0, "pending")
		checkSector(t, "P13.3: after a Flush when the power is on again", d, 1, "too")
	}
}

// A new limit takes the place of the one before it, whether that was reached or not.
func TestNextLimit(t *testing.T) {
	for _, first := range []int{0, 1, 2, 5, -1} {
		for _, second := range []int{0, 1, 2, 5} {
			d := newDev(t, 2)
			d.Limit(first)
			d.Raise()
			d.Limit(second)
			for range second {
				checkErr(t, fmt.Sprintf("P13.3: a call behind Limit(%d) and Limit(%d)", first, second), d.Raise(), api.OK)
			}
			checkErr(t, fmt.Sprintf("P13.3: the last call behind Limit(%d) and Limit(%d)", first, second), d.Raise(), api.ErrOff)
		}
	}
}

// Negative limits are none, nor is one behind a crash; the greatest one is not reached.
func TestNoLimit(t *testing.T) {
	begin := map[string]func(d *dev.Dev){
		"New":                              func(d *dev.Dev) {},
		"Limit(-1)":                        func(d *dev.Dev) { d.Limit(-1) },
		"Limit(-2)":                        func(d *dev.Dev) { d.Limit(-2) },
		"Limit(MinInt)":                    func(d *dev.Dev) { d.Limit(math.MinInt) },
		"Limit(MaxInt)":                    func(d *dev.Dev) { d.Limit(math.MaxInt) },
		"Limit(2^32)":                      func(d *dev.Dev) { d.Limit(1 << 32) },
		"a limit, reached":                 func(d *dev.Dev) { d.Limit(0); d.Limit(-7) },
		"Crash":                            func(d *dev.Dev) { d.Crash() },
		"a crash behind a limit":           func(d *dev.Dev) { d.Limit(3); d.Crash() },
		"a crash behind a limit, reached":  func(d *dev.Dev) { d.Limit(1); d.Raise(); d.Raise(); d.Crash(0) },
		"a crash behind a limit of none":   func(d *dev.Dev) { d.Limit(0); d.Crash() },
		"a crash behind a negative limit":  func(d *dev.Dev) { d.Limit(-5); d.Crash() },
		"a crash that keeps what is there": func(d *dev.Dev) { d.Write(0, nil); d.Limit(2); d.Crash(0, 1) },
	}
	for what, do := range begin {
		d := newDev(t, 2)
		do(d)
		for i := range 40 {
			for _, x := range deeds() {
				if err := x.do(d); err != api.OK {
					t.Fatalf("P13.3: after %s, round %d, %s = %d", what, i, x.name, err)
				}
			}
		}
	}
}

func TestTamper(t *testing.T) {
	d := newDev(t, 3)
	d.Write(0, []byte("zero"))
	d.Write(1, []byte("one"))
	d.Flush()
	checkErr(t, "P13.4: Tamper", d.Tamper(1, []byte("evil")), api.OK)
	checkSector(t, "P13.4: what was tampered with", d, 1, "evil")
	checkSector(t, "P13.4: another sector", d, 0, "zero")
	checkWaiting(t, "after Tamper", d, 0)
	d.Crash()
	checkSector(t, "P13.4: after a crash", d, 1, "evil")
	d.Write(1, []byte("good"))
	checkSector(t, "P13.4: a write behind Tamper", d, 1, "good")
	d.Crash()
	checkSector(t, "P13.4: a write that was lost behind Tamper", d, 1, "evil")
	d.Write(1, []byte("good"))
	d.Flush()
	checkSector(t, "P13.4: a write behind Tamper", d, 1, "good")
}

// Pending writes of the sector are lost, wherever they stand; the others are numbered anew.
func TestTamperWithPendingWrites(t *testing.T) {
	sectors := []int{0, 1, 0, 2, 1, 0}
	for at := range 4 {
		for set := range 1 << len(sectors) {
			b := newBoth(t, 4)
			for i, at := range sectors {
				b.write(at, fmt.Append(nil, "write ", i))
			}
			b.tamper(at, []byte("evil"))
			b.read(at)
			b.crash(numbers(set, len(sectors))...)
			b.read(at)
		}
	}
}

// A Flush behind Tamper does not bring back what was pending, and keeps all that was not.
func TestFlushBehindTamper(t *testing.T) {
	d := newDev(t, 3)
	for _, text := range []string{"a", "b"} {
		d.Write(0, []byte(text))
		d.Write(1, []byte(text))
	}
	d.Tamper(0, []byte("evil"))
	checkWaiting(t, "after Tamper", d, 2)
	d.Write(2, []byte("c"))
	checkErr(t, "P13.1: Flush", d.Flush(), api.OK)
	d.Crash()
	checkSector(t, "P13.4: what was tampered with", d, 0, "evil")
	checkSector(t, "P13.5: what was flushed", d, 1, "b")
	checkSector(t, "P13.5: what was flushed", d, 2, "c")
}

// Tamper is no call, works with the power off, and leaves the limit as it is.
func TestTamperWithThePowerOff(t *testing.T) {
	d := newDev(t, 2)
	d.Write(0, []byte("a"))
	d.Write(1, []byte("b"))
	d.Limit(1)
	checkErr(t, "P13.4: Tamper", d.Tamper(0, []byte("evil")), api.OK)
	checkErr(t, "P13.3: the only call", d.Raise(), api.OK)
	checkErr(t, "P13.4: Tamper with the power off", d.Tamper(1, []byte("worse")), api.OK)
	checkErr(t, "P13.3: a call behind Tamper", d.Raise(), api.ErrOff)
	checkWaiting(t, "after Tamper with the power off", d, 0)
	checkImage(t, "P13.4: after Tamper with the power off", d, append(filled([]byte("evil")), filled([]byte("worse"))...))
	checkErr(t, "P13.4: Tamper with no such sector and the power off", d.Tamper(2, nil), api.ErrArg)
	checkCrash(t, d, 0, 0, 1)
	checkSector(t, "P13.4: after a crash", d, 1, "worse")
}

// What was flushed is there after crashes of all kinds, until it is written or tampered with.
func TestFlushedDataSurvive(t *testing.T) {
	r := source()
	b := newBoth(t, 8)
	for at := range 4 {
		b.write(at, randomBytes(r, 512))
	}
	b.flush()
	want := b.d.Image()[:4*512]
	for range 200 {
		for range r.IntN(6) {
			b.write(4+r.IntN(4), randomBytes(r, r.IntN(513)))
		}
		b.tamper(4+r.IntN(4), randomBytes(r, 3))
		b.limit(r.IntN(4) - 1)
		b.flush()
		b.crash(numbers(r.IntN(64), 6)...)
		if got := b.d.Image()[:4*512]; !bytes.Equal(got, want) {
			t.Fatalf("P13.5: what was flushed has changed")
		}
	}
}

// randomCall makes one of all calls, some with wrong arguments.
func randomCall(r *rand.Rand, b both) {
	n := b.d.Size()
	at := r.IntN(n+2) - 1
	text := randomBytes(r, []int{0, 1, 5, 511, 512, 513}[r.IntN(6)])
	switch r.IntN(16) {
	case 0, 1, 2, 3, 4, 5:
		b.write(at, text)
	case 6, 7, 8:
		b.read(at)
	case 9:
		b.flush()
	case 10:
		b.raise()
	case 11:
		b.tamper(at, text)
	case 12:
		b.limit(r.IntN(20) - 3)
	case 13:
		b.wear(r.IntN(50) - 10)
	default:
		b.crash(numbers(r.IntN(1<<12), 12)...)
	}
}

func TestCallsInTurns(t *testing.T) {
	r := source()
	for range 200 {
		b := newBoth(t, 1+r.IntN(6))
		if r.IntN(4) == 0 {
			b.wear(1<<48 - r.IntN(3))
		}
		for range 100 {
			randomCall(r, b)
		}
	}
}

// The largest device, all of whose sectors are pending twice; a read must not go through all of them.
func TestManyPendingWrites(t *testing.T) {
	const n = 65536
	d := newDev(t, n)
	for i := range 2 * n {
		if err := d.Write(i%n, []byte{byte(i), byte(i >> 8), byte(i >> 16), 1}); err != api.OK {
			t.Fatalf("P13.1: Write = %d", err)
		}
	}
	checkWaiting(t, "after all sectors were written twice", d, 2*n)
	checkAll(t, d, func(at int) string { return string([]byte{byte(at), byte(at >> 8), 1, 1}) })
	var keep []int
	for i := n / 2; i < n+n/4; i++ {
		keep = append(keep, i)
	}
	checkCrash(t, d, n/2+n/4, keep...)
	checkAll(t, d, func(at int) string {
		switch {
		case at < n/4:
			return string([]byte{byte(at), byte(at >> 8), 1, 1})
		case at < n/2:
			return ""
		}
		return string([]byte{byte(at), byte(at >> 8), 0, 1})
	})
}

// checkAll expects a text in each sector.
func checkAll(t *testing.T, d *dev.Dev, want func(at int) string) {
	t.Helper()
	for at := range d.Size() {
		got, err := d.Read(at)
		if err != api.OK || !bytes.Equal(got, filled([]byte(want(at)))) {
			t.Fatalf("P13.1: sector %d is %.8q, %d, want %.8q", at, got, err, want(at))
		}
	}
}

// margin is more than a sector.
const margin = 600

// argument is a piece of a larger slice, so that a write before it or into its spare capacity is seen.
type argument struct{ whole, before []byte }

func newArgument(b []byte) argument {
	whole := slices.Concat(bytes.Repeat([]byte{0xa5}, margin), b, bytes.Repeat([]byte{0x5a}, margin))
	return argument{whole, bytes.Clone(whole)}
}

func (a argument) bytes() []byte { return a.whole[margin : len(a.whole)-margin] }

func (a argument) unchanged() bool { return bytes.Equal(a.whole, a.before) }

// spoil changes all of a slice, and what its capacity has behind it.
func spoil(b []byte) {
	b = b[:cap(b)]
	for i := range b {
		b[i] ^= 0xff
	}
}

func TestArgumentsStay(t *testing.T) {
	for _, n := range []int{0, 1, 3, 511, 512, 513} {
		a := newArgument(randomBytes(source(), n))
		d := newDev(t, 2)
		for range 2 {
			d.Write(0, a.bytes())
			d.Tamper(1, a.bytes())
			d.Write(2, a.bytes())
			d.Flush()
		}
		if !a.unchanged() {
			t.Errorf("P13.5: an argument of %d bytes is changed", n)
		}
	}
}

// A list of numbers stays as it is, with what is behind it.
func TestListsStay(t *testing.T) {
	whole := []int{9, 2, 0, 2, -5, 1, 77, 0, 1, 3}
	before := slices.Clone(whole)
	d := newDev(t, 1)
	for range 3 {
		for range 3 {
			d.Write(0, nil)
		}
		checkCrash(t, d, 3, whole[:6]...)
	}
	if !slices.Equal(whole, before) {
		t.Errorf("P13.5: a list of numbers is changed to %v", whole)
	}
}

// Every argument is changed as soon as it was used; the device has what it was before.
func TestArgumentsAreNotKept(t *testing.T) {
	for _, n := range []int{1, 3, 511, 512} {
		text := bytes.Repeat([]byte{7}, n)
		d := newDev(t, 3)
		pending, durable, evil := newArgument(text), newArgument(text), newArgument(text)
		d.Write(0, durable.bytes())
		d.Flush()
		d.Write(1, pending.bytes())
		d.Tamper(2, evil.bytes())
		for _, a := range []argument{pending, durable, evil} {
			spoil(a.whole)
		}
		for range 2 {
			for at := range 3 {
				checkSector(t, "P13.5: after an argument was changed", d, at, string(text))
			}
			d.Crash(0)
		}
	}
}

// A change of a result reaches neither the device nor another result.
func TestResultsAreNewMemory(t *testing.T) {
	d := newDev(t, 2)
	d.Write(0, []byte("durable"))
	d.Flush()
	d.Write(1, []byte("pending"))
	for range 2 {
		for at, text := range []string{"durable", "pending"} {
			first, _ := d.Read(at)
			second, _ := d.Read(at)
			image := d.Image()
			spoil(first)
			if !bytes.Equal(second, filled([]byte(text))) {
				t.Errorf("P13.5: two results of Read share memory")
			}
			spoil(second)
			if !bytes.HasPrefix(image[512*at:], []byte(text)) {
				t.Errorf("P13.5: results of Read and Image share memory")
			}
			spoil(image)
			checkSector(t, "P13.5: after results were changed", d, at, text)
		}
		image := d.Image()
		spoil(d.Image())
		if !bytes.Equal(image, append(filled([]byte("durable")), filled([]byte("pending"))...)) {
			t.Errorf("P13.5: two images share memory")
		}
		d.Crash(0)
	}
}

// What a call returned stays, whatever happens to the sector.
func TestResultsStay(t *testing.T) {
	d := newDev(t, 1)
	d.Write(0, []byte("first"))
	for _, do := range []func(){
		func() { d.Write(0, []byte("second")) },
		func() { d.Flush() },
		func() { d.Write(0, []byte("third")) },
		func() { d.Crash() },
		func() { d.Tamper(0, []byte("fourth")) },
		func() { d.Write(0, []byte("fifth")) },
		func() { d.Crash(0) },
	} {
		read, _ := d.Read(0)
		image := d.Image()
		before := bytes.Clone(read)
		do()
		if !bytes.Equal(read, before) || !bytes.Equal(image, before) {
			t.Errorf("P13.5: a result of Read or Image changes later")
		}
	}
}

// Two devices have nothing in common.
func TestDevicesAreApart(t *testing.T) {
	one, other := newDev(t, 2), newDev(t, 2)
	one.Write(0, []byte("one"))
	one.Raise()
	one.Limit(0)
	checkSector(t, "P13.1: another device", other, 0, "")
	checkWaiting(t, "another device", other, 0)
	checkCount(t, "another device", other, 0)
	other.Write(0, []byte("other"))
	other.Flush()
	one.Crash(0)
	checkSector(t, "P13.1: this device", one, 0, "one")
	checkCount(t, "this device", one, 1)
	checkSector(t, "P13.1: another device", other, 0, "other")
}

// source has a fixed seed: each run of the tests tries the same inputs.
func source() *rand.Rand { return rand.New(rand.NewPCG(1, 2)) }

func randomBytes(r *rand.Rand, n int) []byte {
	out := make([]byte, n)
	for i := range out {
		out[i] = byte(r.Uint32())
	}
	return out
}
