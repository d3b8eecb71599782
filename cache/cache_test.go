package cache_test

import (
	"bytes"
	"fmt"
	"math"
	"math/rand/v2"
	"slices"
	"testing"

	"turnkey/api"
	"turnkey/cache"
	"turnkey/dev"
)

// model is a cache by the words of the chapter: a plain list, the most recent sector first, above a device of its own.
type model struct {
	d    *dev.Dev
	room int
	list []stored
}

type stored struct {
	at    int
	bytes []byte
}

func (m *model) find(at int) int {
	return slices.IndexFunc(m.list, func(s stored) bool { return s.at == at })
}

func (m *model) store(at int, b []byte) {
	m.drop(at)
	m.list = slices.Insert(m.list, 0, stored{at, b})
	if len(m.list) > m.room {
		m.list = m.list[:m.room]
	}
}

func (m *model) read(at int) ([]byte, api.Errno) {
	if i := m.find(at); i >= 0 {
		b := m.list[i].bytes
		m.store(at, b)
		return b, api.OK
	}
	b, err := m.d.Read(at)
	if err == api.OK {
		m.store(at, b)
	}
	return b, err
}

func (m *model) write(at int, b []byte) api.Errno {
	err := m.d.Write(at, b)
	if err == api.OK {
		m.store(at, filled(b))
	}
	return err
}

func (m *model) drop(at ...int) {
	m.list = slices.DeleteFunc(slices.Clone(m.list), func(s stored) bool { return slices.Contains(at, s.at) })
}

func (m *model) kept() []int {
	var out []int
	for _, s := range m.list {
		out = append(out, s.at)
	}
	return out
}

// filled is b with as many zeros as a sector has more bytes.
func filled(b []byte) []byte {
	out := bytes.Clone(b)
	for len(out) < 512 {
		out = append(out, 0)
	}
	return out
}

// both are a cache and its model, which get the same calls, each with a device of its own.
type both struct {
	t *testing.T
	c *cache.Cache
	d *dev.Dev
	m *model
}

func newBoth(t *testing.T, n, room int) both {
	t.Helper()
	c, d := newCache(t, n, room)
	return both{t, c, d, &model{newDev(t, n), room, nil}}
}

// state holds what is stored, and both devices, against each other.
func (b both) state(after string) {
	b.t.Helper()
	if got, want := b.c.Kept(), b.m.kept(); !slices.Equal(got, want) {
		b.t.Fatalf("P14.2: after %s Kept is %v, want %v", after, got, want)
	}
	if !bytes.Equal(b.d.Image(), b.m.d.Image()) || b.d.Waiting() != b.m.d.Waiting() {
		b.t.Fatalf("P14.1: after %s the device has not what it should have", after)
	}
}

func (b both) read(at int) {
	b.t.Helper()
	got, err := b.c.Read(at)
	want, wantErr := b.m.read(at)
	if err != wantErr || !bytes.Equal(got, want) {
		b.t.Fatalf("P14.1: Read(%d) = %.20q (%d bytes), %d, want %.20q, %d", at, got, len(got), err, want, wantErr)
	}
	b.state(fmt.Sprintf("Read(%d)", at))
}

func (b both) write(at int, bs []byte) {
	b.t.Helper()
	if got, want := b.c.Write(at, bs), b.m.write(at, bs); got != want {
		b.t.Fatalf("P14.1: Write(%d) of %d bytes = %d, want %d", at, len(bs), got, want)
	}
	b.state(fmt.Sprintf("Write(%d) of %d bytes", at, len(bs)))
}

func (b both) drop(at ...int) {
	b.t.Helper()
	b.c.Drop(at...)
	b.m.drop(at...)
	b.state(fmt.Sprintf("Drop(%v)", at))
}

func (b both) clear() {
	b.t.Helper()
	b.c.Clear()
	b.m.list = nil
	b.state("Clear")
}

// devices does something with both devices, which the cache is not told of.
func (b both) devices(do func(d *dev.Dev)) {
	do(b.d)
	do(b.m.d)
}

func newDev(t *testing.T, n int) *dev.Dev {
	t.Helper()
	d, err := dev.New(n)
	if err != api.OK {
		t.Fatalf("dev.New(%d) = %d", n, err)
	}
	return d
}

func newCache(t *testing.T, n, room int) (*cache.Cache, *dev.Dev) {
	t.Helper()
	d := newDev(t, n)
	return newCacheOf(t, d, room), d
}

func newCacheOf(t *testing.T, d *dev.Dev, room int) *cache.Cache {
	t.Helper()
	c, err := cache.New(d, room)
	if c == nil || err != api.OK {
		t.Fatalf("P14.1: New with room %d = %v, %d", room, c, err)
	}
	return c
}

func checkErr(t *testing.T, what string, got, want api.Errno) {
	t.Helper()
	if got != want {
		t.Errorf("%s = %d, want %d", what, got, want)
	}
}

// checkRead expects a sector that begins with a text, behind which all is zero.
func checkRead(t *testing.T, what string, c *cache.Cache, at int, want string) {
	t.Helper()
	got, err := c.Read(at)
	if err != api.OK || !bytes.Equal(got, filled([]byte(want))) {
		t.Errorf("%s: Read(%d) = %.20q (%d bytes), %d, want %.20q and zeros", what, at, got, len(got), err, want)
	}
}

// checkNoRead expects an error, and nothing beside it.
func checkNoRead(t *testing.T, what string, c *cache.Cache, at int, want api.Errno) {
	t.Helper()
	if got, err := c.Read(at); len(got) != 0 || err != want {
		t.Errorf("%s: Read(%d) = %d bytes, %d, want none, %d", what, at, len(got), err, want)
	}
}

func checkKept(t *testing.T, what string, c *cache.Cache, want ...int) {
	t.Helper()
	if got := c.Kept(); !slices.Equal(got, want) {
		t.Errorf("P14.2: %s: Kept is %v, want %v", what, got, want)
	}
}

// calls counts those of the device that f makes.
func calls(t *testing.T, d *dev.Dev, f func()) int {
	t.Helper()
	const many = 100
	d.Limit(many)
	f()
	n := 0
	for ; d.Raise() == api.OK; n++ {
	}
	d.Limit(-1)
	return many - n
}

func checkCalls(t *testing.T, what string, d *dev.Dev, want int, f func()) {
	t.Helper()
	if got := calls(t, d, f); got != want {
		t.Errorf("P14.1: %s makes %d calls of the device, want %d", what, got, want)
	}
}

func TestExample(t *testing.T) {
	c, _ := newCache(t, 2, 1)
	c.Read(0)
	c.Read(1)
	checkKept(t, "after Read(0) and Read(1) with room 1", c, 1)
}

func TestNew(t *testing.T) {
	for _, room := range []int{0, 1, 2, 16, 65536, 65537, 1 << 32, math.MaxInt} {
		d := newDev(t, 2)
		d.Write(1, []byte("one"))
		d.Limit(0)
		c := newCacheOf(t, d, room)
		if c.Dev() != d {
			t.Errorf("P14.2: with room %d Dev is not the device", room)
		}
		checkKept(t, "of a new cache", c)
		checkNoRead(t, "P14.1: an empty cache with the power off", c, 1, api.ErrOff)
		d.Limit(-1)
		checkRead(t, "P14.1: an empty cache", c, 1, "one")
		checkKept(t, fmt.Sprintf("after a Read with room %d", room), c, []int{1}[:min(room, 1)]...)
	}
}

func TestNewRefuses(t *testing.T) {
	for _, room := range []int{math.MinInt, -1 << 32, -1, 0, 1, math.MaxInt} {
		if c, err := cache.New(nil, room); c != nil || err != api.ErrNil {
			t.Errorf("P14.1: New(nil, %d) = %v, %d", room, c, err)
		}
	}
	for _, room := range []int{-1, -2, -16, -1 << 31, -1<<32 + 1, -1 << 63, math.MinInt + 1} {
		if c, err := cache.New(newDev(t, 1), room); c != nil || err != api.ErrArg {
			t.Errorf("P14.1: New with room %d = %v, %d", room, c, err)
		}
	}
}

// Only a Read of what is not stored, and a Write, are calls of the device.
func TestCallsOfTheDevice(t *testing.T) {
	c, d := newCache(t, 4, 2)
	checkCalls(t, "New", d, 0, func() { newCacheOf(t, d, 3) })
	checkCalls(t, "the first Read", d, 1, func() { c.Read(0) })
	checkCalls(t, "the next Read", d, 0, func() { c.Read(0); c.Read(0) })
	checkCalls(t, "a Write", d, 1, func() { c.Write(1, []byte("a")) })
	checkCalls(t, "a Read behind a Write", d, 0, func() { c.Read(1) })
	checkCalls(t, "a second Write", d, 1, func() { c.Write(1, []byte("a")) })
	checkCalls(t, "a Read that discards another", d, 1, func() { c.Read(2) })
	checkCalls(t, "a Read of what was discarded", d, 1, func() { c.Read(0) })
	checkCalls(t, "Drop", d, 0, func() { c.Drop(0, 1, 2, 3) })
	checkCalls(t, "a Read behind Drop", d, 1, func() { c.Read(0) })
	checkCalls(t, "Clear", d, 0, func() { c.Clear() })
	checkCalls(t, "a Read behind Clear", d, 1, func() { c.Read(0) })
	checkCalls(t, "Kept and Dev", d, 0, func() { c.Kept(); c.Dev() })
	checkCalls(t, "what the device refuses", d, 0, func() { c.Read(4); c.Read(-1); c.Write(4, nil); c.Write(0, make([]byte, 513)) })
	none := newCacheOf(t, d, 0)
	checkCalls(t, "each Read without room", d, 3, func() { none.Read(0); none.Read(0); none.Read(0) })
	checkCalls(t, "a Read behind a Write, without room", d, 2, func() { none.Write(0, nil); none.Read(0) })
}

// A Write reaches the device at once, and is pending there.
func TestWrite(t *testing.T) {
	c, d := newCache(t, 3, 2)
	for i, text := range []string{"one", "two", "", "two"} {
		checkErr(t, "P14.1: Write", c.Write(1, []byte(text)), api.OK)
		checkRead(t, "P14.1: behind a Write", c, 1, text)
		if b, _ := d.Read(1); !bytes.Equal(b, filled([]byte(text))) {
			t.Errorf("P14.1: after a Write of %q the device has %.20q", text, b)
		}
		if d.Waiting() != i+1 {
			t.Errorf("P14.1: after %d writes %d are pending", i+1, d.Waiting())
		}
	}
	d.Crash()
	c.Drop(1)
	checkRead(t, "P14.1: when the writes are lost", c, 1, "")
}

// All lengths that a sector takes, over bytes that were there before: what is behind b is zero, in the cache and in the device.
func TestPadding(t *testing.T) {
	full := bytes.Repeat([]byte{0xee}, 512)
	b := newBoth(t, 2, 1)
	for n := range 513 {
		b.write(1, full)
		b.write(1, bytes.Repeat([]byte{byte(n%255 + 1)}, n))
		b.read(1)
		b.clear()
		b.read(1)
	}
	b.write(1, full)
	b.write(1, nil)
	b.read(1)
}

// wrongSectors are those that a device with n sectors does not have; a cut to fewer bits would make some of them good.
func wrongSectors(n int) []int {
	return []int{-1, -2, -n, n, n + 1, 2 * n, 1<<16 + 1, 1 << 31, 1 << 32, 1<<32 + 1, -1 << 32, 1 << 55, math.MinInt, math.MaxInt}
}

// What the device refuses is neither stored nor a use of what is stored.
func TestRefusedCalls(t *testing.T) {
	const n = 5
	c, d := newCache(t, n, 3)
	for at, text := range []string{"zero", "one", "two"} {
		c.Write(at, []byte(text))
	}
	check := func(off bool) {
		t.Helper()
		for _, at := range wrongSectors(n) {
			checkNoRead(t, "P14.1: no such sector", c, at, api.ErrArg)
			checkErr(t, fmt.Sprintf("P14.1: Write(%d)", at), c.Write(at, []byte("a")), api.ErrArg)
		}
		for _, at := range []int{0, 1, 2, 3} {
			for _, size := range []int{513, 514, 1024, 1<<16 + 1} {
				checkErr(t, fmt.Sprintf("P14.1: Write(%d) of %d bytes", at, size), c.Write(at, make([]byte, size)), api.ErrArg)
			}
			if off {
				checkErr(t, fmt.Sprintf("P14.1: Write(%d) with the power off", at), c.Write(at, []byte("a")), api.ErrOff)
			}
		}
		if off {
			checkNoRead(t, "P14.1: not stored, with the power off", c, 3, api.ErrOff)
		}
		checkKept(t, "after calls that were refused", c, 2, 1, 0)
	}
	check(false)
	d.Limit(0)
	check(true)
	for at, text := range []string{"zero", "one", "two"} {
		checkRead(t, "P14.1: after calls that were refused", c, at, text)
	}
	d.Limit(-1)
	checkRead(t, "P14.1: after a Read that was refused", c, 3, "")
	checkKept(t, "after a Read that was refused before", c, 3, 2, 1)
}

// A Write that is refused leaves what is stored as it is, which is what the device has.
func TestRefusedWriteOfWhatIsNotStored(t *testing.T) {
	c, d := newCache(t, 2, 2)
	d.Write(1, []byte("old"))
	d.Limit(0)
	checkErr(t, "P14.1: Write with the power off", c.Write(1, []byte("new")), api.ErrOff)
	checkKept(t, "after a Write with the power off", c)
	d.Limit(-1)
	checkErr(t, "P14.1: Write of too much", c.Write(1, make([]byte, 513)), api.ErrArg)
	checkKept(t, "after a Write of too much", c)
	checkRead(t, "P14.1: after writes that were refused", c, 1, "old")
}

// sequences makes all sequences of that many numbers below n.
func sequences(n, length int, do func(seq []int)) {
	seq := make([]int, length)
	for {
		do(seq)
		i := 0
		for ; i < length; i++ {
			if seq[i]++; seq[i] < n {
				break
			}
			seq[i] = 0
		}
		if i == length {
			return
		}
	}
}

// With all rooms up to one more than there are sectors, all sequences of reads and writes.
func TestAllUses(t *testing.T) {
	const n = 3
	for room := range n + 2 {
		sequences(2*n, 5, func(seq []int) {
			b := newBoth(t, n, room)
			for i, x := range seq {
				if x < n {
					b.read(x)
				} else {
					b.write(x-n, []byte{byte(i + 1)})
				}
			}
		})
	}
}

// Reads of more sectors than there is room for.
func TestAllReads(t *testing.T) {
	const n = 5
	for room := range n + 1 {
		sequences(n, 5, func(seq []int) {
			b := newBoth(t, n, room)
			for _, at := range seq {
				b.read(at)
			}
		})
	}
}

// What is stored, whatever happens below; all of it, up to the room.
func TestStoredBytes(t *testing.T) {
	const n = 40
	for _, room := range []int{1, 2, 16, n, n + 1} {
		c, d := newCache(t, n, room)
		for at := range n {
			d.Write(at, fmt.Append(nil, "sector ", at))
		}
		for at := range n {
			checkRead(t, "P14.1: read from the device", c, at, fmt.Sprint("sector ", at))
		}
		for at := range n {
			d.Tamper(at, []byte("evil"))
		}
		for at := n - min(room, n); at < n; at++ {
			checkRead(t, "P14.1: stored", c, at, fmt.Sprint("sector ", at))
		}
		if room < n {
			checkRead(t, "P14.1: not stored", c, n-room-1, "evil")
		}
	}
}

// Whatever happens to the device, the stored bytes are returned until they are discarded.
func TestStoredBytesStay(t *testing.T) {
	for what, do := range map[string]func(d *dev.Dev){
		"Tamper":                func(d *dev.Dev) { d.Tamper(1, []byte("evil")) },
		"a write by others":     func(d *dev.Dev) { d.Write(1, []byte("other")) },
		"a crash":               func(d *dev.Dev) { d.Crash() },
		"a Flush":               func(d *dev.Dev) { d.Flush() },
		"a limit":               func(d *dev.Dev) { d.Limit(0) },
		"a crash behind others": func(d *dev.Dev) { d.Tamper(1, nil); d.Limit(0); d.Crash(0) },
	} {
		c, d := newCache(t, 2, 1)
		c.Write(1, []byte("stored"))
		do(d)
		checkRead(t, "P14.1: after "+what, c, 1, "stored")
		checkKept(t, "after "+what, c, 1)
		now := d.Image()[512:]
		d.Limit(-1)
		c.Drop(1)
		if b, err := c.Read(1); err != api.OK || !bytes.Equal(b, now) {
			t.Errorf("P14.2: after %s and Drop, Read = %.20q, %d, want %.20q", what, b, err, now)
		}
	}
}

// With the power off what is stored can be read, used and discarded.
func TestPowerOff(t *testing.T) {
	c, d := newCache(t, 6, 4)
	for at := range 4 {
		c.Write(at, fmt.Append(nil, "sector ", at))
	}
	d.Limit(0)
	for _, at := range []int{2, 0, 3, 1, 1, 0} {
		checkRead(t, "P14.3: with the power off", c, at, fmt.Sprint("sector ", at))
	}
	checkKept(t, "with the power off", c, 0, 1, 3, 2)
	c.Drop(1)
	checkKept(t, "behind Drop with the power off", c, 0, 3, 2)
	checkNoRead(t, "P14.1: what was discarded, with the power off", c, 1, api.ErrOff)
	c.Clear()
	checkKept(t, "behind Clear with the power off", c)
	checkNoRead(t, "P14.1: what was discarded, with the power off", c, 0, api.ErrOff)
	d.Limit(2)
	checkRead(t, "P14.1: the first of two calls", c, 0, "sector 0")
	checkRead(t, "P14.1: no call", c, 0, "sector 0")
	checkRead(t, "P14.1: the second of two calls", c, 1, "sector 1")
	checkNoRead(t, "P14.1: the third of two calls", c, 2, api.ErrOff)
	checkRead(t, "P14.1: no call", c, 1, "sector 1")
}

// Each set of the sectors is discarded, in both orders; the others stay as they are, in their order, and there is room again.
func TestDrop(t *testing.T) {
	const n = 5
	for set := range 1 << n {
		for _, turned := range []bool{false, true} {
			b := newBoth(t, 2*n, n)
			for _, at := range []int{3, 0, 4, 1, 2} {
				b.write(at, []byte{byte(at + 1)})
			}
			list := numbers(set, n)
			if turned {
				slices.Reverse(list)
			}
			b.drop(list...)
			for at := range 2 * n {
				b.read((at + 3) % (2 * n))
			}
		}
	}
}

// numbers are some of 0 to n - 1, by the bits of set.
func numbers(set, n int) []int {
	var out []int
	for i := range n {
		if set>>i&1 == 1 {
			out = append(out, i)
		}
	}
	return out
}

// What is not stored, and what is listed twice, does nothing.
func TestListsToDrop(t *testing.T) {
	absent := append(wrongSectors(6), 4, 5, 256, 257)
	for _, list := range [][]int{
		nil, {}, {0}, {1}, {2}, {3}, {0, 0, 0}, {2, 1, 2, 1}, absent, append(slices.Clone(absent), 1), append([]int{2, 0}, absent...), {0, 1, 2, 3, 0},
	} {
		b := newBoth(t, 6, 4)
		for at := range 4 {
			b.write(at, []byte{byte(at + 1)})
		}
		b.drop(list...)
		b.drop(list...)
		b.read(4)
		b.read(0)
		b.read(5)
		b.read(3)
	}
	b := newBoth(t, 2, 0)
	b.drop(0, 1)
	b.read(0)
	b.drop(0)
}

// A sector that was discarded is the most recent one when it is read again.
func TestReadBehindDrop(t *testing.T) {
	b := newBoth(t, 5, 3)
	for _, at := range []int{0, 1, 2} {
		b.read(at)
	}
	b.drop(0)
	b.read(0)
	b.read(3)
	b.read(1)
	checkKept(t, "0 was discarded and read again", b.c, 1, 3, 0)
}

func TestClear(t *testing.T) {
	for room := range 5 {
		b := newBoth(t, 6, room)
		b.clear()
		for round := range 3 {
			for at := range 4 {
				b.write(at, []byte{byte(round + at)})
			}
			b.clear()
			b.devices(func(d *dev.Dev) { d.Tamper(2, []byte("evil")) })
			for at := range 6 {
				b.read(5 - at)
			}
			b.clear()
			b.clear()
		}
		b.drop(0, 1, 2)
		b.read(1)
	}
}

// Kept is no use, and shows the same again.
func TestKept(t *testing.T) {
	c, _ := newCache(t, 9, 4)
	for _, at := range []int{7, 8, 3, 7, 0, 8, 8} {
		c.Read(at)
	}
	for range 3 {
		checkKept(t, "after seven reads", c, 8, 0, 7, 3)
	}
	c.Read(1)
	checkKept(t, "after one more", c, 1, 8, 0, 7)
}

// Dev is the device itself, all the time.
func TestDev(t *testing.T) {
	c, d := newCache(t, 2, 2)
	c.Write(0, []byte("a"))
	c.Dev().Flush()
	if d.Waiting() != 0 || c.Dev() != d {
		t.Errorf("P14.2: Dev is not the device")
	}
	d.Limit(0)
	c.Clear()
	if c.Dev() != d {
		t.Errorf("P14.2: with the power off Dev is not the device")
	}
}

// If nobody else writes, a Read is what the device would return; with the power off, it is that or ErrOff.
func TestReadsAreThoseOfTheDevice(t *testing.T) {
	const n = 12
	r := source()
	for room := range n + 2 {
		c, d := newCache(t, n, room)
		for range 2000 {
			at := r.IntN(n)
			switch r.IntN(8) {
			case 0, 1, 2:
				c.Write(at, randomBytes(r, r.IntN(513)))
			case 3:
				c.Drop(at, r.IntN(n))
			case 4:
				d.Limit(r.IntN(6) - 1)
			case 5:
				d.Limit(-1)
				d.Flush()
			case 6:
				d.Raise()
			}
			at = r.IntN(n)
			want := d.Image()[512*at : 512*at+512]
			isKept := slices.Contains(c.Kept(), at)
			got, err := c.Read(at)
			if err == api.ErrOff && !isKept && len(got) == 0 {
				d.Limit(-1)
				continue
			}
			if err != api.OK || !bytes.Equal(got, want) {
				t.Fatalf("P14.3: with room %d, Read(%d) = %.20q, %d, want %.20q", room, at, got, err, want)
			}
		}
	}
}

// randomCall makes one of all calls, some with wrong arguments, or has others do something with the device.
func randomCall(r *rand.Rand, b both) {
	n := b.d.Size()
	at := r.IntN(n+2) - 1
	text := randomBytes(r, []int{0, 1, 5, 511, 512, 513}[r.IntN(6)])
	switch r.IntN(20) {
	case 0, 1, 2, 3, 4, 5, 6, 7:
		b.read(at)
	case 8, 9, 10, 11, 12:
		b.write(at, text)
	case 13, 14:
		b.drop(at, r.IntN(n+2)-1)
	case 15:
		b.drop()
		b.drop(numbers(r.IntN(1<<n), n)...)
	case 16:
		b.devices(func(d *dev.Dev) { d.Tamper(at, text) })
	case 17:
		limit := r.IntN(20) - 3
		b.devices(func(d *dev.Dev) { d.Limit(limit) })
	case 18:
		keep := numbers(r.IntN(1<<12), 12)
		b.devices(func(d *dev.Dev) { d.Crash(keep...) })
	default:
		if r.IntN(4) == 0 {
			b.clear()
		}
		b.devices(func(d *dev.Dev) { d.Flush() })
	}
}

func TestCallsInTurns(t *testing.T) {
	r := source()
	for range 300 {
		n := 1 + r.IntN(8)
		b := newBoth(t, n, r.IntN(n+2))
		for range 150 {
			randomCall(r, b)
		}
	}
}

// All sectors of the largest device are stored, used in other orders, and discarded; none of this may go through all of them.
func TestManySectors(t *testing.T) {
	const n = 65536
	for _, room := range []int{n, n - 1, n / 2} {
		c, _ := newCache(t, n, room)
		for i := range 3 * n {
			at := i * 40503 % n
			if i < n {
				c.Write(at, []byte{byte(at), byte(at >> 8), 1})
			} else if got, err := c.Read(at); err != api.OK || got[0] != byte(at) || got[1] != byte(at>>8) || got[2] != 1 {
				t.Fatalf("P14.1: with room %d, Read(%d) = %.8q, %d", room, at, got, err)
			}
		}
		kept := c.Kept()
		if len(kept) != room {
			t.Fatalf("P14.1: with room %d %d sectors are stored", room, len(kept))
		}
		for i, at := range kept {
			if want := (n - 1 - i) * 40503 % n; at != want {
				t.Fatalf("P14.2: with room %d sector %d is kept at place %d, want %d", room, at, i, want)
			}
		}
		c.Drop(kept[:room-1]...)
		checkKept(t, "all but one were discarded", c, kept[room-1])
	}
}

// margin is more than a sector.
const margin = 600

// argument is a piece of a larger slice, so that a write before it or into its spare capacity is seen.
type argument struct{ whole, before []byte }

func newArgument(b []byte) argument {
	whole := slices.Concat(bytes.Repeat([]byte{0xa5}, margin), b, bytes.Repeat([]byte{0x5a}, margin))
	return argument{whole, bytes.Clone(whole)}
}

func (a argument) bytes() []byte { return a.whole[margin : len(a.whole)-margin] }

func (a argument) unchanged() bool { return bytes.Equal(a.whole, a.before) }

// spoil changes all of a slice, and what its capacity has behind it.
func spoil(b []byte) {
	b = b[:cap(b)]
	for i := range b {
		b[i] ^= 0xff
	}
}

func TestArgumentsStay(t *testing.T) {
	for _, n := range []int{0, 1, 3, 511, 512, 513} {
		a := newArgument(randomBytes(source(), n))
		c, _ := newCache(t, 3, 1)
		for at := range 4 {
			c.Write(at, a.bytes())
			c.Write(at, a.bytes())
			c.Read(at)
		}
		if !a.unchanged() {
			t.Errorf("P14.3: an argument of %d bytes is changed", n)
		}
	}
}

// A list of sectors stays as it is, with what is behind it.
func TestListsStay(t *testing.T) {
	whole := []int{2, 0, 2, -5, 1, 77, 0, 1, 3}
	before := slices.Clone(whole)
	c, _ := newCache(t, 4, 4)
	for range 3 {
		for at := range 4 {
			c.Read(at)
		}
		c.Drop(whole[:6]...)
		checkKept(t, "after Drop", c, 3)
	}
	if !slices.Equal(whole, before) {
		t.Errorf("P14.3: a list of sectors is changed to %v", whole)
	}
}

// An argument is changed as soon as it was used; the cache and the device have what it was before.
func TestArgumentsAreNotKept(t *testing.T) {
	for _, n := range []int{1, 3, 511, 512} {
		text := bytes.Repeat([]byte{7}, n)
		c, _ := newCache(t, 2, 2)
		for range 2 {
			a := newArgument(text)
			c.Write(0, a.bytes())
			spoil(a.whole)
			checkRead(t, "P14.3: after an argument was changed", c, 0, string(text))
		}
		c.Drop(0)
		checkRead(t, "P14.3: after an argument was changed, from the device", c, 0, string(text))
	}
	list := []int{1, 0}
	c, _ := newCache(t, 3, 3)
	c.Drop(list...)
	c.Read(2)
	c.Read(1)
	list[0], list[1] = 7, 7
	checkKept(t, "after a list was changed", c, 1, 2)
}

// A change of a result reaches neither the cache, nor the device, nor another result.
func TestResultsAreNewMemory(t *testing.T) {
	for _, room := range []int{0, 1, 2} {
		for _, written := range []bool{false, true} {
			c, d := newCache(t, 2, room)
			if written {
				c.Write(1, []byte("text"))
			} else {
				d.Write(1, []byte("text"))
			}
			var results [][]byte
			for range 4 {
				b, _ := c.Read(1)
				results = append(results, b)
			}
			for i := range results {
				spoil(results[i])
				for _, b := range results[i+1:] {
					if !bytes.Equal(b, filled([]byte("text"))) {
						t.Errorf("P14.3: two results of Read share memory")
					}
				}
				checkRead(t, "P14.3: after a result was changed", c, 1, "text")
			}
			c.Drop(1)
			checkRead(t, "P14.3: after results were changed, from the device", c, 1, "text")
		}
	}
}

func TestListsOfWhatIsKeptAreNewMemory(t *testing.T) {
	c, _ := newCache(t, 5, 5)
	for at := range 5 {
		c.Read(at)
	}
	first, second := c.Kept(), c.Kept()
	for i := range first {
		first[i] = -1
	}
	if !slices.Equal(second, []int{4, 3, 2, 1, 0}) {
		t.Errorf("P14.3: two results of Kept share memory")
	}
	checkKept(t, "after a result was changed", c, 4, 3, 2, 1, 0)
	c.Read(0)
	c.Drop(3)
	if !slices.Equal(second, []int{4, 3, 2, 1, 0}) {
		t.Errorf("P14.3: a result of Kept changes later")
	}
}

// What Read returned stays, whatever happens to the sector.
func TestResultsStay(t *testing.T) {
	c, d := newCache(t, 3, 1)
	c.Write(0, []byte("first"))
	for _, do := range []func(){
		func() { c.Write(0, []byte("second")) },
		func() { c.Drop(0) },
		func() { d.Tamper(0, []byte("evil")) },
		func() { c.Read(1) },
		func() { c.Write(2, []byte("other")) },
		func() { c.Clear() },
	} {
		b, _ := c.Read(0)
		before := bytes.Clone(b)
		do()
		if !bytes.Equal(b, before) {
			t.Errorf("P14.3: a result of Read changes later")
		}
	}
}

// Two caches of one device have their own stores; those of two devices have nothing in common.
func TestCachesAreApart(t *testing.T) {
	d, other := newDev(t, 3), newDev(t, 3)
	one, two, far := newCacheOf(t, d, 2), newCacheOf(t, d, 2), newCacheOf(t, other, 2)
	one.Write(0, []byte("a"))
	checkKept(t, "a second cache", two)
	checkRead(t, "P14.1: a second cache", two, 0, "a")
	checkRead(t, "P14.1: a cache of another device", far, 0, "")
	two.Write(0, []byte("b"))
	checkRead(t, "P14.1: the first cache", one, 0, "a")
	one.Clear()
	checkKept(t, "a second cache", two, 0)
	checkKept(t, "a cache of another device", far, 0)
	checkRead(t, "P14.1: the first cache when it was cleared", one, 0, "b")
	one.Read(1)
	one.Read(2)
	checkKept(t, "the first cache", one, 2, 1)
	checkKept(t, "a second cache", two, 0)
	if one.Dev() != d || two.Dev() != d || far.Dev() != other {
		t.Errorf("P14.2: Dev is not the device")
	}
}

// source has a fixed seed: each run of the tests tries the same inputs.
func source() *rand.Rand { return rand.New(rand.NewPCG(1, 2)) }

func randomBytes(r *rand.Rand, n int) []byte {
	out := make([]byte, n)
	for i := range out {
		out[i] = byte(r.Uint32())
	}
	return out
}
