package space_test

import (
	"fmt"
	"math"
	"math/rand/v2"
	"slices"
	"testing"

	"turnkey/api"
	"turnkey/space"
)

// What a sector is in the model.
const (
	isFree     = "free"
	isUsed     = "used"
	isReleased = "released"
)

// model is a space by the words of the chapter: a word for each sector.
type model struct {
	first int
	words []string
}

func newModel(first, end int) *model {
	return &model{first, slices.Repeat([]string{isFree}, end-first)}
}

// word is what a sector is, "" if the space does not have it.
func (m *model) word(at int) string {
	if at < m.first || at >= m.first+len(m.words) {
		return ""
	}
	return m.words[at-m.first]
}

// all are the sectors that have a word, in order.
func (m *model) all(word string) []int {
	var out []int
	for i, w := range m.words {
		if w == word {
			out = append(out, m.first+i)
		}
	}
	return out
}

// set gives these sectors a word.
func (m *model) set(word string, at []int) {
	for _, x := range at {
		m.words[x-m.first] = word
	}
}

// change gives sectors that have the one word the other one, unless one has another word or is repeated.
func (m *model) change(from, to string, at []int) api.Errno {
	for i, x := range at {
		if m.word(x) != from || slices.Contains(at[:i], x) {
			return api.ErrArg
		}
	}
	m.set(to, at)
	return api.OK
}

func (m *model) take() (int, api.Errno) {
	f := m.all(isFree)
	if len(f) == 0 {
		return 0, api.ErrFull
	}
	m.set(isUsed, f[:1])
	return f[0], api.OK
}

func (m *model) settle() { m.set(isFree, m.all(isReleased)) }

func (m *model) undo(taken []int) {
	var back []int
	for _, x := range taken {
		if m.word(x) == isUsed {
			back = append(back, x)
		}
	}
	again := m.all(isReleased)
	m.set(isFree, back)
	m.set(isUsed, again)
}

// both are a space and its model, which get the same calls.
type both struct {
	t *testing.T
	s *space.Space
	m *model
}

func newBoth(t *testing.T, first, end int) both {
	t.Helper()
	return both{t, newSpace(t, first, end), newModel(first, end)}
}

// state holds what is used, and how many are free, against the model.
func (b both) state(after string) {
	b.t.Helper()
	if got, want := b.s.Used(), b.m.all(isUsed); !slices.Equal(got, want) {
		b.t.Fatalf("P15.3: after %s Used is %v, want %v", after, got, want)
	}
	if got, want := b.s.Free(), len(b.m.all(isFree)); got != want {
		b.t.Fatalf("P15.3: after %s %d are free, want %d", after, got, want)
	}
	for at := b.m.first - 2; at < b.m.first+len(b.m.words)+2; at++ {
		if got, want := b.s.Is(at), b.m.word(at) == isUsed; got != want {
			b.t.Fatalf("P15.3: after %s Is(%d) is %t, want %t", after, at, got, want)
		}
	}
}

// probe finds out of each sector which of the three it is, by calls that leave it as it is.
func (b both) probe(after string) {
	b.t.Helper()
	for i, word := range b.m.words {
		at := b.m.first + i
		var errs []api.Errno
		var want []api.Errno
		switch word {
		case isFree:
			errs = append(errs, b.s.Give(at), b.s.Back(at), b.s.Use(at), b.s.Back(at))
			want = append(want, api.ErrArg, api.ErrArg, api.OK, api.OK)
		case isUsed:
			errs = append(errs, b.s.Use(at), b.s.Back(at), b.s.Use(at))
			want = append(want, api.ErrArg, api.OK, api.OK)
		default:
			errs = append(errs, b.s.Use(at), b.s.Give(at), b.s.Back(at))
			want = append(want, api.ErrArg, api.ErrArg, api.ErrArg)
		}
		if !slices.Equal(errs, want) {
			b.t.Fatalf("P15.4: after %s sector %d is not %s: %v, want %v", after, at, word, errs, want)
		}
	}
	b.state(after + " and probes")
}

func (b both) take() {
	b.t.Helper()
	got, err := b.s.Take()
	want, wantErr := b.m.take()
	if got != want || err != wantErr {
		b.t.Fatalf("P15.1: Take = %d, %d, want %d, %d", got, err, want, wantErr)
	}
	b.state("Take")
}

// listed checks a call that takes a list and may refuse it.
func (b both) listed(call string, got, want api.Errno, at []int) {
	b.t.Helper()
	if got != want {
		b.t.Fatalf("%s(%v) = %d, want %d", call, at, got, want)
	}
	b.state(fmt.Sprintf("%s(%v)", call, at))
}

func (b both) use(at ...int) {
	b.t.Helper()
	b.listed("P15.1: Use", b.s.Use(at...), b.m.change(isFree, isUsed, at), at)
}

func (b both) give(at ...int) {
	b.t.Helper()
	b.listed("P15.2: Give", b.s.Give(at...), b.m.change(isUsed, isReleased, at), at)
}

func (b both) back(at ...int) {
	b.t.Helper()
	b.listed("P15.2: Back", b.s.Back(at...), b.m.change(isUsed, isFree, at), at)
}

func (b both) settle() {
	b.t.Helper()
	b.s.Settle()
	b.m.settle()
	b.state("Settle")
}

func (b both) undo(taken ...int) {
	b.t.Helper()
	b.s.Undo(taken...)
	b.m.undo(taken)
	b.state(fmt.Sprintf("Undo(%v)", taken))
}

func newSpace(t *testing.T, first, end int) *space.Space {
	t.Helper()
	s, err := space.New(first, end)
	if s == nil || err != api.OK {
		t.Fatalf("P15.1: New(%d, %d) = %v, %d", first, end, s, err)
	}
	return s
}

func checkErr(t *testing.T, what string, got, want api.Errno) {
	t.Helper()
	if got != want {
		t.Errorf("%s = %d, want %d", what, got, want)
	}
}

func checkTake(t *testing.T, what string, s *space.Space, want int) {
	t.Helper()
	if got, err := s.Take(); got != want || err != api.OK {
		t.Errorf("%s: Take = %d, %d, want %d, OK", what, got, err, want)
	}
}

func checkFull(t *testing.T, what string, s *space.Space) {
	t.Helper()
	if got, err := s.Take(); got != 0 || err != api.ErrFull {
		t.Errorf("%s: Take = %d, %d, want 0, ErrFull", what, got, err)
	}
}

func checkUsed(t *testing.T, what string, s *space.Space, free int, want ...int) {
	t.Helper()
	if got := s.Used(); !slices.Equal(got, want) {
		t.Errorf("%s: Used is %v, want %v", what, got, want)
	}
	if got := s.Free(); got != free {
		t.Errorf("%s: %d are free, want %d", what, got, free)
	}
}

func TestExample(t *testing.T) {
	s := newSpace(t, 2, 5)
	checkTake(t, "P15.1: the first", s, 2)
	checkTake(t, "P15.1: the second", s, 3)
	checkErr(t, "P15.2: Give(2)", s.Give(2), api.OK)
	checkTake(t, "P15.4: after Give(2)", s, 4)
	checkFull(t, "P15.1: when none is free", s)
	s.Settle()
	checkTake(t, "P15.2: after Settle", s, 2)
}

func TestNew(t *testing.T) {
	for _, c := range [][2]int{{0, 1}, {0, 2}, {1, 2}, {2, 5}, {2, 65536}, {0, 65535}, {0, 65536}, {255, 257}, {32767, 32769}, {65534, 65535}, {65535, 65536}} {
		first, end := c[0], c[1]
		s := newSpace(t, first, end)
		checkUsed(t, "P15.1: a new space", s, end-first)
		for at := first - 1; at <= end; at++ {
			if s.Is(at) {
				t.Errorf("P15.1: in New(%d, %d) sector %d is used", first, end, at)
			}
		}
		checkErr(t, "P15.1: Use of the sector before it", s.Use(first-1), api.ErrArg)
		checkErr(t, "P15.1: Use of the sector behind it", s.Use(end), api.ErrArg)
		checkTake(t, "P15.1: from a new space", s, first)
		if last := end - 1; last != first {
			checkErr(t, "P15.1: Use of the last sector", s.Use(last), api.OK)
			checkUsed(t, "P15.3: the first and the last", s, end-first-2, first, last)
		}
	}
}

func TestNewRefuses(t *testing.T) {
	for _, c := range [][2]int{
		{-1, 5}, {-1, 0}, {-1, -1}, {-2, -1}, {-5, 65536}, {0, 0}, {1, 1}, {3, 3}, {3, 2}, {1, 0}, {5, -5}, {0, -1},
		{0, 65537}, {2, 65537}, {65535, 65537}, {65536, 65536}, {65536, 65537}, {65537, 65537}, {65536, 3}, {-1, 65537},
		{0, 1<<16 + 5}, {0, 1 << 32}, {0, 1<<32 + 5}, {1 << 32, 1<<32 + 5}, {1 << 32, 5}, {-1 << 32, 5}, {-1<<32 + 1, 5},
		{-1 << 16, 5}, {0, math.MaxInt}, {0, math.MinInt}, {math.MinInt, 0}, {math.MinInt, 5}, {math.MinInt, math.MaxInt},
		{math.MaxInt, math.MinInt}, {math.MaxInt, math.MaxInt}, {math.MinInt, math.MinInt}, {math.MaxInt, 5}, {5, math.MinInt},
	} {
		if s, err := space.New(c[0], c[1]); s != nil || err != api.ErrArg {
			t.Errorf("P15.1: New(%d, %d) = %v, %d", c[0], c[1], s, err)
		}
	}
}

// wrongSectors are those that a space does not have; a cut to fewer bits, or a wrap-round, would make some of them good.
func wrongSectors(first, end int) []int {
	in := first + (end-first)/2
	return []int{
		first - 1, first - 2, end, end + 1, -1, -in, in - 1<<16, in + 1<<16, in + 1<<31, in - 1<<31, in + 1<<32, in - 1<<32,
		in - 1<<62, in + 1<<62, math.MinInt, math.MinInt + in, math.MinInt + first, math.MaxInt, math.MaxInt - in,
	}
}

// The wrong sector stands alone, before good ones, between them and behind them.
func TestWrongSectors(t *testing.T) {
	for _, c := range [][2]int{{2, 10}, {0, 9}, {300, 320}, {65520, 65536}} {
		first, end := c[0], c[1]
		b := newBoth(t, first, end)
		b.use(first, first+1, first+2, first+3)
		b.give(first + 1)
		wrong := wrongSectors(first, end)
		for _, x := range wrong {
			for _, u := range [][]int{{x}, {x, first + 2}, {first + 2, x}, {first + 2, x, first + 3}, {first + 2, first + 3, x}} {
				b.give(u...)
				b.back(u...)
			}
			for _, f := range [][]int{{x}, {x, first + 4}, {first + 4, x}, {first + 4, x, first + 5}, {end - 1, first + 5, x}} {
				b.use(f...)
			}
			b.probe(fmt.Sprintf("calls with the wrong sector %d", x))
			if b.s.Is(x) {
				t.Errorf("P15.3: sector %d of New(%d, %d) is used", x, first, end)
			}
		}
		b.undo(wrong...)
		b.probe("Undo of wrong sectors")
	}
}

// lists are all of that many numbers or fewer, each from low up to but not including high.
func lists(low, high, length int, do func(list []int)) {
	do(nil)
	if length == 0 {
		return
	}
	for last := low; last < high; last++ {
		lists(low, high, length-1, func(list []int) {
			if len(list) == length-1 {
				do(append(slices.Clone(list), last))
			}
		})
	}
	if length > 1 {
		lists(low, high, length-1, func(list []int) {
			if len(list) > 0 {
				do(list)
			}
		})
	}
}

// inState makes a space whose sectors have these words, one after the other.
func inState(t *testing.T, first int, words []string) both {
	t.Helper()
	b := newBoth(t, first, first+len(words))
	for i, w := range words {
		if w != isFree {
			b.use(first + i)
		}
		if w == isReleased {
			b.give(first + i)
		}
	}
	return b
}

// wordings are all states of that many sectors.
func wordings(n int, do func(words []string)) {
	all := []string{isFree, isUsed, isReleased}
	lists(0, 3, n, func(list []int) {
		if len(list) != n {
			return
		}
		var words []string
		for _, i := range list {
			words = append(words, all[i])
		}
		do(words)
	})
}

func TestLists(t *testing.T) {
	seen := map[string]int{}
	lists(1, 4, 3, func(list []int) { seen[fmt.Sprint(list)]++ })
	if len(seen) != 1+3+9+27 {
		t.Errorf("%d lists, want 40", len(seen))
	}
}

// In every state of few sectors, every call with every short list, wrong and repeated sectors among them.
func TestAllCallsInAllStates(t *testing.T) {
	for n := 1; n <= 3; n++ {
		const first = 2
		wordings(n, func(words []string) {
			b := inState(t, first, words)
			b.probe("the calls that lead here")
			b = inState(t, first, words)
			b.take()
			b.take()
			b.probe("Take")
			b = inState(t, first, words)
			b.settle()
			b.probe("Settle")
			b.settle()
			lists(first-1, first+n+1, 3, func(list []int) {
				for _, call := range []func(both){
					func(b both) { b.use(list...) },
					func(b both) { b.give(list...) },
					func(b both) { b.back(list...) },
					func(b both) { b.undo(list...) },
				} {
					b := inState(t, first, words)
					call(b)
					b.probe(fmt.Sprintf("a call with %v of %v", list, words))
				}
			})
		})
	}
}

// All sequences of calls about two sectors.
func TestAllSequences(t *testing.T) {
	calls := []func(both){
		func(b both) { b.take() }, func(b both) { b.settle() }, func(b both) { b.undo() },
		func(b both) { b.use(7) }, func(b both) { b.give(7) }, func(b both) { b.back(7) }, func(b both) { b.undo(7) },
		func(b both) { b.use(8) }, func(b both) { b.give(8) }, func(b both) { b.back(8) }, func(b both) { b.undo(8) },
	}
	lists(0, len(calls), 4, func(list []int) {
		b := newBoth(t, 7, 9)
		for _, i := range list {
			calls[i](b)
		}
	})
}

// Without sectors nothing changes.
func TestEmptyLists(t *testing.T) {
	s := newSpace(t, 2, 6)
	s.Use(2, 3)
	s.Give(2)
	checkErr(t, "P15.1: Use of none", s.Use(), api.OK)
	checkErr(t, "P15.2: Give of none", s.Give(), api.OK)
	checkErr(t, "P15.2: Back of none", s.Back(), api.OK)
	checkErr(t, "P15.1: Use of an empty list", s.Use([]int{}...), api.OK)
	checkUsed(t, "P15.4: after calls without sectors", s, 2, 3)
	s.Undo()
	checkUsed(t, "P15.2: after Undo of none", s, 2, 2, 3)
	s.Undo([]int{}...)
	s.Settle()
	checkUsed(t, "P15.2: after Settle of none", s, 2, 2, 3)
}

// The least free sector, wherever others became free.
func TestTakeTheLeast(t *testing.T) {
	const first, end = 3, 40
	s := newSpace(t, first, end)
	for at := first; at < end; at++ {
		checkTake(t, "P15.1: in order", s, at)
	}
	checkFull(t, "P15.1: when all are used", s)
	checkFull(t, "P15.1: when all are used", s)
	for _, at := range []int{end - 1, first, 20} {
		s.Back(at)
		checkTake(t, "P15.1: the only one", s, at)
		checkFull(t, "P15.1: when the only one is taken", s)
	}
	s.Back(30, 12, 39, 3, 4)
	for _, at := range []int{3, 4, 12, 30, 39} {
		checkTake(t, "P15.1: of those that were given back", s, at)
	}
	s.Back(25, 35)
	checkTake(t, "P15.1: the lesser of two", s, 25)
	s.Back(10)
	checkTake(t, "P15.1: one that became free behind it", s, 10)
	checkTake(t, "P15.1: the rest", s, 35)
	checkFull(t, "P15.1: at the end", s)
}

// When all sectors that are not used are released, none can be taken, and Use refuses them.
func TestReleasedSectorsAreNotTaken(t *testing.T) {
	s := newSpace(t, 2, 8)
	s.Use(2, 3, 4, 5, 6, 7)
	checkErr(t, "P15.2: Give", s.Give(5, 2, 7), api.OK)
	checkFull(t, "P15.4: when some are released", s)
	checkUsed(t, "P15.3: when some are released", s, 0, 3, 4, 6)
	for _, at := range []int{2, 5, 7} {
		checkErr(t, "P15.4: Use of a released sector", s.Use(at), api.ErrArg)
		checkErr(t, "P15.2: Give of a released sector", s.Give(at), api.ErrArg)
		checkErr(t, "P15.2: Back of a released sector", s.Back(at), api.ErrArg)
	}
	s.Give(3, 4, 6)
	checkFull(t, "P15.4: when all are released", s)
	checkUsed(t, "P15.3: when all are released", s, 0)
	s.Settle()
	checkUsed(t, "P15.2: after Settle", s, 6)
	checkErr(t, "P15.1: Use after Settle", s.Use(7, 2, 5, 3, 4, 6), api.OK)
	checkFull(t, "P15.1: when all are used again", s)
}

// What Undo and Settle have dealt with, the next ones leave alone.
func TestUndoAndSettleInTurns(t *testing.T) {
	b := newBoth(t, 2, 9)
	b.use(2, 3, 4, 5)
	b.give(2, 3)
	b.settle()
	b.undo()
	b.probe("Settle and Undo")
	checkUsed(t, "P15.2: Undo after Settle", b.s, 5, 4, 5)
	b.give(4)
	b.take()
	b.undo(2)
	b.settle()
	b.probe("Undo and Settle")
	checkUsed(t, "P15.2: Settle after Undo", b.s, 5, 4, 5)
	b.give(4, 5)
	b.take()
	b.give(2)
	b.undo(2)
	checkUsed(t, "P15.2: Undo of a taken sector that is released", b.s, 4, 2, 4, 5)
	b.undo(4, 4, 3, 100, -1, 8)
	checkUsed(t, "P15.2: Undo of a used, a free and wrong sectors", b.s, 5, 2, 5)
	b.probe("all of it")
}

// A long list of which one sector is wrong, at any place, changes nothing.
func TestLongLists(t *testing.T) {
	const first, end = 2, 302
	var all []int
	for i := range end - first {
		all = append(all, first+i*77%(end-first))
	}
	b := newBoth(t, first, end)
	for _, at := range []int{0, 1, 150, 298, 299} {
		for _, x := range []int{all[(at+1)%300], all[(at+299)%300], end, -1} {
			list := slices.Clone(all)
			list[at] = x
			b.use(list...)
			b.use(all...)
			b.give(list...)
			b.back(list...)
			b.back(all...)
		}
		b.use(append(slices.Clone(all), all[at])...)
	}
	b.use(all...)
	b.give(append(slices.Clone(all), all[299])...)
	b.give(all...)
	b.settle()
	b.use(all...)
	b.give(all[:100]...)
	b.undo(all[100:]...)
	b.probe("long lists")
}

// randomList has good, wrong and repeated sectors, mostly few.
func randomList(r *rand.Rand, b both) []int {
	n := len(b.m.words)
	var out []int
	switch r.IntN(4) {
	case 0:
		out = slices.Concat(b.m.all(isFree), b.m.all(isUsed))
	case 1:
		out = b.m.all(isUsed)
	case 2:
		out = b.m.all(isFree)
	default:
		out = append(out, b.m.first+r.IntN(n+4)-2, b.m.first+r.IntN(n), b.m.first+r.IntN(n))
	}
	r.Shuffle(len(out), func(i, j int) { out[i], out[j] = out[j], out[i] })
	return out[:r.IntN(len(out)+1)]
}

func randomCall(r *rand.Rand, b both) {
	switch r.IntN(12) {
	case 0, 1, 2, 3:
		b.take()
	case 4, 5:
		b.use(randomList(r, b)...)
	case 6, 7:
		b.give(randomList(r, b)...)
	case 8, 9:
		b.back(randomList(r, b)...)
	case 10:
		b.settle()
	default:
		b.undo(randomList(r, b)...)
	}
}

func TestCallsInTurns(t *testing.T) {
	r := source()
	for range 400 {
		first := []int{0, 1, 2, 255, 65536 - 70}[r.IntN(5)]
		b := newBoth(t, first, first+1+r.IntN(70))
		for range 100 {
			randomCall(r, b)
		}
		b.probe("calls in turns")
	}
}

// The largest space, with calls of which none may take long.
func TestManySectors(t *testing.T) {
	const first, end = 0, 65536
	s := newSpace(t, first, end)
	var all []int
	for at := range end {
		checkTake(t, "P15.1: of many", s, at)
		all = append(all, at*40503%end)
	}
	checkFull(t, "P15.1: when many are used", s)
	checkErr(t, "P15.2: Give of many", s.Give(all...), api.OK)
	checkUsed(t, "P15.3: when many are released", s, 0)
	s.Undo(all...)
	if got := s.Used(); len(got) != end || !slices.IsSorted(got) {
		t.Errorf("P15.2: after Undo of many %d are used", len(got))
	}
	checkErr(t, "P15.2: Back of many, one of them twice", s.Back(append(all, 5)...), api.ErrArg)
	checkErr(t, "P15.2: Back of many", s.Back(all...), api.OK)
	checkUsed(t, "P15.2: after Back of many", s, end)
	checkErr(t, "P15.1: Use of many, one of them twice", s.Use(append(all, 5)...), api.ErrArg)
	checkErr(t, "P15.1: Use of many", s.Use(all...), api.OK)
	for range 20000 {
		s.Back(0, end-1)
		checkTake(t, "P15.1: the first of many", s, 0)
		checkTake(t, "P15.1: the last of many", s, end-1)
		s.Give(end - 1)
		s.Undo()
		if s.Free() != 0 {
			t.Fatalf("P15.3: %d are free, want none", s.Free())
		}
	}
	s.Give(all...)
	s.Settle()
	checkUsed(t, "P15.2: after Settle of many", s, end)
}

// A list stays as it is, with what is before and behind it, also if it is refused.
func TestListsStay(t *testing.T) {
	whole := []int{50, 51, 4, 2, 3, 7, 3, 5, 6, -1}
	before := slices.Clone(whole)
	for _, part := range [][]int{whole[2:6], whole[2:7], whole[2:10], whole[2:2], whole[7:10]} {
		s := newSpace(t, 2, 9)
		s.Use(part...)
		s.Use(2, 3, 4, 5, 6, 7)
		s.Give(part...)
		s.Undo(part...)
		s.Back(part...)
		s.Settle()
		if !slices.Equal(whole, before) {
			t.Fatalf("P15.4: a list of sectors is changed to %v", whole)
		}
	}
}

// A list is changed as soon as it was used.
func TestListsAreNotKept(t *testing.T) {
	s := newSpace(t, 2, 9)
	call := func(f func(at ...int) api.Errno, at ...int) {
		t.Helper()
		checkErr(t, "P15.1: a call", f(at...), api.OK)
		for i := range at {
			at[i] = 8
		}
	}
	call(s.Use, 4, 2, 3, 5)
	checkUsed(t, "P15.4: after the list of Use was changed", s, 3, 2, 3, 4, 5)
	call(s.Give, 4, 2)
	call(s.Back, 3)
	checkUsed(t, "P15.4: after the list of Back was changed", s, 4, 5)
	taken := []int{5, 8}
	s.Undo(taken...)
	taken[0] = 2
	checkUsed(t, "P15.4: after the list of Undo was changed", s, 5, 2, 4)
	call(s.Give, 4)
	s.Settle()
	checkUsed(t, "P15.4: after the list of Give was changed", s, 6, 2)
}

func TestResultsAreNewMemory(t *testing.T) {
	s := newSpace(t, 2, 9)
	s.Use(8, 3, 4)
	one, two := s.Used(), s.Used()
	one = one[:cap(one)]
	for i := range one {
		one[i] = 5
	}
	if !slices.Equal(two, []int{3, 4, 8}) {
		t.Errorf("P15.4: two results of Used share memory")
	}
	checkUsed(t, "P15.4: after a result was changed", s, 4, 3, 4, 8)
	s.Give(3)
	s.Take()
	if !slices.Equal(two, []int{3, 4, 8}) {
		t.Errorf("P15.4: a result of Used changes later")
	}
}

// A call on one space changes no other one.
func TestSpacesAreApart(t *testing.T) {
	one, two, far := newSpace(t, 2, 6), newSpace(t, 2, 6), newSpace(t, 4, 8)
	one.Use(4, 5)
	one.Give(4)
	checkUsed(t, "P15.4: a second space", two, 4)
	checkUsed(t, "P15.4: a space that overlaps", far, 4)
	checkTake(t, "P15.4: from a second space", two, 2)
	checkTake(t, "P15.4: from a space that overlaps", far, 4)
	two.Settle()
	far.Undo(4)
	one.Undo()
	checkUsed(t, "P15.4: the first space", one, 2, 4, 5)
	checkUsed(t, "P15.4: a second space, later", two, 3, 2)
	checkUsed(t, "P15.4: a space that overlaps, later", far, 4)
}

// source has a fixed seed: each run of the tests tries the same inputs.
func source() *rand.Rand { return rand.New(rand.NewPCG(1, 2)) }
