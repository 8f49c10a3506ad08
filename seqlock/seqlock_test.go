package seqlock_test

import (
	"math"
	"slices"
	"testing"

	"purlin/api"
	"purlin/mem"
	"purlin/seqlock"
	"purlin/steps"
)

const top = math.MaxUint32 // the greatest word: 0 follows

// evens and odds are numbers that a counter is at first: between versions, and while one is being written.
var (
	evens = []uint32{0, 2, 10, 1<<31 - 2, 1 << 31, top - 3, top - 1}
	odds  = []uint32{1, 3, 11, 1<<31 - 1, 1<<31 + 1, top - 2, top}
)

// missing is numbers of no word, in a memory of n words: below and above.
func missing(n int) []int {
	return []int{
		-1, -2, -n, -n - 1, -65536, math.MinInt32, -1 << 32, math.MinInt + 1, math.MinInt,
		n, n + 1, 2*n + 1, 65536 + n, 1 << 31, 1 << 32, 1<<32 + n, math.MaxInt32, math.MaxInt - 1, math.MaxInt,
	}
}

// memory is a memory of some words, and how often it has been used so far.
func memory(t *testing.T, words ...uint32) (*mem.Memory, int) {
	t.Helper()
	m, e := mem.New(len(words))
	if e != api.OK {
		t.Fatalf("New(%d) = %d", len(words), e)
	}
	for at, v := range words {
		m.Store(at, v)
	}
	return m, m.Count()
}

// has checks all words of a memory, and how often it was used.
func has(t *testing.T, m *mem.Memory, uses int, want ...uint32) {
	t.Helper()
	if got := m.Words(); !slices.Equal(got, want) {
		t.Errorf("the words are %v, not %v", got, want)
	}
	if n := m.Count(); n != uses {
		t.Errorf("the memory was used %d times, not %d", n, uses)
	}
}

// numbers is n words that differ, from a first one on.
func numbers(first uint32, n int) []uint32 {
	l := make([]uint32, n)
	for i := range l {
		l[i] = first + uint32(i)
	}
	return l
}

// series is versions of n words, all of which differ.
func series(count, n int) [][]uint32 {
	l := make([][]uint32, count)
	for i := range l {
		l[i] = numbers(uint32(1000*(i+1)), n)
	}
	return l
}

// writer is a writer of versions that are as they should be.
func writer(t *testing.T, at int, versions ...[]uint32) *seqlock.Writer {
	t.Helper()
	w, e := seqlock.NewWriter(at, versions)
	if w == nil || e != api.OK {
		t.Fatalf("NewWriter(%d, %v) = %v, %d", at, versions, w, e)
	}
	return w
}

// reader is a reader of a number of words that is as it should be.
func reader(t *testing.T, at, n int) *seqlock.Reader {
	t.Helper()
	r, e := seqlock.NewReader(at, n)
	if r == nil || e != api.OK {
		t.Fatalf("NewReader(%d, %d) = %v, %d", at, n, r, e)
	}
	return r
}

// does checks what a step returns.
func does(t *testing.T, k steps.Task, m *mem.Memory, want bool) {
	t.Helper()
	if done := k.Step(m); done != want {
		t.Errorf("Step = %t", done)
	}
}

// goes performs some steps, none of which is the last one.
func goes(t *testing.T, k steps.Task, m *mem.Memory, n int) {
	t.Helper()
	for range n {
		does(t, k, m, false)
	}
}

// wrote checks how many versions are written, also when it is asked again.
func wrote(t *testing.T, w *seqlock.Writer, want int) {
	t.Helper()
	for range 2 {
		if n := w.Written(); n != want {
			t.Errorf("Written() = %d, not %d", n, want)
		}
	}
}

// reads checks that nothing is read yet, and how often it was tried.
func reads(t *testing.T, r *seqlock.Reader, tries int) {
	t.Helper()
	for range 2 {
		if l, ok := r.Got(); len(l) != 0 || ok || r.Tries() != tries {
			t.Errorf("Got() = %v, %t with %d tries, not %d", l, ok, r.Tries(), tries)
		}
	}
}

// got checks what was read, and how often it was tried.
func got(t *testing.T, r *seqlock.Reader, tries int, want ...uint32) {
	t.Helper()
	for range 2 {
		if l, ok := r.Got(); !slices.Equal(l, want) || !ok || r.Tries() != tries {
			t.Errorf("Got() = %v, %t with %d tries, not %v with %d", l, ok, r.Tries(), want, tries)
		}
	}
}

// stays checks that a task that is done reports this again, and neither changes nor uses a memory, behind its last step.
func stays(t *testing.T, k steps.Task, m *mem.Memory) {
	t.Helper()
	uses, words := m.Count(), m.Words()
	for range 7 {
		does(t, k, m, true)
		has(t, m, uses, words...)
	}
}

// wroteAll checks that a writer that is done stays so, in this memory.
func wroteAll(t *testing.T, w *seqlock.Writer, m *mem.Memory, written int) {
	t.Helper()
	wrote(t, w, written)
	stays(t, w, m)
	wrote(t, w, written)
}

// gotNone checks that a reader that is done without having read the words stays so, in this memory.
func gotNone(t *testing.T, r *seqlock.Reader, m *mem.Memory, tries int) {
	t.Helper()
	reads(t, r, tries)
	stays(t, r, m)
	reads(t, r, tries)
}

// P10.1

// refused checks that there is no writer of such versions, wherever it is to write them.
func refused(t *testing.T, versions [][]uint32) {
	t.Helper()
	for _, at := range append(missing(api.MaxMem), 0, 1, 7) {
		if w, e := seqlock.NewWriter(at, versions); w != nil || e != api.ErrSeqWords {
			t.Errorf("NewWriter(%d, %v) = %v, %d", at, versions, w, e)
		}
	}
}

// Each version has from 1 to MaxSize words.
func TestVersionSizes(t *testing.T) {
	refused(t, [][]uint32{nil})
	refused(t, [][]uint32{nil, {}, nil})
	for _, n := range []int{0, 33, 34, 63, 64, 65, 255, 256, 257, 4096, 65536, 65537} {
		for _, count := range []int{1, 2, 3, 10} {
			refused(t, slices.Repeat([][]uint32{make([]uint32, n)}, count))
		}
	}
	for n := 1; n <= api.MaxSize; n++ {
		for _, count := range []int{1, 2, 3, 10, 100} {
			for _, at := range append(missing(3), 0, 1, 2) {
				wrote(t, writer(t, at, series(count, n)...), 0)
			}
		}
	}
}

// All versions have as many words as the first one, also if only a later one has not.
func TestUnequalVersions(t *testing.T) {
	sizes := []int{0, 1, 2, 3, 5, 31, 32, 33, 34}
	for _, n := range sizes {
		for _, other := range sizes {
			if n == other {
				continue
			}
			for place := range 6 {
				list := slices.Repeat([][]uint32{make([]uint32, n)}, 6)
				list[place] = make([]uint32, other)
				refused(t, list)
				refused(t, list[:place+1+(5-place)/2])
			}
			refused(t, [][]uint32{make([]uint32, n), make([]uint32, other)})
		}
	}
	refused(t, [][]uint32{{1}, {1, 2}, {1}, {1, 2}})
	refused(t, append(series(1000, 2), []uint32{1}))
	refused(t, append(series(1000, 2), nil))
}

// place is where a counter and its words are: how many other words the memory has before and behind them.
type place struct{ before, behind int }

// places is at the memory's edges, and within.
var places = []place{{0, 0}, {0, 4}, {1, 0}, {5, 5}, {api.MaxMem - api.MaxSize - 1, 0}}

// What each step of a writer does: its use, the words, and what is written then. From any counter on, an odd one too.
func TestWriterSteps(t *testing.T) {
	for _, p := range places {
		for _, first := range slices.Concat(evens, odds) {
			for _, n := range []int{1, 2, 3, api.MaxSize - 1, api.MaxSize} {
				for count := 1; count <= 3; count++ {
					words := numbers(70, p.before+1+n+p.behind)
					words[p.before] = first
					m, uses := memory(t, words...)
					versions := series(count, n)
					w := writer(t, p.before, versions...)
					wrote(t, w, 0)
					for i, v := range versions {
						words[p.before]++
						does(t, w, m, false)
						uses++
						has(t, m, uses, words...)
						wrote(t, w, i)
						for j, word := range v {
							words[p.before+1+j] = word
							does(t, w, m, false)
							uses++
							has(t, m, uses, words...)
							wrote(t, w, i)
						}
						words[p.before]++
						does(t, w, m, i == count-1)
						uses++
						has(t, m, uses, words...)
						wrote(t, w, i+1)
					}
					wroteAll(t, w, m, count)
				}
			}
			if t.Failed() {
				t.Fatalf("%+v from %d on", p, first)
			}
		}
	}
}

// A writer is done with the last step of its last version, however many there are, each of n + 2 steps.
func TestWriterEnds(t *testing.T) {
	for _, count := range []int{1, 2, 7, 1000} {
		for _, n := range []int{1, 5, api.MaxSize} {
			m, uses := memory(t, make([]uint32, 1+n)...)
			w := writer(t, 0, series(count, n)...)
			for step := range count * (n + 2) {
				wrote(t, w, step/(n+2))
				does(t, w, m, step == count*(n+2)-1)
			}
			has(t, m, uses+count*(n+2), append([]uint32{uint32(2 * count)}, numbers(uint32(1000*count), n)...)...)
			wroteAll(t, w, m, count)
		}
	}
}

// The counter wraps around: behind the greatest number it is even, behind the one before that it is odd.
func TestCounterWraps(t *testing.T) {
	m, uses := memory(t, top-1, 5)
	w := writer(t, 0, []uint32{6}, []uint32{7})
	does(t, w, m, false)
	has(t, m, uses+1, top, 5)
	goes(t, w, m, 2)
	has(t, m, uses+3, 0, 6)
	goes(t, w, m, 2)
	does(t, w, m, true)
	has(t, m, uses+6, 2, 7)

	m, uses = memory(t, top, 5)
	w = writer(t, 0, []uint32{6})
	does(t, w, m, false)
	has(t, m, uses+1, 0, 5)
	does(t, w, m, false)
	does(t, w, m, true)
	has(t, m, uses+3, 1, 6)
	wroteAll(t, w, m, 1)
}

// A writer without versions is done with its first step, which uses no memory, whether its words exist or not.
func TestNoVersions(t *testing.T) {
	m, uses := memory(t, 5, 5, 9)
	for _, versions := range [][][]uint32{nil, {}, series(3, 2)[:0], series(3, 2)[3:]} {
		for _, at := range append(missing(3), 0, 1, 2) {
			w := writer(t, at, versions...)
			wrote(t, w, 0)
			does(t, w, m, true)
			wroteAll(t, w, m, 0)
		}
	}
	has(t, m, uses, 5, 5, 9)
}

// A writer writes what the lists were when it was made: what becomes of them behind the call is not seen, be it ahead of its first step or between any two.
func TestListsChanged(t *testing.T) {
	for behind := range 12 {
		under := []uint32{1, 2, 50, 3, 4, 51, 5, 6, 52}
		versions := [][]uint32{under[:2], under[3:5], under[6:8]}
		m, _ := memory(t, 0, 0, 0)
		w := writer(t, 0, versions...)
		for step := range 12 {
			if step == behind {
				clear(under)
				clear(versions)
			}
			does(t, w, m, step == 11)
			if i := uint32(step / 4); step%4 == 3 {
				has(t, m, m.Count(), 2*i+2, 2*i+1, 2*i+2)
			}
		}
		wroteAll(t, w, m, 3)
	}
}

// The lists are left as they were, with what lies behind them, by the writer as well as by a call that refuses them.
func TestListsAreLeft(t *testing.T) {
	for used := range 6 {
		under := []uint32{1, 2, 50, 3, 4, 51, 5, 6, 52}
		list := [][]uint32{under[:2], under[3:5], under[6:8], {60}, under[:0]}
		was := slices.Clone(list)
		w, e := seqlock.NewWriter(0, list[:used])
		if (e == api.OK) != (used < 4) || (w != nil) != (used < 4) {
			t.Errorf("%d versions: %v, %d", used, w, e)
		}
		m, _ := memory(t, 0, 0, 0)
		for w != nil && !w.Step(m) {
			continue
		}
		if !slices.Equal(under, []uint32{1, 2, 50, 3, 4, 51, 5, 6, 52}) || list[3][0] != 60 {
			t.Errorf("%d versions: the words are %v and %v", used, under, list[3])
		}
		for i, l := range list {
			if len(l) != len(was[i]) || cap(l) != cap(was[i]) || &l[:1][0] != &was[i][:1][0] {
				t.Errorf("%d versions: list %d is %v", used, i, l)
			}
		}
	}
}

// The step of a writer that finds that a word does not exist is its last one: the counter with the first step, below and above the memory; or a later word, with its step.
func TestWriterNoWord(t *testing.T) {
	for _, size := range []int{1, 2, 5, api.MaxSize, api.MaxMem} {
		for _, none := range missing(size) {
			for _, n := range []int{1, 2, api.MaxSize} {
				m, uses := memory(t, numbers(4, size)...)
				w := writer(t, none, series(2, n)...)
				does(t, w, m, true)
				has(t, m, uses, numbers(4, size)...)
				wroteAll(t, w, m, 0)
			}
		}
		// The counter exists, and so do fewer words than there should be, or none.
		for n := 1; n <= api.MaxSize; n++ {
			for few := range min(n, size) {
				at, words := size-1-few, numbers(4, size)
				m, uses := memory(t, words...)
				w := writer(t, at, series(2, n)...)
				goes(t, w, m, 1+few)
				words[at]++
				copy(words[at+1:], numbers(1000, few))
				has(t, m, uses+1+few, words...)
				does(t, w, m, true)
				has(t, m, uses+1+few, words...)
				wroteAll(t, w, m, 0)
			}
		}
	}
}

// Each step of each version may be the one that finds its word missing: a memory of fewer words than the one before has come.
func TestWriterNoWordAnyMore(t *testing.T) {
	for _, n := range []int{1, 2, 5} {
		for _, at := range []int{1, 3} {
			for step := range 3 * (n + 2) {
				word := at
				if in := step % (n + 2); in <= n {
					word = at + in
				}
				for size := 1; size <= word; size++ {
					m, uses := memory(t, make([]uint32, at+1+n)...)
					small, few := memory(t, numbers(9, size)...)
					w := writer(t, at, series(3, n)...)
					goes(t, w, m, step)
					words := m.Words()
					wrote(t, w, step/(n+2))
					does(t, w, small, true)
					wroteAll(t, w, small, step/(n+2))
					wroteAll(t, w, m, step/(n+2))
					has(t, small, few, numbers(9, size)...)
					has(t, m, uses+step, words...)
				}
			}
		}
	}
}

// P10.2

// A reader reads from 1 to MaxSize words.
func TestNewReader(t *testing.T) {
	for _, at := range append(missing(3), 0, 1, 2) {
		for _, n := range []int{math.MinInt, math.MinInt32, -1 << 32, -33, -32, -2, -1, 0, 33, 34, 63, 64, 65, 255, 256, 4096, 65536, 1 << 32, 1<<32 + 1, math.MaxInt32, math.MaxInt} {
			if r, e := seqlock.NewReader(at, n); r != nil || e != api.ErrSeqWords {
				t.Errorf("NewReader(%d, %d) = %v, %d", at, n, r, e)
			}
		}
		for n := 1; n <= api.MaxSize; n++ {
			reads(t, reader(t, at, n), 0)
		}
	}
}

// What each step of a reader does: one use, no word is changed; there is one try from the first step on, and nothing is read until the step number n + 2.
func TestReaderSteps(t *testing.T) {
	for _, p := range places {
		for _, first := range evens {
			for n := 1; n <= api.MaxSize; n++ {
				words := numbers(70, p.before+1+n+p.behind)
				words[p.before] = first
				m, uses := memory(t, words...)
				r := reader(t, p.before, n)
				reads(t, r, 0)
				for step := range n + 1 {
					does(t, r, m, false)
					reads(t, r, 1)
					has(t, m, uses+step+1, words...)
				}
				does(t, r, m, true)
				has(t, m, uses+n+2, words...)
				want := words[p.before+1 : p.before+1+n]
				got(t, r, 1, want...)
				stays(t, r, m)
				m.Store(p.before, first+1)
				m.Store(p.before+1, 5)
				stays(t, r, m)
				got(t, r, 1, want...)
			}
			if t.Failed() {
				t.Fatalf("%+v from %d on", p, first)
			}
		}
	}
}

// Each word is loaded by its own step: what is changed before that step is read, what is changed behind it is not.
func TestReaderOrder(t *testing.T) {
	for _, n := range []int{1, 2, 3, api.MaxSize} {
		for at := range 3 {
			m, _ := memory(t, make([]uint32, at+1+n)...)
			r := reader(t, at, n)
			does(t, r, m, false)
			want := numbers(500, n)
			for i, word := range want {
				for j := range n {
					m.Store(at+1+j, uint32(7*i+1))
				}
				m.Store(at+1+i, word)
				does(t, r, m, false)
				m.Store(at+1+i, 8)
			}
			does(t, r, m, true)
			got(t, r, 1, want...)
		}
	}
}

// A reader that finds the counter odd loads it again each time, with one use each, and has not tried yet; once it is even the reader goes on.
func TestOddCounter(t *testing.T) {
	for _, first := range odds {
		for _, n := range []int{1, 2, api.MaxSize} {
			words := numbers(first, 1+n)
			m, uses := memory(t, words...)
			r := reader(t, 0, n)
			for step := range 40 {
				does(t, r, m, false)
				reads(t, r, 0)
				has(t, m, uses+1+step, words...)
			}
			m.Store(0, first+2)
			goes(t, r, m, 3)
			reads(t, r, 0)
			m.Store(0, first+1)
			goes(t, r, m, 1+n)
			reads(t, r, 1)
			does(t, r, m, true)
			got(t, r, 1, words[1:]...)
			stays(t, r, m)
		}
	}
}

// A reader that finds, when it is done reading, that the counter has changed begins anew with its next step, and so each time; the change may be one to an odd number, or to a smaller one.
func TestCounterChanged(t *testing.T) {
	for _, first := range evens {
		for _, n := range []int{1, 2, api.MaxSize} {
			for _, d := range []uint32{1, 2, 3, 4, 1 << 16, 1<<31 - 1, 1 << 31, 1<<31 + 1, top - 1, top} {
				m, uses := memory(t, append([]uint32{first}, numbers(40, n)...)...)
				r := reader(t, 0, n)
				goes(t, r, m, 1+n)
				m.Store(0, first+d)
				for i := range n {
					m.Store(1+i, uint32(60+i))
				}
				does(t, r, m, false)
				reads(t, r, 1)
				has(t, m, uses+n+2+n+1, append([]uint32{first + d}, numbers(60, n)...)...)
				uses = m.Count()
				if d%2 == 1 {
					goes(t, r, m, 5)
					reads(t, r, 1)
					m.Store(0, first+d+1)
					uses = m.Count()
				}
				goes(t, r, m, 1+n)
				reads(t, r, 2)
				does(t, r, m, true)
				got(t, r, 2, numbers(60, n)...)
				stays(t, r, m)
				if c := m.Count(); c != uses+n+2 {
					t.Errorf("%d uses, not %d", c, uses+n+2)
				}
			}
		}
	}
}

// The counter may change again and again: each attempt that begins is a try, and only the last one counts.
func TestManyTries(t *testing.T) {
	for _, n := range []int{1, 3, api.MaxSize} {
		m, _ := memory(t, make([]uint32, 1+n)...)
		r := reader(t, 0, n)
		for try := range 200 {
			goes(t, r, m, 1)
			for i := range n {
				m.Store(1+i, uint32(try))
			}
			goes(t, r, m, n)
			m.Add(0, 2)
			goes(t, r, m, 1)
			reads(t, r, try+1)
		}
		goes(t, r, m, 1+n)
		does(t, r, m, true)
		got(t, r, 201, slices.Repeat([]uint32{199}, n)...)
	}
}

// The counter is compared with what it was in the first step, and only in the last one.
func TestCounterBetween(t *testing.T) {
	m, _ := memory(t, 4, 1, 2)
	r := reader(t, 0, 2)
	goes(t, r, m, 1)
	for _, c := range []uint32{5, 6, 0} {
		m.Store(0, c)
	}
	goes(t, r, m, 1)
	m.Store(0, 9)
	goes(t, r, m, 1)
	m.Store(0, 4)
	does(t, r, m, true)
	got(t, r, 1, 1, 2)

	// The second try has a value of its own.
	m, _ = memory(t, 4, 1, 2)
	r = reader(t, 0, 2)
	goes(t, r, m, 3)
	m.Store(0, 6)
	goes(t, r, m, 2)
	reads(t, r, 2)
	m.Store(0, 4)
	goes(t, r, m, 3)
	reads(t, r, 2)
	goes(t, r, m, 3)
	does(t, r, m, true)
	got(t, r, 3, 1, 2)
}

// The step of a reader that finds that a word does not exist is its last one, and then nothing was read: the counter with the first step, below and above the memory; or a later word, with its step.
func TestReaderNoWord(t *testing.T) {
	for _, size := range []int{1, 2, 5, api.MaxSize, api.MaxMem} {
		words := make([]uint32, size)
		for _, none := range missing(size) {
			for _, n := range []int{1, 2, api.MaxSize} {
				m, uses := memory(t, words...)
				r := reader(t, none, n)
				does(t, r, m, true)
				has(t, m, uses, words...)
				gotNone(t, r, m, 0)
			}
		}
		for n := 1; n <= api.MaxSize; n++ {
			for few := range min(n, size) {
				m, uses := memory(t, words...)
				r := reader(t, size-1-few, n)
				goes(t, r, m, 1+few)
				does(t, r, m, true)
				has(t, m, uses+1+few, words...)
				gotNone(t, r, m, 1)
			}
		}
	}
}

// Each step of each try may be the one that finds its word missing: a memory of fewer words than the one before has come. Nothing was read then, also if only the last step is missing.
func TestReaderNoWordAnyMore(t *testing.T) {
	for _, n := range []int{1, 2, 5} {
		for _, at := range []int{1, 3} {
			for step := range 3 * (n + 2) {
				in := step % (n + 2)
				word, tries := at, step/(n+2)
				if in > 0 {
					tries++
				}
				if in <= n {
					word = at + in
				}
				for size := 1; size <= word; size++ {
					m, uses := memory(t, make([]uint32, at+1+n)...)
					small, few := memory(t, numbers(9, size)...)
					r := reader(t, at, n)
					for i := range step {
						does(t, r, m, false)
						if i%(n+2) == n {
							m.Add(at, 2)
							uses++
						}
					}
					words := m.Words()
					does(t, r, small, true)
					gotNone(t, r, small, tries)
					gotNone(t, r, m, tries)
					has(t, small, few, numbers(9, size)...)
					has(t, m, uses+step, words...)
				}
			}
		}
	}

	// A reader that has found the counter odd so far has not tried yet.
	m, _ := memory(t, 0, 0, 7, 0)
	small, few := memory(t, 5, 5)
	r := reader(t, 2, 1)
	goes(t, r, m, 6)
	does(t, r, small, true)
	gotNone(t, r, m, 0)
	has(t, small, few, 5, 5)
}

// What is missing is not counted as a counter that is 0: neither as an even one, nor as one that has stayed 0.
func TestMissingIsNotZero(t *testing.T) {
	m, _ := memory(t, 0)
	r := reader(t, 1, 1)
	does(t, r, m, true)
	gotNone(t, r, m, 0)

	m, _ = memory(t, 0, 0, 8)
	small, _ := memory(t, 0)
	r = reader(t, 1, 1)
	goes(t, r, m, 2)
	does(t, r, small, true)
	gotNone(t, r, m, 1)
	gotNone(t, r, small, 1)
}

// What Got returns belongs to who has asked: neither an append to it nor a change of it is seen by the next one, and no two share anything.
func TestGotIsApart(t *testing.T) {
	for n := 1; n <= api.MaxSize; n++ {
		m, _ := memory(t, append([]uint32{6}, numbers(300, n)...)...)
		r := reader(t, 0, n)
		goes(t, r, m, n+1)
		does(t, r, m, true)
		want := numbers(300, n)
		a, _ := r.Got()
		b, _ := r.Got()
		if cap(a) != n || cap(b) != n {
			t.Errorf("%d words, with room for %d", n, cap(a))
		}
		longer := append(a, 1, 2, 3)
		longer[0] = 4
		if got := append(b, 5); got[n] != 5 || longer[n] != 1 {
			t.Errorf("%v and %v share what was appended", got, longer)
		}
		got(t, r, 1, want...)
		for i := range a {
			a[i] = 9
			got(t, r, 1, want...)
		}
		if !slices.Equal(b, want) {
			t.Errorf("%v has changed with %v", b, a)
		}
		has(t, m, m.Count(), append([]uint32{6}, want...)...)
	}
}

// What Got returns stays what it is, whatever happens to the memory, or to the reader, behind it.
func TestGotStays(t *testing.T) {
	m, _ := memory(t, 0, 1, 2, 3)
	r := reader(t, 0, 3)
	goes(t, r, m, 4)
	does(t, r, m, true)
	l, _ := r.Got()
	for at := range 4 {
		m.Store(at, 50)
	}
	stays(t, r, m)
	if !slices.Equal(l, []uint32{1, 2, 3}) {
		t.Errorf("what was read is %v now", l)
	}
	got(t, r, 1, 1, 2, 3)
}

// The chapter's example.
func TestExample(t *testing.T) {
	m, uses := memory(t, 0, 7, 8)
	w, r := writer(t, 0, []uint32{1, 2}), reader(t, 0, 2)
	goes(t, w, m, 2)
	has(t, m, uses+2, 1, 1, 8)
	does(t, r, m, false)
	reads(t, r, 0)
	has(t, m, uses+3, 1, 1, 8)
	does(t, w, m, false)
	wrote(t, w, 0)
	does(t, w, m, true)
	wrote(t, w, 1)
	has(t, m, uses+5, 2, 1, 2)
	for range 3 {
		does(t, r, m, false)
		reads(t, r, 1)
	}
	does(t, r, m, true)
	got(t, r, 1, 1, 2)
	has(t, m, uses+9, 2, 1, 2)
}

// P10.3

// group is a writer and some readers of the same words, as tasks of a machine, and what is seen of them. Task 0 is the writer.
type group struct {
	*steps.Machine
	memory  *mem.Memory
	n       int
	first   []uint32
	series  [][]uint32
	writer  *seqlock.Writer
	readers []*seqlock.Reader
	wrote   int   // the writer's steps
	took    []int // each reader's steps
	since   []int // how many versions were complete when each reader last performed step 1
	quiet   []int // how many steps of its try each reader has performed, 0 if the writer has performed one meanwhile
	picks   int
}

// gather is a group, whose counter is an even one at first.
func gather(t *testing.T, counter uint32, n, versions, readers int) *group {
	t.Helper()
	g := &group{n: n, first: numbers(7, n), series: series(versions, n)}
	g.memory, _ = memory(t, slices.Concat([]uint32{99, counter}, g.first, []uint32{99})...)
	g.writer = writer(t, 1, g.series...)
	tasks := []steps.Task{g.writer}
	for range readers {
		r := reader(t, 1, n)
		g.readers, tasks = append(g.readers, r), append(tasks, r)
	}
	g.took, g.since, g.quiet = make([]int, readers), make([]int, readers), make([]int, readers)
	g.Machine = steps.New(g.memory, tasks...)
	return g
}

// pick performs a step of a task, and checks what has come of it.
func (g *group) pick(t *testing.T, task int) {
	t.Helper()
	// Far more than are needed: readers that never end must not be picked for ever.
	if g.picks++; g.picks > 50000 {
		t.Fatalf("%d tasks are not done", g.Left())
	}
	if g.Done(task) {
		return
	}
	if task == 0 {
		g.write(t)
	} else {
		g.read(t, task-1)
	}
}

// write performs a step of the writer.
func (g *group) write(t *testing.T) {
	t.Helper()
	g.Pick(0)
	g.wrote++
	clear(g.quiet)
	if g.writer.Written() != g.wrote/(g.n+2) || g.Done(0) != (g.wrote >= len(g.series)*(g.n+2)) {
		t.Errorf("Written() = %d behind %d steps, done: %t", g.writer.Written(), g.wrote, g.Done(0))
	}
}

// read performs a step of a reader, and checks what it has read, if it is done.
func (g *group) read(t *testing.T, i int) {
	t.Helper()
	r := g.readers[i]
	tries := r.Tries()
	g.Pick(1 + i)
	g.took[i]++
	switch {
	case r.Tries() > tries:
		g.since[i], g.quiet[i] = g.writer.Written(), 1
	case g.quiet[i] > 0:
		g.quiet[i]++
	}
	l, ok := r.Got()
	if ok != g.Done(1+i) || !ok && len(l) > 0 {
		t.Errorf("Got() = %v, %t, done: %t", l, ok, g.Done(1+i))
	}
	if ok {
		g.whole(t, i, l)
	} else if g.quiet[i] >= g.n+2 {
		t.Errorf("reader %d is not done with %d steps, although nothing was written", i, g.quiet[i])
	}
}

// whole checks that what a reader has read is one version, neither older nor newer than it may be.
func (g *group) whole(t *testing.T, i int, l []uint32) {
	t.Helper()
	newest := g.writer.Written()
	if g.wrote%(g.n+2) > 0 {
		newest++ // the one that is being written
	}
	all := append([][]uint32{g.first}, g.series...)
	which := slices.IndexFunc(all, func(v []uint32) bool { return slices.Equal(v, l) })
	if which < g.since[i] || which > newest {
		t.Errorf("reader %d has read %v: version %d, not from %d to %d", i, l, which, g.since[i], newest)
	}
}

// orders plays each order of the steps of a group, in which each reader takes at most so many steps beyond those that it needs; how many there are. The list is how an order begins.
func orders(t *testing.T, counter uint32, n, versions, readers, more int, list []int) int {
	t.Helper()
	g := gather(t, counter, n, versions, readers)
	for _, task := range list {
		g.pick(t, task)
	}
	if t.Failed() {
		t.Fatalf("%d versions of %d words from %d on, picked %v", versions, n, counter, list)
	}
	if g.Left() == 0 {
		return 1
	}
	for i, took := range g.took {
		if took >= n+2+more && !g.Done(1+i) {
			return 0
		}
	}
	count := 0
	for task := range 1 + readers {
		if !g.Done(task) {
			count += orders(t, counter, n, versions, readers, more, append(slices.Clone(list), task))
		}
	}
	return count
}

// Small groups, in each order: what is read is one whole version, neither older nor newer than it may be. Also across the wrap-around of the counter, and with readers that try again.
func TestAllOrders(t *testing.T) {
	for _, c := range []struct{ n, versions, readers, more, want int }{
		{1, 0, 1, 9, 4},   // without versions the writer has a step all the same
		{2, 0, 2, 0, 630}, // 70 orders of the readers, with the writer's only step at each of 9 places
		{1, 1, 0, 0, 1},
		{1, 1, 1, 0, 2}, // before the version, and behind it
		{5, 1, 1, 0, 2},
		{2, 3, 1, 0, 4},
		{1, 1, 2, 0, 42}, // both before, or both behind, with 20 orders each; or one before and one behind
		{1, 2, 2, 0, 66},
		{1, 1, 1, 1, 4}, // also with the counter found odd once, at either of two places
		{1, 1, 1, 6, 0},
		{2, 1, 1, 8, 0},
		{3, 1, 1, 5, 0},
		{1, 2, 1, 6, 0},
		{2, 2, 1, 4, 0},
		{1, 3, 1, 4, 0},
		{1, 1, 2, 2, 0},
		{2, 1, 2, 0, 142},
	} {
		counters := []uint32{top - 1, top - 3, 0}
		if c.more > 0 {
			counters = counters[:1] // there are many orders then
		}
		for _, counter := range counters {
			n := orders(t, counter, c.n, c.versions, c.readers, c.more, nil)
			if n < 1 || c.want > 0 && n != c.want {
				t.Errorf("%+v: %d orders", c, n)
			}
		}
	}
}

// source is a row of numbers that look drawn, and are the same each time.
type source uint32

// under is the next number, below n.
func (s *source) under(n int) int {
	*s = *s*1664525 + 1013904223
	return int(*s>>8) % n
}

// More words, versions and readers, in many orders: picked evenly, or each one several times in a row.
func TestManyOrders(t *testing.T) {
	s, again, versions := source(9), 0, map[uint32]int{}
	for range 600 {
		n := 1 + s.under(1+s.under(api.MaxSize))
		g := gather(t, evens[s.under(len(evens))]-uint32(2*s.under(3)), n, s.under(9), 1+s.under(6))
		for most := 1 + s.under(2*n+4); g.Left() > 0; {
			task := s.under(1 + len(g.readers))
			for range 1 + s.under(most) {
				g.pick(t, task)
			}
		}
		for _, r := range g.readers {
			again += r.Tries() - 1
			l, _ := r.Got()
			versions[l[0]]++
		}
		if t.Failed() {
			t.Fatalf("%d versions of %d words, %d readers", len(g.series), n, len(g.readers))
		}
	}
	// Readers have tried again, and have read the initial words, and each version up to the last one.
	if again == 0 || len(versions) != 9 {
		t.Errorf("%d more tries; read: %v", again, versions)
	}
}

// Readers alone are done with step number n + 2, in any order: none of them is in the way of another one.
func TestReadersAlone(t *testing.T) {
	s := source(12)
	for n := 1; n <= api.MaxSize; n++ {
		g := gather(t, evens[n%len(evens)], n, 0, 1+n%5)
		uses := g.memory.Count()
		for g.Left() > 1 {
			g.pick(t, 1+s.under(len(g.readers)))
		}
		for i, r := range g.readers {
			got(t, r, 1, g.first...)
			if g.took[i] != n+2 {
				t.Errorf("reader %d took %d steps", i, g.took[i])
			}
		}
		if c := g.memory.Count(); c != uses+(n+2)*len(g.readers) {
			t.Errorf("%d uses", c-uses)
		}
	}
}

// A reader reads before the first version, between any two, and behind the last one, each time the version that is complete then.
func TestReadsBetween(t *testing.T) {
	for _, n := range []int{1, 2, 7, api.MaxSize} {
		m, _ := memory(t, append([]uint32{top - 3}, numbers(7, n)...)...)
		w := writer(t, 0, series(4, n)...)
		for i, want := range append([][]uint32{numbers(7, n)}, series(4, n)...) {
			wrote(t, w, i)
			r := reader(t, 0, n)
			goes(t, r, m, n+1)
			does(t, r, m, true)
			got(t, r, 1, want...)
			for range n + 2 {
				w.Step(m)
			}
		}
	}
}

// A reader never reads what is torn: it begins at any step of the writer, and the writer goes on behind any of its steps.
func TestTorn(t *testing.T) {
	for _, n := range []int{1, 2, 3, 6} {
		for begin := range 3*(n+2) + 1 {
			for read := range n + 2 {
				for more := range 3*(n+2) - begin + 1 {
					g := gather(t, 0, n, 3, 1)
					for range begin {
						g.pick(t, 0)
					}
					for range read {
						g.pick(t, 1)
					}
					for range more {
						g.pick(t, 0)
					}
					for range 2*n + 3 {
						g.pick(t, 1)
					}
					for g.Left() > 0 {
						g.pick(t, 0)
						g.pick(t, 1)
					}
				}
			}
			if t.Failed() {
				t.Fatalf("%d words, begun at step %d", n, begin)
			}
		}
	}
}

// With a counter that is odd at first nothing is promised for what is read; the steps are what they are: a reader takes what is being written for complete.
func TestOddAtFirst(t *testing.T) {
	m, _ := memory(t, 1, 7, 8)
	w, r, late := writer(t, 0, []uint32{1, 2}), reader(t, 0, 2), reader(t, 0, 2)
	goes(t, r, m, 3)
	reads(t, r, 0)
	goes(t, w, m, 2)
	goes(t, r, m, 3)
	does(t, r, m, true)
	got(t, r, 1, 1, 8)
	goes(t, w, m, 1)
	does(t, w, m, true)
	wroteAll(t, w, m, 1)
	goes(t, late, m, 50)
	reads(t, late, 0)
}

// Writers and readers are tasks: a machine performs their steps, beside tasks of other kinds.
func TestTasks(t *testing.T) {
	m, uses := memory(t, top-1, 7, 8, 0)
	w, r, late := writer(t, 0, []uint32{1, 2}, []uint32{3, 4}), reader(t, 0, 2), reader(t, 0, 1)
	x := steps.New(m, w, r, steps.Adds(3, 4), late, writer(t, 0), reader(t, 3, 1), writer(t, 4, []uint32{1}))
	if n := x.Run([]int{1, 1, 0, 4, 4, 3, 6, 6, 7}); n != 6 || !x.Done(4) || !x.Done(6) || x.Left() != 5 {
		t.Errorf("Run = %d, %d left", n, x.Left())
	}
	reads(t, r, 1)
	reads(t, late, 0)
	has(t, m, uses+4, top, 7, 8, 0)
	if n := x.Run([]int{0, 0, 0, 1, 1, 1, 1, 1, 5, 5}); n != 10 || !x.Done(5) || x.Left() != 4 {
		t.Errorf("Run = %d, %d left", n, x.Left())
	}
	wrote(t, w, 1)
	reads(t, r, 2)
	has(t, m, uses+13, 0, 1, 2, 0)
	if n := x.Run([]int{1, 1, 3, 3, 3, 3}); n != 4 || !x.Done(1) || !x.Done(3) {
		t.Errorf("Run = %d", n)
	}
	got(t, r, 2, 1, 2)
	got(t, late, 1, 1)
	if n := x.Round(99); n != 4 || x.Left() != 0 {
		t.Errorf("Round = %d, %d left", n, x.Left())
	}
	wrote(t, w, 2)
	has(t, m, uses+25, 2, 3, 4, 4)
	if e := x.Pick(1); e != api.ErrStepsDone {
		t.Errorf("Pick(1) = %d", e)
	}
}

// In any order, with any words

// record is what is known of a writer or a reader, step by step. Its words do not wrap around by themselves.
type record struct {
	at, n    int
	versions [][]uint32 // none for a reader
	writes   bool
	step     int // of this version or try, from 0 on
	over     bool
	read     bool
	count    int // versions that are written, or tries
	counter  uint64
	words    []uint32
}

// next does what the next step should do; how many uses it is.
func (r *record) next(words []uint64) int {
	at := r.at + r.step
	if r.step > r.n {
		at = r.at
	}
	if r.over || r.writes && len(r.versions) == 0 || at < 0 || at >= len(words) {
		r.over = true
		return 0
	}
	if r.writes {
		r.write(&words[at])
	} else {
		r.load(words[at])
	}
	return 1
}

// write is a writer's step.
func (r *record) write(word *uint64) {
	if 1 <= r.step && r.step <= r.n {
		*word = uint64(r.versions[r.count][r.step-1])
		r.step++
		return
	}
	*word = (*word + 1) % (1 << 32)
	if r.step++; r.step > r.n+1 {
		r.step = 0
		r.count++
		r.over = r.count == len(r.versions)
	}
}

// load is a reader's step.
func (r *record) load(word uint64) {
	switch {
	case r.step == 0 && word%2 == 1:
	case r.step == 0:
		r.counter, r.words = word, nil
		r.count++
		r.step++
	case r.step <= r.n:
		r.words = append(r.words, uint32(word))
		r.step++
	default:
		r.step = 0
		r.read = word == r.counter
		r.over = r.read
	}
}

// shows checks what a task tells of itself.
func (r *record) shows(t *testing.T, k steps.Task) {
	t.Helper()
	switch k := k.(type) {
	case *seqlock.Writer:
		wrote(t, k, r.count)
	case *seqlock.Reader:
		if r.read {
			got(t, k, r.count, r.words...)
		} else {
			reads(t, k, r.count)
		}
	}
}

// narrow is words as the memory has them.
func narrow(words []uint64) []uint32 {
	var l []uint32
	for _, w := range words {
		l = append(l, uint32(w))
	}
	return l
}

// draw is a task, and its record.
func draw(t *testing.T, s *source) (steps.Task, *record) {
	t.Helper()
	r := &record{at: s.under(6) - 1, n: 1 + s.under(4), writes: s.under(2) == 0}
	if !r.writes {
		return reader(t, r.at, r.n), r
	}
	for range s.under(4) {
		v := make([]uint32, r.n)
		for i := range v {
			v[i] = uint32(s.under(1 << 24))
		}
		r.versions = append(r.versions, v)
	}
	return writer(t, r.at, r.versions...), r
}

// Writers and readers whose words overlap, or are missing, of two memories of which one is smaller, do what the record of them tells: also several writers of the same words.
func TestManySteps(t *testing.T) {
	s, ends := source(10), map[[2]bool]int{}
	for range 3000 {
		first := uint64(evens[s.under(len(evens))])
		words := [2][]uint64{{first, first + 1, first, 3, 5, first, 8}, {first, first, first}}
		var m [2]*mem.Memory
		var uses [2]int
		for i := range m {
			m[i], uses[i] = memory(t, narrow(words[i])...)
		}
		var tasks []steps.Task
		var records []*record
		for range 1 + s.under(4) {
			k, r := draw(t, &s)
			tasks, records = append(tasks, k), append(records, r)
		}
		for range 60 {
			which := s.under(60) / 59 // the smaller one now and then
			i := s.under(len(tasks))
			r := records[i]
			uses[which] += r.next(words[which])
			does(t, tasks[i], m[which], r.over)
			r.shows(t, tasks[i])
			has(t, m[which], uses[which], narrow(words[which])...)
			if t.Failed() {
				t.Fatalf("%+v", *r)
			}
		}
		for _, r := range records {
			if r.over {
				ends[[2]bool{r.writes, r.read || r.writes && r.count == len(r.versions)}]++
			}
		}
	}
	// Both kinds of tasks have ended in both ways.
	if len(ends) != 4 {
		t.Errorf("the ends are %v", ends)
	}
}

// P1 and the rules

// Any call with any arguments returns; no memory, and one that is not made by its package, have no words.
func TestAnyArguments(t *testing.T) {
	numbers := append(missing(3), 0, 1, 2)
	m, _ := memory(t, 0, 0, 0)
	for _, at := range numbers {
		for _, none := range []*mem.Memory{nil, {}} {
			w, r := writer(t, at, []uint32{1}), reader(t, at, 1)
			does(t, w, none, true)
			does(t, r, none, true)
			wroteAll(t, w, m, 0)
			gotNone(t, r, m, 0)
			does(t, writer(t, at), none, true)
		}
		for _, n := range numbers {
			w, _ := seqlock.NewWriter(at, slices.Repeat([][]uint32{make([]uint32, min(max(n, 0), 40))}, 3))
			r, _ := seqlock.NewReader(at, n)
			for range 12 {
				if w != nil {
					w.Step(m)
				}
				if r != nil {
					r.Step(m)
				}
			}
		}
	}
	for step := range 4 {
		m, _ := memory(t, 6, 6, 0)
		w, r := writer(t, 0, []uint32{1, 2}), reader(t, 0, 2)
		goes(t, r, m, step)
		goes(t, w, m, step)
		does(t, w, nil, true)
		does(t, r, nil, true)
		wroteAll(t, w, m, 0)
		gotNone(t, r, m, min(step, 1))
	}
}

// Writers and readers have nothing in common but the memory, also those of the same lists.
func TestApart(t *testing.T) {
	m, _ := memory(t, 0, 0, 0)
	n, uses := memory(t, 0, 0, 0)
	versions := series(2, 2)
	a, b, c := writer(t, 0, versions...), writer(t, 0, versions...), reader(t, 0, 2)
	goes(t, a, m, 5)
	wrote(t, a, 1)
	wrote(t, b, 0)
	has(t, n, uses, 0, 0, 0)
	goes(t, b, n, 3)
	goes(t, a, m, 2)
	does(t, a, m, true)
	goes(t, c, m, 3)
	does(t, c, m, true)
	got(t, c, 1, 2000, 2001)
	wrote(t, b, 0)
	goes(t, b, n, 1)
	wrote(t, b, 1)
	has(t, n, uses+4, 2, 1000, 1001)
}

// The results depend on nothing but the calls: the same ones again have the same results.
func TestAgain(t *testing.T) {
	play := func() []uint32 {
		s := source(11)
		g := gather(t, top-5, 5, 20, 3)
		var seen []uint32
		for g.Left() > 0 {
			g.pick(t, s.under(4))
			seen = append(seen, g.memory.Words()...)
			for _, r := range g.readers {
				l, _ := r.Got()
				seen = append(append(seen, uint32(r.Tries())), l...)
			}
		}
		return seen
	}
	want := play()
	for range 3 {
		if got := play(); !slices.Equal(got, want) {
			t.Errorf("%v, not %v", got, want)
		}
	}
}
