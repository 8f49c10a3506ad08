package barrier_test

import (
	"math"
	"slices"
	"testing"

	"purlin/api"
	"purlin/barrier"
	"purlin/mem"
	"purlin/steps"
)

const top = math.MaxUint32 // the greatest word: 0 follows

// missing is numbers of no word, in a memory of n words: below and above.
func missing(n int) []int {
	return []int{
		-1, -2, -n, -n - 1, -65536, math.MinInt32, -1 << 32, math.MinInt + 1, math.MinInt,
		n, n + 1, 2*n + 1, 65536 + n, 1 << 31, 1 << 32, 1<<32 + n, math.MaxInt32, math.MaxInt - 1, math.MaxInt,
	}
}

// noSizes is numbers of waiters that no barrier has: below and above.
var noSizes = []int{0, -1, -2, -7, -8, -9, -256, math.MinInt32, -1 << 32, 1 - 1<<32, math.MinInt, 9, 10, 16, 255, 256, 257, 264, 65537, math.MaxInt32, 1 << 32, 1<<32 + 1, math.MaxInt - 1, math.MaxInt}

// asked is numbers of rounds that a waiter is asked for, and how many it has.
var asked = []struct{ rounds, has int }{
	{math.MinInt, 0}, {math.MinInt + 1, 0}, {1 - 1<<32, 0}, {math.MinInt32, 0}, {-1001, 0}, {-1000, 0}, {-2, 0}, {-1, 0},
	{0, 0}, {1, 1}, {2, 2}, {3, 3}, {255, 255}, {256, 256}, {999, 999}, {1000, 1000},
	{1001, 1000}, {1002, 1000}, {2000, 1000}, {65536, 1000}, {math.MaxInt32, 1000}, {1 << 32, 1000}, {1<<32 + 1, 1000}, {math.MaxInt - 1, 1000}, {math.MaxInt, 1000},
}

// memory is a memory of some words, and how often it has been used so far.
func memory(t *testing.T, words ...uint32) (*mem.Memory, int) {
	t.Helper()
	m, e := mem.New(len(words))
	if e != api.OK {
		t.Fatalf("New(%d) = %d", len(words), e)
	}
	for at, v := range words {
		m.Store(at, v)
	}
	return m, m.Count()
}

// has checks all words of a memory, and how often it was used.
func has(t *testing.T, m *mem.Memory, uses int, want ...uint32) {
	t.Helper()
	if got := m.Words(); !slices.Equal(got, want) {
		t.Errorf("the words are %v, not %v", got, want)
	}
	if n := m.Count(); n != uses {
		t.Errorf("the memory was used %d times, not %d", n, uses)
	}
}

// waiter is a waiter that is as it should be.
func waiter(t *testing.T, at, n, rounds int) *barrier.Waiter {
	t.Helper()
	w, e := barrier.New(at, n, rounds)
	if w == nil || e != api.OK {
		t.Fatalf("New(%d, %d, %d) = %v, %d", at, n, rounds, w, e)
	}
	return w
}

// view is what a waiter tells of itself.
type view struct{ came, passed int }

// look is what a waiter tells.
func look(w *barrier.Waiter) view { return view{came: w.Came(), passed: w.Passed()} }

// shows checks what a waiter tells, also when it is asked again.
func shows(t *testing.T, w *barrier.Waiter, want view) {
	t.Helper()
	for range 2 {
		if got := look(w); got != want {
			t.Errorf("the waiter is %+v, not %+v", got, want)
		}
	}
}

// does checks what a step returns, and what the waiter tells then.
func does(t *testing.T, w *barrier.Waiter, m *mem.Memory, last bool, came, passed int) {
	t.Helper()
	if done := w.Step(m); done != last {
		t.Errorf("Step = %t", done)
	}
	shows(t, w, view{came: came, passed: passed})
}

// stays checks that a waiter that is done reports this again, and neither changes nor uses a memory, behind its last step.
func stays(t *testing.T, w *barrier.Waiter, m *mem.Memory) {
	t.Helper()
	is, uses, words := look(w), m.Count(), m.Words()
	for range 7 {
		does(t, w, m, true, is.came, is.passed)
	}
	has(t, m, uses, words...)
}

// trace is a waiter, the memory that it uses, and what the words and the uses should be.
type trace struct {
	*barrier.Waiter
	m     *mem.Memory
	words []uint32
	uses  int
}

// begin is a waiter at two words of a memory of so many, none of which is 0 at first.
func begin(t *testing.T, at, n, rounds, size int) *trace {
	t.Helper()
	x := trace{Waiter: waiter(t, at, n, rounds), words: make([]uint32, size)}
	for i := range x.words {
		x.words[i] = uint32(1000 + i)
	}
	x.m, x.uses = memory(t, x.words...)
	shows(t, x.Waiter, view{})
	return &x
}

// set changes a word, as another one would.
func (x *trace) set(at int, v uint32) {
	x.words[at] = v
	x.m.Store(at, v)
	x.uses++
}

// does performs a step that uses the memory once, behind which a word is v and no other word has changed.
func (x *trace) does(t *testing.T, at int, v uint32, last bool, came, passed int) {
	t.Helper()
	does(t, x.Waiter, x.m, last, came, passed)
	x.words[at] = v
	x.uses++
	has(t, x.m, x.uses, x.words...)
}

// place is where a barrier is, in a memory of so many words.
type place struct{ at, size int }

// places is at the memory's edges, and within.
var places = []place{{0, 2}, {0, 6}, {4, 6}, {3, 8}, {api.MaxMem - 2, api.MaxMem}}

// senses is the own sense of a waiter in its first rounds.
var senses = []uint32{1, 0, 1, 0, 1, 0}

// P11.1

// A barrier is for 1 to MaxCores waiters, wherever it is, and however many rounds there are.
func TestNew(t *testing.T) {
	for _, at := range append(missing(api.MaxMem), 0, 1, 7) {
		for _, r := range asked {
			for _, n := range noSizes {
				if w, e := barrier.New(at, n, r.rounds); w != nil || e != api.ErrBarrierSize {
					t.Fatalf("New(%d, %d, %d) = %v, %d", at, n, r.rounds, w, e)
				}
			}
			for n := 1; n <= api.MaxCores; n++ {
				shows(t, waiter(t, at, n, r.rounds), view{})
			}
		}
	}
}

// A waiter has as many rounds as it is asked for, but not fewer than none and not more than MaxRounds: alone it passes each with its third step.
func TestRounds(t *testing.T) {
	for _, r := range asked {
		if r.has == 0 {
			continue
		}
		w := waiter(t, 1, 1, r.rounds)
		m, uses := memory(t, 9, 0, 0, 9)
		for i := range r.has {
			does(t, w, m, false, i+1, i)
			does(t, w, m, false, i+1, i)
			does(t, w, m, i == r.has-1, i+1, i+1)
			if t.Failed() {
				t.Fatalf("round %d of %d", i, r.rounds)
			}
		}
		has(t, m, uses+3*r.has, 9, 0, uint32(r.has%2), 9)
		stays(t, w, m)
	}
}

// Also a waiter that is never the last one has so many rounds.
func TestRoundsOfOthers(t *testing.T) {
	for _, r := range asked {
		if r.has == 0 {
			continue
		}
		w := waiter(t, 0, 8, r.rounds)
		m, uses := memory(t, 0, 0)
		for i := range r.has {
			m.Store(0, 3)
			does(t, w, m, false, i+1, i)
			m.Store(1, uint32(i+1)%2)
			does(t, w, m, i == r.has-1, i+1, i+1)
		}
		has(t, m, uses+4*r.has, 4, uint32(r.has%2))
		stays(t, w, m)
	}
}

// A waiter without rounds is done with its first step, which uses no memory, whether its words exist or not.
func TestNoRounds(t *testing.T) {
	m, uses := memory(t, 0, 1, 7)
	for _, rounds := range []int{0, -1, -2, -1000, -1001, math.MinInt32, math.MinInt + 1, math.MinInt} {
		for _, at := range append(missing(3), 0, 1, 2) {
			for n := 1; n <= api.MaxCores; n++ {
				w := waiter(t, at, n, rounds)
				does(t, w, m, true, 0, 0)
				stays(t, w, m)
			}
		}
	}
	has(t, m, uses, 0, 1, 7)
}

// What each step of the last one to arrive does, round after round, among any number of waiters: it arrives, sets the number to 0, and then the sense to its own, and has passed.
func TestLastOne(t *testing.T) {
	for _, p := range places {
		for n := 1; n <= api.MaxCores; n++ {
			for rounds := 1; rounds <= len(senses); rounds++ {
				x := begin(t, p.at, n, rounds, p.size)
				for i, sense := range senses[:rounds] {
					x.set(p.at, uint32(n-1))
					x.does(t, p.at, uint32(n), false, i+1, i)
					// Who comes, and which sense there is, doesn't matter to it any more.
					x.set(p.at, 5)
					x.set(p.at+1, uint32(50+i))
					x.does(t, p.at, 0, false, i+1, i)
					x.does(t, p.at+1, sense, i == rounds-1, i+1, i+1)
				}
				stays(t, x.Waiter, x.m)
			}
			if t.Failed() {
				t.Fatalf("%+v, %d waiters", p, n)
			}
		}
	}
}

// What each step of any other one does: it arrives, and loads the sense again and again, until it is its own; with that step it has passed.
func TestOthers(t *testing.T) {
	for _, p := range places {
		for n := 2; n <= api.MaxCores; n++ {
			for others := range n - 1 {
				x := begin(t, p.at, n, len(senses), p.size)
				for i, sense := range senses {
					x.set(p.at, uint32(others))
					x.set(p.at+1, 1-sense)
					x.does(t, p.at, uint32(others+1), false, i+1, i)
					for range i * 2 {
						x.does(t, p.at+1, 1-sense, false, i+1, i)
					}
					x.set(p.at, 5)
					x.set(p.at+1, sense)
					x.does(t, p.at+1, sense, i == len(senses)-1, i+1, i+1)
				}
				stays(t, x.Waiter, x.m)
			}
			if t.Failed() {
				t.Fatalf("%+v, %d waiters", p, n)
			}
		}
	}
}

// The last one is the one behind exactly n - 1 others: neither behind fewer, nor behind more, whatever the sense is; the number wraps around.
func TestWhoIsLast(t *testing.T) {
	for n := 1; n <= api.MaxCores; n++ {
		last := uint32(n - 1)
		for _, others := range []uint32{0, 1, 2, 3, 4, 5, 6, 7, 8, 9, 15, last + 16, last + 256, last + 65536, last + 1<<31, 1<<31 - 1, 1 << 31, top - 1, top, last - 8, -last} {
			for sense := range uint32(2) {
				x := begin(t, 1, n, 2, 4)
				x.set(1, others)
				x.set(2, sense)
				x.does(t, 1, others+1, false, 1, 0)
				switch {
				case others == last:
					x.does(t, 1, 0, false, 1, 0)
					x.does(t, 2, 1, false, 1, 1)
				case sense == 0:
					x.does(t, 2, 0, false, 1, 0)
				default:
					x.does(t, 2, 1, false, 1, 1)
				}
				if t.Failed() {
					t.Fatalf("%d waiters, %d others, sense %d", n, others, sense)
				}
			}
		}
	}
}

// The number wraps around: behind the greatest one comes a waiter that finds none before it.
func TestNumberWraps(t *testing.T) {
	m, uses := memory(t, top, 0)
	a, b := waiter(t, 0, 2, 1), waiter(t, 0, 1, 1)
	does(t, a, m, false, 1, 0)
	does(t, a, m, false, 1, 0)
	has(t, m, uses+2, 0, 0)
	does(t, b, m, false, 1, 0)
	does(t, b, m, false, 1, 0)
	does(t, b, m, true, 1, 1)
	has(t, m, uses+5, 0, 1)
	does(t, a, m, true, 1, 1)
}

// A waiter checks in vain, with one use each, until the sense is its own in this round, and not another number.
func TestChecksInVain(t *testing.T) {
	for i, sense := range senses {
		x := begin(t, 2, 3, len(senses), 5)
		for j, own := range senses[:i] {
			x.set(2, 0)
			x.set(3, own)
			x.does(t, 2, 1, false, j+1, j)
			x.does(t, 3, own, false, j+1, j+1)
		}
		x.set(2, 1)
		x.does(t, 2, 2, false, i+1, i)
		for _, other := range []uint32{1 - sense, 2, 3, sense + 2, sense + 3, sense + 256, sense + 65536, sense + 1<<31, top - 1, top, 1 - sense} {
			x.set(3, other)
			for range 30 {
				x.does(t, 3, other, false, i+1, i)
			}
		}
		x.set(3, sense)
		x.does(t, 3, sense, i == len(senses)-1, i+1, i+1)
		if t.Failed() {
			t.Fatalf("round %d", i)
		}
	}
}

// A waiter may be the last one in some rounds, and not in others: each step is that of its round.
func TestLastNowAndThen(t *testing.T) {
	for mask := range 1 << len(senses) {
		x := begin(t, 0, 4, len(senses), 3)
		for i, sense := range senses {
			last := i == len(senses)-1
			if mask>>i%2 == 1 {
				x.set(0, 3)
				x.does(t, 0, 4, false, i+1, i)
				x.does(t, 0, 0, false, i+1, i)
			} else {
				x.set(0, 2)
				x.set(1, 1-sense)
				x.does(t, 0, 3, false, i+1, i)
				x.does(t, 1, 1-sense, false, i+1, i)
				x.set(1, sense)
			}
			x.does(t, 1, sense, last, i+1, i+1)
		}
		stays(t, x.Waiter, x.m)
	}
}

// The first step finds that there is no number of those that have arrived, below the memory and above it: the waiter is done, and has not arrived. That the word behind it would exist changes nothing.
func TestNoNumber(t *testing.T) {
	for _, size := range []int{1, 2, 5, api.MaxMem} {
		words := make([]uint32, size)
		for _, at := range missing(size) {
			for _, n := range []int{1, 2, api.MaxCores} {
				m, uses := memory(t, words...)
				w := waiter(t, at, n, 2)
				does(t, w, m, true, 0, 0)
				has(t, m, uses, words...)
				stays(t, w, m)
			}
		}
	}
}

// The number is the memory's last word, so that there is no sense: the last one to arrive finds that with its third step, one that waits with its second one. Neither has passed.
func TestNoSense(t *testing.T) {
	for _, size := range []int{1, 2, 5, api.MaxMem} {
		for n := 1; n <= api.MaxCores; n++ {
			x := begin(t, size-1, n, 2, size)
			x.set(size-1, uint32(n-1))
			x.does(t, size-1, uint32(n), false, 1, 0)
			x.does(t, size-1, 0, false, 1, 0)
			does(t, x.Waiter, x.m, true, 1, 0)
			has(t, x.m, x.uses, x.words...)
			stays(t, x.Waiter, x.m)

			x = begin(t, size-1, n, 2, size)
			x.set(size-1, uint32(n))
			x.does(t, size-1, uint32(n+1), false, 1, 0)
			does(t, x.Waiter, x.m, true, 1, 0)
			has(t, x.m, x.uses, x.words...)
			stays(t, x.Waiter, x.m)
		}
	}
}

// Each step of each round may be the one that finds its word missing: a memory of fewer words than the one before has come. What was done before stays done.
func TestNoWordAnyMore(t *testing.T) {
	const at, rounds = 3, 4
	for _, n := range []int{1, 2, api.MaxCores} {
		for round := range rounds {
			for _, c := range []struct{ last, steps, word int }{ // a round's steps, and the word that the next one needs
				{1, 0, at}, {1, 1, at}, {1, 2, at + 1},
				{0, 0, at}, {0, 1, at + 1}, {0, 2, at + 1}, {0, 9, at + 1},
			} {
				others := uint32(n - c.last)
				for size := 1; size <= c.word; size++ {
					x := begin(t, at, n, rounds, at+2)
					for i := range round {
						x.set(at, others)
						x.set(at+1, senses[i])
						for x.Passed() == i {
							x.Step(x.m)
						}
					}
					x.set(at, others)
					x.set(at+1, 1-senses[round])
					for range c.steps {
						x.Step(x.m)
					}
					came, uses, words := round, x.m.Count(), x.m.Words()
					if c.steps > 0 {
						came++
					}
					small, few := memory(t, slices.Repeat([]uint32{senses[round]}, size)...)
					does(t, x.Waiter, small, true, came, round)
					has(t, small, few, slices.Repeat([]uint32{senses[round]}, size)...)
					stays(t, x.Waiter, small)
					stays(t, x.Waiter, x.m)
					has(t, x.m, uses, words...)
					if t.Failed() {
						t.Fatalf("%d waiters, round %d, %+v, %d words", n, round, c, size)
					}
				}
			}
		}
	}
}

// A word that is missing is not one that is 0: neither is the number that of a waiter who is alone, nor is the sense that of the second round.
func TestMissingIsNotZero(t *testing.T) {
	m, _ := memory(t, 0)
	w := waiter(t, 1, 1, 1)
	does(t, w, m, true, 0, 0)

	m, _ = memory(t, 0, 1)
	small, _ := memory(t, 0)
	w = waiter(t, 0, 2, 2)
	does(t, w, m, false, 1, 0)
	does(t, w, m, false, 1, 1)
	does(t, w, m, false, 2, 1) // behind itself, it is the last one
	does(t, w, m, false, 2, 1)
	does(t, w, small, true, 2, 1)

	w = waiter(t, 0, 8, 2)
	m, _ = memory(t, 0, 1)
	does(t, w, m, false, 1, 0)
	does(t, w, m, false, 1, 1)
	does(t, w, m, false, 2, 1)
	does(t, w, small, true, 2, 1)
	stays(t, w, m)
}

// The chapter's first example, with what the words are behind each step.
func TestExample(t *testing.T) {
	m, uses := memory(t, 0, 0)
	w := []*barrier.Waiter{waiter(t, 0, 2, 2), waiter(t, 0, 2, 2)}
	for i, s := range []struct {
		who           int
		number, sense uint32
		came, passed  int
		last          bool
	}{
		{0, 1, 0, 1, 0, false}, // arrives
		{0, 1, 0, 1, 0, false}, // checks in vain
		{1, 2, 0, 1, 0, false}, // is the last one
		{1, 0, 0, 1, 0, false}, // stores 0
		{1, 0, 1, 1, 1, false}, // stores 1: has passed
		{0, 0, 1, 1, 1, false}, // checks: has passed, too
		{0, 1, 1, 2, 1, false},
		{0, 1, 1, 2, 1, false},
		{1, 2, 1, 2, 1, false},
		{1, 0, 1, 2, 1, false},
		{0, 0, 1, 2, 1, false},
		{1, 0, 0, 2, 2, true},
		{0, 0, 0, 2, 2, true},
	} {
		does(t, w[s.who], m, s.last, s.came, s.passed)
		has(t, m, uses+i+1, s.number, s.sense)
	}
	stays(t, w[0], m)
	stays(t, w[1], m)
}

// Waiters are tasks: a machine performs their steps, beside tasks of other kinds.
func TestTasks(t *testing.T) {
	m, uses := memory(t, 0, 0, 0)
	a, b, c := waiter(t, 0, 2, 2), waiter(t, 0, 2, 2), waiter(t, 7, 1, 1)
	x := steps.New(m, a, steps.Adds(2, 3), b, c, waiter(t, 0, 2, 0))
	if n := x.Run([]int{3, 3, 4, 0, 0, 2, 5, 1}); n != 6 || x.Left() != 3 || !x.Done(3) || !x.Done(4) {
		t.Errorf("Run = %d, %d left", n, x.Left())
	}
	shows(t, c, view{})
	shows(t, a, view{came: 1})
	shows(t, b, view{came: 1})
	has(t, m, uses+4, 2, 0, 1)
	if n := x.Run([]int{2, 2, 1, 0}); n != 4 || x.Done(0) || x.Done(2) {
		t.Errorf("Run = %d, %d left", n, x.Left())
	}
	shows(t, a, view{came: 1, passed: 1})
	shows(t, b, view{came: 1, passed: 1})
	has(t, m, uses+8, 0, 1, 2)
	// a arrives, b as the last one; a checks twice in vain, as b stores 0 and its sense; a passes.
	if n := x.Round(99); n != 4 || x.Left() != 0 {
		t.Errorf("Round = %d, %d left", n, x.Left())
	}
	has(t, m, uses+16, 0, 0, 3)
	if e := x.Pick(0); e != api.ErrStepsDone {
		t.Errorf("Pick(0) = %d", e)
	}
}

// The record: waiters as they should be, in any order, with any words

// record is what is known of a waiter, step by step.
type record struct {
	at, n, rounds int
	came, passed  int
	doing         string // what the next step does
}

// newRecord is the record of a new waiter.
func newRecord(at, n, rounds int) *record {
	r := record{at: at, n: n, rounds: rounds, doing: "arrive"}
	if rounds < 0 {
		r.rounds = 0
	}
	if rounds > 1000 {
		r.rounds = 1000
	}
	if r.rounds == 0 {
		r.doing = "nothing"
	}
	return &r
}

// step does what the next step should do; how many uses it is.
func (r *record) step(words []uint32) int {
	at := r.at
	if r.doing == "open" || r.doing == "check" {
		at++
	}
	if r.doing == "nothing" || at < 0 || at >= len(words) {
		r.doing = "nothing"
		return 0
	}
	own := []uint32{1, 0}[r.passed%2]
	switch r.doing {
	case "arrive":
		r.came++
		words[at]++
		r.doing = "check"
		if words[at] == uint32(r.n) {
			r.doing = "reset"
		}
	case "reset":
		words[at] = 0
		r.doing = "open"
	default:
		if r.doing == "open" {
			words[at] = own
		}
		if words[at] == own {
			r.passed++
			r.doing = "arrive"
			if r.passed == r.rounds {
				r.doing = "nothing"
			}
		}
	}
	return 1
}

// done is whether the waiter has no step any more, once it has had one.
func (r *record) done() bool { return r.doing == "nothing" }

// source is a row of numbers that look drawn, and are the same each time.
type source uint32

// under is the next number, below n.
func (s *source) under(n int) int {
	*s = *s*1664525 + 1013904223
	return int(*s>>8) % n
}

// Waiters whose barriers overlap, are of different sizes, or are missing, of two memories of which one is smaller, and whose words are changed by others, do what the record of the waiters tells.
func TestManySteps(t *testing.T) {
	s, ends := source(10), map[view]int{}
	for range 3000 {
		words := [2][]uint32{{0, 0, uint32(s.under(3)), 0, 0}, {0, 0, 0}}
		var m [2]*mem.Memory
		var uses [2]int
		for i := range m {
			m[i], uses[i] = memory(t, words[i]...)
		}
		var waiters []*barrier.Waiter
		var records []*record
		for range 1 + s.under(4) {
			at, n, rounds := s.under(7)-1, 1+s.under(3), s.under(6)-1
			waiters, records = append(waiters, waiter(t, at, n, rounds)), append(records, newRecord(at, n, rounds))
		}
		for range 60 {
			which := s.under(60) / 59 // the smaller one now and then
			i := s.under(len(waiters))
			r := records[i]
			uses[which] += r.step(words[which])
			does(t, waiters[i], m[which], r.done(), r.came, r.passed)
			has(t, m[which], uses[which], words[which]...)
			if s.under(30) == 0 {
				at, v := s.under(5), uint32(s.under(4))
				words[0][at] = v
				m[0].Store(at, v)
				uses[0]++
			}
			if t.Failed() {
				t.Fatalf("%+v", *r)
			}
		}
		for _, r := range records {
			if r.done() {
				ends[view{came: r.came, passed: r.passed}]++
			}
		}
	}
	// Waiters have ended behind each round that they have passed, and behind each one that they have only arrived at.
	if len(ends) != 9 {
		t.Errorf("the ends are %v", ends)
	}
}

// P11.2

// plays is what Play should do with the words: how many turns, and how many uses of the memory.
func plays(words []uint32, at, n, rounds int, picks []int) (turns, uses int) {
	left := n
	list, done := make([]*record, n), make([]bool, n)
	for i := range list {
		list[i] = newRecord(at, n, rounds)
	}
	pick := func(i int) {
		if i < 0 || i >= n || done[i] {
			return
		}
		uses += list[i].step(words)
		if list[i].done() {
			done[i] = true
			left--
		}
	}
	for _, i := range picks {
		pick(i)
	}
	for ; left > 0 && turns < 10*list[0].rounds+10; turns++ {
		for i := range n {
			pick(i)
		}
	}
	return turns, uses
}

// play checks what Play returns for a memory of some words, and what becomes of them.
func play(t *testing.T, words []uint32, at, n, rounds int, picks []int) int {
	t.Helper()
	m, before := memory(t, words...)
	want := slices.Clone(words)
	turns, uses := plays(want, at, n, rounds, picks)
	if got, e := barrier.Play(m, at, n, rounds, picks); got != turns || e != api.OK {
		t.Errorf("Play(%v, %d, %d, %d, %v) = %d, %d, not %d", words, at, n, rounds, picks, got, e, turns)
	}
	has(t, m, before+uses, want...)
	return turns
}

// How many turns it takes on a new barrier: the chapter's 9 among them. Picks below 0 and above n, and those of waiters that are done, are no steps.
func TestPlay(t *testing.T) {
	for _, c := range []struct {
		n, rounds int
		picks     []int
		want      int
	}{
		{1, 3, nil, 9},
		{1, 3, []int{}, 9},
		{1, 1, nil, 3},
		{1, 1000, nil, 3000},
		{1, 3, []int{0}, 8},
		{1, 3, []int{0, 0, 0, 0}, 5},
		{1, 3, slices.Repeat([]int{0}, 9), 0},
		{1, 3, slices.Repeat([]int{0}, 99), 0},
		{1, 3, []int{1, -1, 2, 0, math.MinInt, math.MaxInt}, 8},
		{2, 1, nil, 4},                           // 1 is the last one, and opens in the third turn; 0 checks behind that
		{2, 1, []int{1}, 3},                      // 0 is the last one, and opens in the third turn, in which 1 passes, too
		{2, 1, []int{2, 3, -1, -2, 8, 1}, 3},     // the same
		{2, 1, []int{0, 0, 0, 0, 0}, 4},          // 0 has checked in vain
		{2, 1, []int{0, 1, 1, 1}, 1},             // 0 has to check once more
		{2, 1, []int{0, 1, 1, 1, 0}, 0},          // both are done
		{2, 1, []int{0, 1, 1, 1, 1, 1, 0, 1}, 0}, // both are done
		{8, 1, nil, 4},
		{8, 1, []int{7, 6, 5, 4, 3, 2, 1}, 3},
		{8, 1, []int{8, 9, -1, 7, 6, 5, 4, 3, 2, 1}, 3},
	} {
		if got := play(t, []uint32{0, 0}, 0, c.n, c.rounds, c.picks); got != c.want {
			t.Errorf("%+v: %d", c, got)
		}
	}
}

// Play returns the error of New, whatever else it is given, and does not use the memory then.
func TestPlayNoSize(t *testing.T) {
	m, uses := memory(t, 0, 0, 5)
	for _, n := range noSizes {
		for _, at := range append(missing(3), 0, 1, 2) {
			for _, r := range asked {
				for _, picks := range [][]int{nil, {0}, {-1, 0, 9}} {
					for _, use := range []*mem.Memory{m, nil, {}} {
						if turns, e := barrier.Play(use, at, n, r.rounds, picks); turns != 0 || e != api.ErrBarrierSize {
							t.Fatalf("Play(%d, %d, %d, %v) = %d, %d", at, n, r.rounds, picks, turns, e)
						}
					}
				}
			}
		}
	}
	has(t, m, uses, 0, 0, 5)
}

// Without rounds the waiters have a step all the same: one turn, unless it was picked; the memory is not used.
func TestPlayNoRounds(t *testing.T) {
	for _, rounds := range []int{0, -1, -1000, math.MinInt32, math.MinInt} {
		for n := 1; n <= api.MaxCores; n++ {
			for _, at := range append(missing(2), 0, 1) {
				m, uses := memory(t, 0, 0)
				for _, c := range []struct {
					picks []int
					want  int
				}{{nil, 1}, {[]int{-1, n}, 1}, {[]int{n - 1, n - 1}, min(n-1, 1)}, {[]int{0, 1, 2, 3, 4, 5, 6, 7}, 0}} {
					if got, e := barrier.Play(m, at, n, rounds, c.picks); got != c.want || e != api.OK {
						t.Errorf("Play(%d, %d, %d, %v) = %d, %d", at, n, rounds, c.picks, got, e)
					}
				}
				has(t, m, uses, 0, 0)
			}
		}
	}
}

// Above MaxRounds there are MaxRounds rounds, and as many turns as for these.
func TestPlayManyRounds(t *testing.T) {
	for n := 1; n <= api.MaxCores; n++ {
		want := play(t, []uint32{0, 0}, 0, n, 1000, nil)
		for _, r := range asked {
			if got := play(t, []uint32{0, 0}, 0, n, r.rounds, nil); r.has == 1000 && got != want || r.has < 1000 && got >= want {
				t.Errorf("%d waiters, %d rounds: %d turns, not %d", n, r.rounds, got, want)
			}
		}
	}
}

// Where not all get done, Play returns the most turns that it gives them: 10 more than ten times the rounds of a waiter.
func TestPlayIsNotDone(t *testing.T) {
	for _, r := range asked {
		if r.has == 0 {
			continue
		}
		for n := 1; n <= api.MaxCores; n++ {
			want := 10*r.has + 10
			// Too many have arrived already, so that nobody is the last one.
			if got := play(t, []uint32{uint32(n), 0}, 0, n, r.rounds, nil); got != want {
				t.Errorf("%d waiters, %d rounds: %d turns, not %d", n, r.rounds, got, want)
			}
		}
	}
	// The first round's sense is there already: 0 passes it alone, and waits in the next one for ever; picks are no turns.
	if got := play(t, []uint32{1, 1}, 0, 3, 2, slices.Repeat([]int{0, 5}, 100)); got != 30 {
		t.Errorf("%d turns", got)
	}
}

// Where words do not exist, all get done: with the first turn, the second, or the third.
func TestPlayNoWord(t *testing.T) {
	for n := 1; n <= api.MaxCores; n++ {
		for _, at := range missing(4) {
			if got := play(t, []uint32{0, 0, 0, 0}, at, n, 9, nil); got != 1 {
				t.Errorf("%d turns", got)
			}
			if got := play(t, []uint32{0, 0, 0, 0}, at, n, 9, []int{0}); got != min(n-1, 1) {
				t.Errorf("%d turns", got)
			}
		}
		if got := play(t, []uint32{0, 0, 0, 0}, 3, n, 9, nil); got != 3 {
			t.Errorf("%d turns", got)
		}
		if got := play(t, []uint32{0, 0, 0, 50}, 3, n, 9, nil); got != 2 {
			t.Errorf("%d turns", got)
		}
	}
}

// Any picks, words and places: Play does what the record of the waiters tells.
func TestPlayMany(t *testing.T) {
	s, all := source(11), map[bool]int{}
	for range 2000 {
		words := make([]uint32, 2+s.under(4))
		at := s.under(len(words)+1) - s.under(2)
		if s.under(3) == 0 {
			words[s.under(len(words))] = uint32(s.under(4))
		}
		n, rounds := 1+s.under(8), s.under(13)-1
		var picks []int
		for range s.under(200) {
			picks = append(picks, s.under(n+2)-1)
		}
		all[play(t, words, at, n, rounds, picks) < 10*max(rounds, 0)+10]++
		if t.Failed() {
			t.FailNow()
		}
	}
	if len(all) != 2 {
		t.Errorf("all get done: %v", all)
	}
}

// Play's waiters are new ones each time: in a memory that an even number of rounds was played in, it is as in a new one; behind an odd number the sense is that of the first round already.
func TestPlayAgain(t *testing.T) {
	m, uses := memory(t, 0, 0)
	for i := range 10 {
		if n, e := barrier.Play(m, 0, 1, 2, nil); n != 6 || e != api.OK {
			t.Errorf("%d turns, %d", n, e)
		}
		has(t, m, uses+6*(i+1), 0, 0)
	}
	if n, e := barrier.Play(m, 0, 2, 1, nil); n != 4 || e != api.OK {
		t.Errorf("%d turns, %d", n, e)
	}
	has(t, m, uses+67, 0, 1)
	// 0 passes in the second turn, without waiting for 1.
	if n, e := barrier.Play(m, 0, 2, 1, nil); n != 3 || e != api.OK {
		t.Errorf("%d turns, %d", n, e)
	}
	has(t, m, uses+72, 0, 1)
}

// Play changes neither the picks nor what is behind them, be it with an error or without.
func TestPicksStay(t *testing.T) {
	under := []int{1, 0, -1, 2, 0, 77, 78, 79}
	want := slices.Clone(under)
	for _, picks := range [][]int{under[:0], under[:3], under[:5], under[2:6]} {
		for n := range 10 {
			m, _ := memory(t, 0, 0)
			barrier.Play(m, 0, n, 3, picks)
			if !slices.Equal(under, want) {
				t.Errorf("the picks are %v, not %v", under, want)
			}
		}
	}
}

// P11.3

// crew is the waiters of one new barrier, in a machine, and what is seen of them.
type crew struct {
	*steps.Machine
	memory  *mem.Memory
	waiters []*barrier.Waiter
	vain    []int // how often each one has checked in vain
	picks   int
}

// gather is a crew whose waiters have so many rounds each.
func gather(t *testing.T, rounds []int) *crew {
	t.Helper()
	m, _ := memory(t, 77, 0, 0, 77)
	c := &crew{memory: m, vain: make([]int, len(rounds))}
	var list []steps.Task
	for _, n := range rounds {
		w := waiter(t, 1, len(rounds), n)
		c.waiters, list = append(c.waiters, w), append(list, w)
	}
	c.Machine = steps.New(m, list...)
	return c
}

// pick performs a step of a waiter, notes whether it was in vain, and checks that nobody runs ahead.
func (c *crew) pick(t *testing.T, i int) {
	t.Helper()
	// Far more than are needed: waiters that never end must not be picked for ever.
	if c.picks++; c.picks > 200000 {
		t.Fatalf("%d of %d waiters are not done", c.Left(), len(c.waiters))
	}
	was, words := look(c.waiters[i]), c.memory.Words()
	c.Pick(i)
	if look(c.waiters[i]) == was && slices.Equal(c.memory.Words(), words) {
		c.vain[i]++
	}
	c.together(t)
}

// together checks that all have arrived at each round that one has passed, and that no two are more than one round apart.
func (c *crew) together(t *testing.T) {
	t.Helper()
	first, last := look(c.waiters[0]), look(c.waiters[0])
	for _, w := range c.waiters {
		is := look(w)
		first = view{came: max(first.came, is.came), passed: max(first.passed, is.passed)}
		last = view{came: min(last.came, is.came), passed: min(last.passed, is.passed)}
		if is.came != is.passed && is.came != is.passed+1 {
			t.Errorf("a waiter is %+v", is)
		}
	}
	if last.came < first.passed {
		t.Errorf("one has passed %d rounds, and one has arrived at %d", first.passed, last.came)
	}
	if first.passed > last.passed+1 || first.came > last.came+1 {
		t.Errorf("the first one is %+v, the last one %+v", first, last)
	}
}

// ended checks a crew all of whose waiters are done: each has passed all rounds.
func (c *crew) ended(t *testing.T, rounds int) {
	t.Helper()
	for i, w := range c.waiters {
		if look(w) != (view{came: rounds, passed: rounds}) || !c.Done(i) {
			t.Errorf("waiter %d is %+v, done: %t", i, look(w), c.Done(i))
		}
	}
	has(t, c.memory, c.memory.Count(), 77, 0, uint32(rounds%2), 77)
}

// orders plays each order of the steps of some waiters, each of which checks in vain at most some times; how many there are. The list is how an order begins.
func orders(t *testing.T, rounds []int, most int, list []int) int {
	t.Helper()
	c := gather(t, rounds)
	for _, i := range list {
		c.pick(t, i)
	}
	count := 0
	if c.Left() == 0 {
		c.ended(t, rounds[0])
		count = 1
	}
	if t.Failed() {
		t.Fatalf("%v rounds, picked %v", rounds, list)
	}
	if slices.Max(c.vain) > most {
		return 0
	}
	for i := range rounds {
		if !c.Done(i) {
			count += orders(t, rounds, most, append(slices.Clone(list), i))
		}
	}
	return count
}

// Small sets of waiters, in each order: nobody passes a round at which not all have arrived, no two are more than one round apart, and all pass all rounds. Also when each may check in vain some times.
func TestAllOrders(t *testing.T) {
	for _, c := range []struct{ n, rounds, most, want int }{
		{1, 5, 9, 1},
		{2, 1, 0, 2},  // either is the last one
		{2, 1, 1, 8},  // and the other one checks in vain not at all, or at one of three places
		{2, 1, 2, 20}, // or twice
		{2, 2, 0, 6},  // the first to pass arrives before the other one passes, before that one arrives, or behind it
		{2, 3, 0, 18},
		{2, 4, 0, 54},
		{3, 1, 0, 12}, // any order to arrive, and any order of the other two to pass
		{4, 1, 0, 144},
		{2, 2, 2, 0},
		{2, 3, 1, 0},
		{3, 1, 2, 0},
		{3, 2, 0, 0},
		{3, 3, 0, 0},
		{4, 1, 1, 0},
	} {
		n := orders(t, slices.Repeat([]int{c.rounds}, c.n), c.most, nil)
		if n < 1 || c.want > 0 && n != c.want {
			t.Errorf("%+v: %d orders", c, n)
		}
	}
}

// More waiters, with more rounds, in many orders: picked evenly, or each one several times in a row.
func TestManyOrders(t *testing.T) {
	s, vain := source(9), 0
	for range 300 {
		n, rounds := 1+s.under(api.MaxCores), 1+s.under(20)
		c := gather(t, slices.Repeat([]int{rounds}, n))
		for most := 1 + s.under(20); c.Left() > 0; {
			i := s.under(n)
			for range 1 + s.under(most) {
				c.pick(t, i)
			}
			if t.Failed() {
				t.FailNow()
			}
		}
		c.ended(t, rounds)
		for _, v := range c.vain {
			vain += v
		}
	}
	if vain == 0 {
		t.Errorf("no waiter has waited")
	}
}

// One is picked as long as it is not in vain, and only then another one: however far ahead it would get.
func TestAsFarAsItGets(t *testing.T) {
	for n := 1; n <= api.MaxCores; n++ {
		c := gather(t, slices.Repeat([]int{30}, n))
		for i := 0; c.Left() > 0; i = (i + n - 1) % n {
			for vain := c.vain[i]; !c.Done(i) && c.vain[i] == vain; {
				c.pick(t, i)
			}
		}
		c.ended(t, 30)
	}
}

// Waiters of different numbers of rounds stay together as well: those that have more wait for ever, behind the last round of one that has fewer.
func TestDifferentRounds(t *testing.T) {
	s := source(13)
	for range 300 {
		var rounds []int
		for range 2 + s.under(7) {
			rounds = append(rounds, s.under(5))
		}
		c, fewest := gather(t, rounds), slices.Min(rounds)
		for range 1000 {
			c.pick(t, s.under(len(rounds)))
		}
		for i, w := range c.waiters {
			want := view{came: min(rounds[i], fewest+1), passed: fewest}
			if look(w) != want || c.Done(i) != (rounds[i] == fewest) {
				t.Fatalf("%v rounds: waiter %d is %+v, not %+v", rounds, i, look(w), want)
			}
		}
	}
}

// Picked in turn, all pass all rounds.
func TestInTurn(t *testing.T) {
	for n := 1; n <= api.MaxCores; n++ {
		for _, rounds := range []int{1, 2, 3, 50, api.MaxRounds} {
			c := gather(t, slices.Repeat([]int{rounds}, n))
			for c.Left() > 0 {
				for i := range n {
					c.pick(t, i)
				}
			}
			c.ended(t, rounds)
		}
	}
}

// Waiters of two barriers in one memory, side by side, do not wait for each other.
func TestSideBySide(t *testing.T) {
	m, uses := memory(t, 0, 0, 0, 0)
	a, b, c := waiter(t, 0, 1, 2), waiter(t, 2, 2, 1), waiter(t, 2, 2, 1)
	x := steps.New(m, a, b, c)
	if n := x.Run([]int{1, 0, 1, 0, 1, 0, 0, 1, 0, 0}); n != 10 || !x.Done(0) || x.Left() != 2 {
		t.Errorf("Run = %d, %d left", n, x.Left())
	}
	has(t, m, uses+10, 0, 0, 1, 0)
	if n := x.Round(9); n != 4 || x.Left() != 0 {
		t.Errorf("Round = %d, %d left", n, x.Left())
	}
	has(t, m, uses+17, 0, 0, 0, 1)
}

// P1 and the rules

// Any call with any arguments returns; no memory, and one that is not made by its package, have no words.
func TestAnyArguments(t *testing.T) {
	numbers := append(missing(3), 0, 1, 2, 8, 9)
	m, _ := memory(t, 0, 0, 0)
	for _, at := range numbers {
		for _, n := range numbers {
			for _, rounds := range numbers {
				for _, none := range []*mem.Memory{nil, {}} {
					want, fault := min(n, 1), api.OK
					if n < 1 || n > 8 {
						want, fault = 0, api.ErrBarrierSize
					}
					if turns, e := barrier.Play(none, at, n, rounds, numbers[:2]); turns != want || e != fault {
						t.Fatalf("Play(%d, %d, %d) = %d, %d", at, n, rounds, turns, e)
					}
					if w, e := barrier.New(at, n, rounds); e == api.OK {
						does(t, w, none, true, 0, 0)
						stays(t, w, m)
						does(t, w, none, true, 0, 0)
					}
				}
			}
		}
	}
	for step := range 9 {
		m, _ := memory(t, 0, 0)
		w := waiter(t, 0, 1, 9)
		for range step {
			w.Step(m)
		}
		is := look(w)
		does(t, w, nil, true, is.came, is.passed)
		stays(t, w, m)
	}
}

// Waiters have nothing in common but the memory.
func TestApart(t *testing.T) {
	m, _ := memory(t, 0, 0)
	n, uses := memory(t, 0, 0)
	a, b, c := waiter(t, 0, 2, 3), waiter(t, 0, 2, 3), waiter(t, 0, 2, 3)
	does(t, a, m, false, 1, 0)
	shows(t, b, view{})
	has(t, n, uses, 0, 0)
	does(t, c, n, false, 1, 0)
	does(t, c, n, false, 1, 0)
	has(t, n, uses+2, 1, 0)
	does(t, b, m, false, 1, 0)
	does(t, b, m, false, 1, 0)
	does(t, b, m, false, 1, 1)
	shows(t, a, view{came: 1})
	shows(t, c, view{came: 1})
	has(t, n, uses+2, 1, 0)
	does(t, c, n, false, 1, 0)
	does(t, a, m, false, 1, 1)
}

// The results depend on nothing but the calls: the same ones again have the same results.
func TestAgain(t *testing.T) {
	run := func() []view {
		s := source(11)
		m, _ := memory(t, 0, 0, 0)
		l := []*barrier.Waiter{waiter(t, 0, 2, 9), waiter(t, 0, 2, 9), waiter(t, 1, 2, 9), waiter(t, 1, 1, 9), waiter(t, 2, 1, 9)}
		var seen []view
		for range 200 {
			w := l[s.under(len(l))]
			w.Step(m)
			seen = append(seen, look(w))
		}
		return seen
	}
	want := run()
	for range 3 {
		if got := run(); !slices.Equal(got, want) {
			t.Errorf("%v, not %v", got, want)
		}
	}
}
