package ticket_test

import (
	"math"
	"slices"
	"testing"

	"purlin/api"
	"purlin/mem"
	"purlin/steps"
	"purlin/ticket"
)

const top = math.MaxUint32 // the greatest word: 0 follows

// starts is numbers that the words of a lock have at first.
var starts = []uint32{0, 1, 7, 1<<31 - 1, 1 << 31, top - 1, top}

// missing is numbers of no word, in a memory of n words: below and above.
func missing(n int) []int {
	return []int{
		-1, -2, -n, -n - 1, -65536, math.MinInt32, -1 << 32, math.MinInt + 1, math.MinInt,
		n, n + 1, 2*n + 1, 65536 + n, 1 << 31, 1 << 32, 1<<32 + n, math.MaxInt32, math.MaxInt - 1, math.MaxInt,
	}
}

// memory is a memory of some words, and how often it has been used so far.
func memory(t *testing.T, words ...uint32) (*mem.Memory, int) {
	t.Helper()
	m, e := mem.New(len(words))
	if e != api.OK {
		t.Fatalf("New(%d) = %d", len(words), e)
	}
	for at, v := range words {
		m.Store(at, v)
	}
	return m, m.Count()
}

// has checks all words of a memory, and how often it was used.
func has(t *testing.T, m *mem.Memory, uses int, want ...uint32) {
	t.Helper()
	if got := m.Words(); !slices.Equal(got, want) {
		t.Errorf("the words are %v, not %v", got, want)
	}
	if n := m.Count(); n != uses {
		t.Errorf("the memory was used %d times, not %d", n, uses)
	}
}

// view is what a taker tells of itself.
type view struct {
	ticket       uint32
	left         int
	waits, holds bool
}

// look is what a taker tells.
func look(k *ticket.Taker) view {
	return view{ticket: k.Ticket(), left: k.Left(), waits: k.Waits(), holds: k.Holds()}
}

// shows checks what a taker tells, also when it is asked again.
func shows(t *testing.T, k *ticket.Taker, want view) {
	t.Helper()
	for range 2 {
		if got := look(k); got != want {
			t.Errorf("the taker is %+v, not %+v", got, want)
		}
	}
}

// does checks what a step returns.
func does(t *testing.T, k *ticket.Taker, m *mem.Memory, want bool) {
	t.Helper()
	if done := k.Step(m); done != want {
		t.Errorf("Step = %t", done)
	}
}

// goes performs some steps, none of which is the last one.
func goes(t *testing.T, k *ticket.Taker, m *mem.Memory, n int) {
	t.Helper()
	for range n {
		does(t, k, m, false)
	}
}

// stays checks that a taker that is done reports this again, and neither changes nor uses a memory, behind its last step.
func stays(t *testing.T, k *ticket.Taker, m *mem.Memory) {
	t.Helper()
	was, uses, words := look(k), m.Count(), m.Words()
	for range 7 {
		does(t, k, m, true)
		shows(t, k, was)
		has(t, m, uses, words...)
	}
}

// P9.1 and P9.2

// A new taker has drawn no ticket, and neither waits nor holds; it is to take the lock as often as it was told, or not at all.
func TestNew(t *testing.T) {
	for _, c := range []struct{ times, left int }{
		{math.MinInt, 0}, {math.MinInt32, 0}, {-2, 0}, {-1, 0}, {0, 0}, {1, 1}, {2, 2}, {3, 3}, {1000, 1000}, {math.MaxInt32, math.MaxInt32}, {math.MaxInt, math.MaxInt},
	} {
		for _, at := range []int{0, 1, -1, math.MaxInt} {
			shows(t, ticket.New(at, 2, c.times), view{left: c.left})
			shows(t, ticket.New(5, at, c.times), view{left: c.left})
		}
	}
}

// place is where a lock and a cell are, in a memory of so many words.
type place struct{ at, cell, words int }

// places is locks at the memory's edges and within, with cells on each side.
var places = []place{{0, 2, 3}, {1, 0, 3}, {0, 7, 8}, {3, 1, 8}, {3, 5, 8}, {6, 0, 8}, {6, 5, 8}, {api.MaxMem - 2, 0, api.MaxMem}, {0, api.MaxMem - 1, api.MaxMem}}

// What each of the five steps does, the first time and the next ones: its use, the words, and what the taker tells then.
func TestFiveSteps(t *testing.T) {
	for _, p := range places {
		for i, first := range starts {
			for times := 1; times <= 3; times++ {
				words := make([]uint32, p.words)
				for at := range words {
					words[at] = uint32(1000 + at)
				}
				words[p.at], words[p.at+1], words[p.cell] = first, first, starts[len(starts)-1-i]
				m, uses := memory(t, words...)
				k, is := ticket.New(p.at, p.cell, times), view{left: times}
				step := func(at int, v uint32, last bool) {
					t.Helper()
					does(t, k, m, last)
					words[at] = v
					uses++
					has(t, m, uses, words...)
					shows(t, k, is)
				}
				for n := range uint32(times) {
					is.ticket, is.waits = first+n, true
					step(p.at, first+n+1, false)
					is.waits, is.holds = false, true
					step(p.at+1, first+n, false)
					step(p.cell, words[p.cell], false)
					step(p.cell, words[p.cell]+1, false)
					is.holds, is.left = false, times-int(n)-1
					step(p.at+1, first+n+1, is.left == 0)
				}
				stays(t, k, m)
			}
		}
	}
}

// A taker without any times is done with its first step, which uses no memory, whether its words exist or not.
func TestNoTimes(t *testing.T) {
	m, uses := memory(t, 5, 5, 9)
	for _, times := range []int{0, -1, -2, -1000, math.MinInt32, math.MinInt + 1, math.MinInt} {
		for _, at := range append(missing(3), 0, 1, 2) {
			for _, k := range []*ticket.Taker{ticket.New(0, at, times), ticket.New(at, 2, times)} {
				shows(t, k, view{})
				does(t, k, m, true)
				shows(t, k, view{})
				stays(t, k, m)
			}
		}
	}
	has(t, m, uses, 5, 5, 9)
}

// The step that finds that a word does not exist is the last one: the taker then neither waits nor holds, and its ticket and its times are what they were. In one memory that is step 1, 2 or 3.
func TestNoWord(t *testing.T) {
	type fault struct {
		place
		step int // that finds it
	}
	list := []fault{{place{0, 0, 1}, 2}, {place{3, 0, 4}, 2}, {place{api.MaxMem - 1, 0, api.MaxMem}, 2}, {place{3, -1, 4}, 2}, {place{3, 4, 4}, 2}}
	for _, n := range []int{1, 2, 4, api.MaxMem} {
		for _, none := range missing(n) {
			list = append(list, fault{place{none, 0, n}, 1}, fault{place{none, none, n}, 1})
			if n > 1 {
				list = append(list, fault{place{0, none, n}, 3}, fault{place{n - 2, none, n}, 3})
			}
		}
	}
	for _, f := range list {
		m, uses := memory(t, slices.Repeat([]uint32{4}, f.words)...)
		k, is, words := ticket.New(f.at, f.cell, 2), view{left: 2}, m.Words()
		if f.step > 1 {
			is.ticket, words[f.at] = 4, 5
		}
		goes(t, k, m, f.step-1)
		does(t, k, m, true)
		shows(t, k, is)
		has(t, m, uses+f.step-1, words...)
		stays(t, k, m)
		if t.Failed() {
			t.Fatalf("%+v", f)
		}
	}
}

// Each step, of the first time and of the next ones, may be the one that finds that its word is missing: a memory of fewer words than the one before has come.
func TestNoWordAnyMore(t *testing.T) {
	for _, c := range []struct {
		place
		steps []int // that need a word of those that are missing in a memory of so many words
	}{
		{place{6, 0, 6}, []int{1, 2, 5}},
		{place{6, 0, 7}, []int{2, 5}},
		{place{6, 7, 7}, []int{2, 3, 4, 5}},
		{place{0, 7, 7}, []int{3, 4}},
		{place{6, 5, 1}, []int{1, 2, 3, 4, 5}},
	} {
		for _, step := range c.steps {
			for n := range 3 {
				m, uses := memory(t, 9, 9, 9, 9, 9, 9, 9, 9)
				small, few := memory(t, slices.Repeat([]uint32{9}, c.words)...)
				k := ticket.New(c.at, c.cell, 3)
				goes(t, k, m, 5*n+step-1)
				is, words := look(k), m.Words()
				does(t, k, small, true)
				if want := (view{ticket: is.ticket, left: 3 - n}); look(k) != want || is.left != want.left {
					t.Errorf("%+v, step %d of time %d: %+v behind %+v", c, step, n, look(k), is)
				}
				has(t, small, few, slices.Repeat([]uint32{9}, c.words)...)
				stays(t, k, small)
				has(t, m, uses+5*n+step-1, words...)
				stays(t, k, m)
			}
		}
	}
}

// The steps of the small memory, where it has the word, are steps like all others.
func TestTwoMemories(t *testing.T) {
	m, uses := memory(t, 3, 3, 0, 50)
	n, few := memory(t, 8, 3, 7)
	k := ticket.New(0, 2, 1)
	does(t, k, n, false)
	has(t, n, few+1, 9, 3, 7)
	shows(t, k, view{ticket: 8, left: 1, waits: true})
	does(t, k, m, false)
	shows(t, k, view{ticket: 8, left: 1, waits: true})
	m.Store(1, 8)
	does(t, k, m, false)
	shows(t, k, view{ticket: 8, left: 1, holds: true})
	does(t, k, n, false)
	does(t, k, m, false)
	has(t, m, uses+4, 3, 8, 8, 50)
	does(t, k, n, true)
	has(t, n, few+3, 9, 9, 7)
	shows(t, k, view{ticket: 8})
}

// A taker that does not find its cell has never released the lock: others wait from then on.
func TestLockIsNotReleased(t *testing.T) {
	m, uses := memory(t, top, top)
	a, b := ticket.New(0, 2, 4), ticket.New(0, 1, 1)
	goes(t, a, m, 2)
	shows(t, a, view{ticket: top, left: 4, holds: true})
	does(t, a, m, true)
	shows(t, a, view{ticket: top, left: 4})
	goes(t, b, m, 50)
	shows(t, b, view{left: 1, waits: true})
	has(t, m, uses+52, 1, top)
}

// A taker that is not served checks again each time, with one use each; nothing else is served than its own ticket, neither one before it nor one behind it.
func TestWaits(t *testing.T) {
	for _, first := range starts {
		for _, other := range []uint32{1, 2, 1 << 31, top - 1, top} {
			m, uses := memory(t, first, first+other, 5)
			k := ticket.New(0, 2, 1)
			does(t, k, m, false)
			for n := range 20 {
				does(t, k, m, false)
				shows(t, k, view{ticket: first, left: 1, waits: true})
				has(t, m, uses+2+n, first+1, first+other, 5)
			}
			m.Store(1, first)
			does(t, k, m, false)
			shows(t, k, view{ticket: first, left: 1, holds: true})
			// Once it holds the lock, it checks no more.
			m.Store(1, first+other)
			goes(t, k, m, 2)
			shows(t, k, view{ticket: first, left: 1, holds: true})
			has(t, m, uses+26, first+1, first+other, 6)
			does(t, k, m, true)
			has(t, m, uses+27, first+1, first+1, 6)
		}
	}
}

// Takers wait while another one holds the lock, through all its steps, and the next one goes on when that one has released it.
func TestWaitsForAnother(t *testing.T) {
	for _, first := range starts {
		m, _ := memory(t, first, first, 0)
		a, b, c := ticket.New(0, 2, 2), ticket.New(0, 2, 1), ticket.New(0, 2, 1)
		wait := func(left int, l ...*ticket.Taker) {
			t.Helper()
			for i, k := range l {
				goes(t, k, m, 3)
				shows(t, k, view{ticket: first + uint32(3-left+i), left: 1, waits: true})
			}
		}
		goes(t, a, m, 1)
		goes(t, b, m, 1)
		goes(t, c, m, 1)
		wait(2, b, c)
		for range 4 {
			does(t, a, m, false)
			if a.Holds() {
				wait(2, b, c)
			}
		}
		shows(t, a, view{ticket: first, left: 1})
		does(t, a, m, false) // behind b and c now
		shows(t, a, view{ticket: first + 3, left: 1, waits: true})
		for range 3 {
			does(t, c, m, false)
			does(t, a, m, false)
			does(t, b, m, false)
			shows(t, b, view{ticket: first + 1, left: 1, holds: true})
			wait(1, c)
		}
		does(t, b, m, true)
		goes(t, a, m, 1)
		goes(t, c, m, 3)
		goes(t, a, m, 1)
		does(t, c, m, true)
		goes(t, a, m, 3)
		does(t, a, m, true)
		if got, want := m.Words(), []uint32{first + 4, first + 4, 4}; !slices.Equal(got, want) {
			t.Errorf("the words are %v, not %v", got, want)
		}
	}
}

// Left counts what is released, and so goes down with each fifth step that does not wait; also from the greatest number of times on.
func TestLeft(t *testing.T) {
	for _, times := range []int{1, 2, 5, 300, math.MaxInt32 + 1, math.MaxInt} {
		m, _ := memory(t, 0, 0, 0)
		k := ticket.New(0, 2, times)
		for n := range min(times, 300) {
			for step := range 5 {
				if k.Left() != times-n {
					t.Errorf("step %d of time %d: Left() = %d of %d", step, n, k.Left(), times)
				}
				does(t, k, m, n == times-1 && step == 4)
			}
		}
		shows(t, k, view{ticket: uint32(min(times, 300) - 1), left: max(times-300, 0)})
	}
}

// A cell may be one of the lock's words: the steps are what they are.
func TestCellOfTheLock(t *testing.T) {
	for _, first := range starts {
		// The next ticket: it is drawn, and raised again.
		m, uses := memory(t, first, first)
		k := ticket.New(0, 0, 2)
		goes(t, k, m, 3)
		has(t, m, uses+3, first+1, first)
		does(t, k, m, false)
		has(t, m, uses+4, first+2, first)
		does(t, k, m, false)
		has(t, m, uses+5, first+2, first+1)
		goes(t, k, m, 30)
		shows(t, k, view{ticket: first + 2, left: 1, waits: true})
		has(t, m, uses+35, first+3, first+1)

		// The ticket being served: it is raised, and set to the same again.
		m, uses = memory(t, first, first)
		k = ticket.New(0, 1, 2)
		goes(t, k, m, 3)
		has(t, m, uses+3, first+1, first)
		does(t, k, m, false)
		has(t, m, uses+4, first+1, first+1)
		does(t, k, m, false)
		has(t, m, uses+5, first+1, first+1)
		goes(t, k, m, 4)
		does(t, k, m, true)
		has(t, m, uses+10, first+2, first+2)
	}
}

// The taker that holds the lock raises the ticket being served, which is its cell: the next one is served already.
func TestCellIsServed(t *testing.T) {
	m, uses := memory(t, 0, 0)
	a, b := ticket.New(0, 1, 1), ticket.New(0, 1, 1)
	goes(t, a, m, 1)
	goes(t, b, m, 2)
	goes(t, a, m, 3)
	shows(t, b, view{ticket: 1, left: 1, waits: true})
	does(t, b, m, false)
	shows(t, b, view{ticket: 1, left: 1, holds: true})
	shows(t, a, view{left: 1, holds: true})
	has(t, m, uses+7, 2, 1)
}

// Two locks and two cells in one memory, side by side: a taker uses only its own.
func TestLocksSideBySide(t *testing.T) {
	m, uses := memory(t, 10, 10, 20, 20, 0, 0)
	a, b := ticket.New(0, 4, 1), ticket.New(2, 5, 1)
	for range 4 {
		does(t, a, m, false)
		does(t, b, m, false)
	}
	shows(t, a, view{ticket: 10, left: 1, holds: true})
	shows(t, b, view{ticket: 20, left: 1, holds: true})
	does(t, b, m, true)
	does(t, a, m, true)
	has(t, m, uses+10, 11, 11, 21, 21, 1, 1)
}

// The chapter's example, and the fourth one of the whole.
func TestExamples(t *testing.T) {
	m, uses := memory(t, 0, 0, 0)
	a, b := ticket.New(0, 2, 1), ticket.New(0, 2, 1)
	does(t, a, m, false)
	shows(t, a, view{ticket: 0, left: 1, waits: true})
	does(t, b, m, false)
	shows(t, b, view{ticket: 1, left: 1, waits: true})
	does(t, b, m, false)
	shows(t, b, view{ticket: 1, left: 1, waits: true})
	does(t, a, m, false)
	shows(t, a, view{ticket: 0, left: 1, holds: true})
	goes(t, a, m, 2)
	does(t, a, m, true)
	shows(t, a, view{})
	has(t, m, uses+7, 2, 1, 1)
	does(t, b, m, false)
	shows(t, b, view{ticket: 1, left: 1, holds: true})
	goes(t, b, m, 2)
	does(t, b, m, true)
	shows(t, b, view{ticket: 1})
	has(t, m, uses+11, 2, 2, 2)
}

// Takers are tasks: a machine performs their steps, beside tasks of other kinds.
func TestTasks(t *testing.T) {
	m, uses := memory(t, top, top, 0, 0)
	a, b := ticket.New(0, 2, 1), ticket.New(0, 2, 2)
	x := steps.New(m, a, steps.Adds(3, 4), b, ticket.New(0, 2, 0), ticket.New(3, 4, 1))
	if n := x.Run([]int{2, 0, 0, 3, 3, 2, 5}); n != 5 || !x.Done(3) || x.Left() != 4 {
		t.Errorf("Run = %d, %d left", n, x.Left())
	}
	shows(t, a, view{ticket: 0, left: 1, waits: true})
	shows(t, b, view{ticket: top, left: 2, holds: true})
	has(t, m, uses+4, 1, top, 0, 0)
	if n := x.Run([]int{4, 4, 2, 2, 4, 1}); n != 5 || !x.Done(4) || x.Left() != 3 {
		t.Errorf("Run = %d, %d left", n, x.Left())
	}
	has(t, m, uses+8, 1, top, 1, 2)
	if n := x.Round(1); n != 1 || x.Done(0) || x.Done(2) {
		t.Errorf("Round = %d", n)
	}
	shows(t, b, view{ticket: top, left: 1})
	if n := x.Round(99); n != 7 || x.Left() != 0 {
		t.Errorf("Round = %d, %d left", n, x.Left())
	}
	has(t, m, uses+24, 2, 2, 3, 5)
	if e := x.Pick(0); e != api.ErrStepsDone {
		t.Errorf("Pick(0) = %d", e)
	}
}

// P9.3

// crew is takers of one lock, in a machine, and what is seen of them.
type crew struct {
	*steps.Machine
	memory *mem.Memory
	takers []*ticket.Taker
	drawn  []int    // who has drawn, in order
	held   []int    // who has held the lock, in order
	shown  []uint32 // with which tickets
	vain   []int    // how often each one has checked in vain
	picks  int
}

// gather is a crew that takes a lock at words that are both the same at first, and whose cell is a greater number.
func gather(t *testing.T, first uint32, times []int) *crew {
	t.Helper()
	m, _ := memory(t, 77, first, first, first+100, 77)
	c := &crew{memory: m, vain: make([]int, len(times))}
	var list []steps.Task
	for _, n := range times {
		k := ticket.New(1, 3, n)
		c.takers, list = append(c.takers, k), append(list, k)
	}
	c.Machine = steps.New(m, list...)
	return c
}

// pick performs a step of a taker, notes what has come of it, and checks that at most one taker holds the lock.
func (c *crew) pick(t *testing.T, i int) {
	t.Helper()
	// Far more than are needed: takers that never end must not be picked for ever.
	if c.picks++; c.picks > 20000 {
		t.Fatalf("%d of %d takers are not done", c.Left(), len(c.takers))
	}
	k := c.takers[i]
	was := look(k)
	c.Pick(i)
	is := look(k)
	switch {
	case is.waits && was.waits:
		c.vain[i]++
	case is.waits:
		c.drawn = append(c.drawn, i)
	case is.holds && !was.holds:
		c.held, c.shown = append(c.held, i), append(c.shown, k.Ticket())
	}
	holders := 0
	for _, k := range c.takers {
		if k.Holds() {
			holders++
		}
		if k.Holds() && k.Waits() {
			t.Errorf("a taker both waits and holds")
		}
	}
	if holders > 1 {
		t.Fatalf("%d takers hold the lock", holders)
	}
}

// ended checks a crew all of whose takers are done: no increment is lost, the lock is free, and it was held in the order of the tickets, which is that of the draws.
func (c *crew) ended(t *testing.T, first uint32, times []int) {
	t.Helper()
	sum, want := uint32(0), []uint32(nil)
	for _, n := range times {
		for range n {
			want = append(want, first+sum)
			sum++
		}
	}
	if !slices.Equal(c.shown, want) || !slices.Equal(c.drawn, c.held) {
		t.Errorf("%v have drawn, %v have held %v", c.drawn, c.held, c.shown)
	}
	if got, want := c.memory.Words(), []uint32{77, first + sum, first + sum, first + 100 + sum, 77}; !slices.Equal(got, want) {
		t.Errorf("the words are %v, not %v", got, want)
	}
	for i, k := range c.takers {
		if k.Left() != 0 || k.Holds() || k.Waits() || !c.Done(i) {
			t.Errorf("taker %d is %+v", i, look(k))
		}
	}
}

// orders plays each order of the steps of some takers, each of which checks in vain at most some times; how many there are. The list is how an order begins.
func orders(t *testing.T, first uint32, times []int, most int, list []int) int {
	t.Helper()
	c := gather(t, first, times)
	for _, i := range list {
		c.pick(t, i)
	}
	count := 0
	if c.Left() == 0 {
		c.ended(t, first, times)
		count = 1
	}
	if t.Failed() {
		t.Fatalf("%v from %d on, picked %v", times, first, list)
	}
	if slices.Max(c.vain) > most {
		return 0
	}
	for i := range times {
		if !c.Done(i) {
			count += orders(t, first, times, most, append(slices.Clone(list), i))
		}
	}
	return count
}

// Small sets of takers, in each order: at most one holds the lock at a time, in the order of the tickets, and no increment is lost. Also when each may check in vain some times, and across the wrap-around.
func TestAllOrders(t *testing.T) {
	for _, c := range []struct {
		times      []int
		most, want int
	}{
		{[]int{1}, 0, 1},
		{[]int{3}, 9, 1},
		{[]int{1, 0}, 0, 6},
		{[]int{1, 1}, 0, 10},
		{[]int{1, 1}, 1, 30},
		{[]int{1, 1}, 3, 140},
		{[]int{1, 2}, 1, 0},
		{[]int{2, 2}, 0, 0},
		{[]int{1, 1, 1}, 0, 210},
		{[]int{1, 1, 1}, 1, 0},
	} {
		for _, first := range []uint32{0, 3, top, top - 1, 1<<31 - 1} {
			if n := orders(t, first, c.times, c.most, nil); n < 1 || c.want > 0 && n != c.want {
				t.Fatalf("%v, at most %d in vain: %d orders, not %d", c.times, c.most, n, c.want)
			}
		}
	}
}

// source is a row of numbers that look drawn, and are the same each time.
type source uint32

// under is the next number, below n.
func (s *source) under(n int) int {
	*s = *s*1664525 + 1013904223
	return int(*s>>8) % n
}

// More takers, with more times, in many orders: picked evenly, or each one several times in a row.
func TestManyOrders(t *testing.T) {
	s, vain := source(9), 0
	for n := range 300 {
		first := starts[n%len(starts)] - uint32(s.under(4))
		var times []int
		for range 2 + s.under(7) {
			times = append(times, s.under(7))
		}
		c := gather(t, first, times)
		for most := 1 + s.under(6); c.Left() > 0; {
			i := s.under(len(times))
			for range 1 + s.under(most) {
				c.pick(t, i)
			}
		}
		c.ended(t, first, times)
		for _, v := range c.vain {
			vain += v
		}
	}
	if vain == 0 {
		t.Errorf("no taker has waited")
	}
}

// Picked in turn, all takers take the lock in turn.
func TestInTurn(t *testing.T) {
	times := slices.Repeat([]int{25}, 8)
	for _, first := range []uint32{0, top - 100} {
		c := gather(t, first, times)
		for c.Left() > 0 {
			for i := range times {
				c.pick(t, i)
			}
		}
		c.ended(t, first, times)
		for n, i := range c.held {
			if i != n%len(times) {
				t.Fatalf("the order is %v", c.held)
			}
		}
	}
}

// In any order, with any words

// record is what is known of a taker, step by step. Its words do not wrap around by themselves.
type record struct {
	at, cell, times int
	made            int
	over            bool
	next            int // the number of the step, from 1 on
	ticket, loaded  uint64
}

// step does what the next step should do; how many uses it is.
func (r *record) step(words []uint64) int {
	const all = 1 << 32
	at := [...]int{0, r.at, r.at + 1, r.cell, r.cell, r.at + 1}[r.next]
	if r.over || r.times < 1 || at < 0 || at >= len(words) {
		r.over = true
		return 0
	}
	word := &words[at]
	switch r.next {
	case 1:
		r.ticket, *word = *word, (*word+1)%all
	case 2:
		if *word != r.ticket {
			return 1
		}
	case 3:
		r.loaded = *word
	case 4:
		*word = (r.loaded + 1) % all
	case 5:
		*word = (r.ticket + 1) % all
		r.made++
		r.over = r.made == r.times
	}
	r.next = r.next%5 + 1
	return 1
}

// view is what a taker should tell.
func (r *record) view() view {
	left := 0
	if r.times > 0 {
		left = r.times - r.made
	}
	return view{ticket: uint32(r.ticket), left: left, waits: !r.over && r.next == 2, holds: !r.over && r.next > 2}
}

// narrow is words as the memory has them.
func narrow(words []uint64) []uint32 {
	var l []uint32
	for _, w := range words {
		l = append(l, uint32(w))
	}
	return l
}

// Takers whose locks and cells overlap, or are missing, of two memories of which one is smaller, and whose words are changed by others, do what the record of the takers tells.
func TestManySteps(t *testing.T) {
	s, ends := source(10), map[int]int{}
	for range 2000 {
		first := uint64(starts[s.under(len(starts))])
		words := [2][]uint64{{first, first, first, first, 3, first}, {first, first, first}}
		var m [2]*mem.Memory
		var uses [2]int
		for i := range m {
			m[i], uses[i] = memory(t, narrow(words[i])...)
		}
		var takers []*ticket.Taker
		var records []record
		for range 1 + s.under(4) {
			r := record{at: s.under(7) - 1, cell: s.under(8) - 1, times: s.under(6) - 1, next: 1}
			takers, records = append(takers, ticket.New(r.at, r.cell, r.times)), append(records, r)
		}
		for range 60 {
			which := s.under(60) / 59 // the smaller one now and then
			i := s.under(len(takers))
			r := &records[i]
			uses[which] += r.step(words[which])
			does(t, takers[i], m[which], r.over)
			shows(t, takers[i], r.view())
			has(t, m[which], uses[which], narrow(words[which])...)
			if s.under(30) == 0 {
				at := s.under(6)
				words[0][at] = r.ticket
				m[0].Store(at, uint32(r.ticket))
				uses[0]++
			}
			if t.Failed() {
				t.Fatalf("%+v", *r)
			}
		}
		for _, r := range records {
			if r.over {
				ends[r.next]++
			}
		}
	}
	// Takers have ended by each step that finds a missing word.
	if len(ends) != 5 {
		t.Errorf("the ends are %v", ends)
	}
}

// P1 and the rules

// Any call with any arguments returns; no memory, and one that is not made by its package, have no words.
func TestAnyArguments(t *testing.T) {
	numbers := append(missing(3), 0, 1, 2)
	m, _ := memory(t, 0, 0, 0)
	for _, at := range numbers {
		for _, cell := range numbers {
			for _, times := range numbers {
				for _, none := range []*mem.Memory{nil, {}} {
					k := ticket.New(at, cell, times)
					does(t, k, none, true)
					shows(t, k, view{left: max(times, 0)})
					k.Step(m)
					does(t, k, none, true)
				}
				k := ticket.New(at, cell, times)
				for range 12 {
					k.Step(m)
				}
			}
		}
	}
	for step := range 5 {
		m, _ := memory(t, 6, 6, 0)
		k := ticket.New(0, 2, 1)
		goes(t, k, m, step)
		was := look(k)
		does(t, k, nil, true)
		shows(t, k, view{ticket: was.ticket, left: 1})
		stays(t, k, m)
	}
}

// Takers have nothing in common but the memory.
func TestApart(t *testing.T) {
	m, _ := memory(t, 0, 0, 0)
	n, uses := memory(t, 0, 0, 0)
	a, b, c := ticket.New(0, 2, 2), ticket.New(0, 2, 2), ticket.New(0, 2, 2)
	goes(t, a, m, 7)
	shows(t, a, view{ticket: 1, left: 1, holds: true})
	shows(t, b, view{left: 2})
	has(t, n, uses, 0, 0, 0)
	goes(t, c, n, 1)
	shows(t, c, view{left: 2, waits: true})
	goes(t, b, m, 1)
	shows(t, a, view{ticket: 1, left: 1, holds: true})
	shows(t, b, view{ticket: 2, left: 2, waits: true})
	goes(t, c, n, 3)
	has(t, n, uses+4, 1, 0, 1)
}

// The results depend on nothing but the calls: the same ones again have the same results.
func TestAgain(t *testing.T) {
	play := func() []view {
		s := source(11)
		m, _ := memory(t, top, top, 0, top)
		l := []*ticket.Taker{ticket.New(0, 2, 9), ticket.New(0, 2, 9), ticket.New(0, 3, 9), ticket.New(1, 2, 9), ticket.New(2, 4, 9)}
		var seen []view
		for range 200 {
			k := l[s.under(len(l))]
			k.Step(m)
			seen = append(seen, look(k))
		}
		return seen
	}
	want := play()
	for range 3 {
		if got := play(); !slices.Equal(got, want) {
			t.Errorf("%v, not %v", got, want)
		}
	}
}
