package mem_test

import (
	"math"
	"slices"
	"testing"

	"purlin/api"
	"purlin/mem"
)

const top = math.MaxUint32 // the greatest word: 0 follows

// The calls that use a word.
const (
	load = iota
	store
	swap
	add
	or
	take
	kinds // how many there are
)

var names = [kinds]string{"Load", "Store", "Swap", "Add", "Or", "Take"}

// call is a call that uses a word: old is what a Swap expects, v what a call brings, if it does.
type call struct {
	kind, at int
	old, v   uint32
}

// answer is what a call returns: a word, or whether a word was swapped, and the error.
type answer struct {
	was     uint32
	swapped bool
	e       api.Errno
}

// on makes a call.
func (c call) on(m *mem.Memory) (a answer) {
	switch c.kind {
	case load:
		a.was, a.e = m.Load(c.at)
	case store:
		a.e = m.Store(c.at, c.v)
	case swap:
		a.swapped, a.e = m.Swap(c.at, c.old, c.v)
	case add:
		a.was, a.e = m.Add(c.at, c.v)
	case or:
		a.was, a.e = m.Or(c.at, c.v)
	case take:
		a.was, a.e = m.Take(c.at)
	}
	return a
}

// name is the name of the call.
func (c call) name() string { return names[c.kind] }

// all is a call of each kind, and of Swap one that finds another word than it expects as well.
func all(at int, word, v uint32) []call {
	return []call{
		{kind: load, at: at}, {kind: store, at: at, v: v}, {kind: swap, at: at, old: word, v: v}, {kind: swap, at: at, old: word + 1, v: v},
		{kind: add, at: at, v: v}, {kind: or, at: at, v: v}, {kind: take, at: at},
	}
}

// made is a new memory of n words.
func made(t *testing.T, n int) *mem.Memory {
	t.Helper()
	m, e := mem.New(n)
	if m == nil || e != api.OK {
		t.Fatalf("New(%d) = %v, %d", n, m, e)
	}
	return m
}

// of is a memory of some words, each of which has been stored: so often it has been used.
func of(t *testing.T, words ...uint32) *mem.Memory {
	t.Helper()
	m := made(t, len(words))
	for at, v := range words {
		if e := m.Store(at, v); e != api.OK {
			t.Fatalf("Store(%d, %d) = %d", at, v, e)
		}
	}
	return m
}

// numbers is n words that are all different, and different from 0.
func numbers(n int) []uint32 {
	words := make([]uint32, n)
	for at := range words {
		words[at] = 0x9e3779b1*uint32(at) + 7
	}
	return words
}

// holds checks all words of a memory, and how often it was used.
func holds(t *testing.T, m *mem.Memory, uses int, want ...uint32) {
	t.Helper()
	if got := m.Words(); !slices.Equal(got, want) {
		t.Errorf("the words are %v, not %v", some(got), some(want))
	}
	if n := m.Count(); n != uses {
		t.Errorf("the memory was used %d times, not %d", n, uses)
	}
}

// some is as many of the words as a message needs.
func some(words []uint32) []uint32 { return words[:min(len(words), 16)] }

// answers checks what a call returns.
func answers(t *testing.T, m *mem.Memory, c call, want answer) {
	t.Helper()
	if got := c.on(m); got != want {
		t.Errorf("%s %+v = %+v, not %+v", c.name(), c, got, want)
	}
}

// noWords is numbers that are those of no word, of n.
func noWords(n int) []int {
	return []int{
		-1, -2, -n, -n - 1, -256, -65536, math.MinInt8, math.MinInt16, math.MinInt32, math.MinInt, math.MinInt + 1,
		n, n + 1, 2 * n, 4096, 4097, 8192, 65536, 65536 + n, 1 << 31, 1 << 32, 1<<32 + n - 1, -1 << 32, math.MaxInt32, math.MaxInt,
	}
}

// P7.1

func TestSizes(t *testing.T) {
	for n := 1; n <= 4096; n++ {
		m, e := mem.New(n)
		if m == nil || e != api.OK {
			t.Fatalf("New(%d) = %v, %d", n, m, e)
		}
		if words := m.Words(); len(words) != n || slices.Max(words) != 0 || m.Count() != 0 {
			t.Fatalf("New(%d) has the words %v and %d uses", n, some(words), m.Count())
		}
	}
}

func TestNoSizes(t *testing.T) {
	for _, n := range []int{
		0, -1, -2, -4096, math.MinInt16, math.MinInt32, math.MinInt, -1 << 32, -1<<32 + 1,
		4097, 4098, 8192, 65535, 65536, 65537, math.MaxInt32, 1 << 32, 1<<32 + 1, 1<<32 + 4096, math.MaxInt,
	} {
		if m, e := mem.New(n); m != nil || e != api.ErrMemSize {
			t.Errorf("New(%d) = %v, %d, not ErrMemSize", n, m, e)
		}
	}
}

// A call about a word that is none returns that, changes no word, and is no use; nor does it change what later calls do.
func TestNoWords(t *testing.T) {
	for _, n := range []int{1, 2, 3, 255, 256, 4095, 4096} {
		words := numbers(n)
		m := of(t, words...)
		for _, at := range noWords(n) {
			if at >= 0 && at < n {
				continue
			}
			// The word that a Swap expects is one that a word has, or 0, which a call beside an error returns.
			for _, c := range slices.Concat(all(at, words[0], 9), all(at, words[n-1], 0), all(at, 0, top), all(at, 0, 0)) {
				answers(t, m, c, answer{e: api.ErrMemAt})
			}
		}
		holds(t, m, n, words...)
		answers(t, m, call{kind: load, at: n - 1}, answer{was: words[n-1]})
		holds(t, m, n+1, words...)
	}
}

// The same in a memory that was never used.
func TestNoWordsOfANewMemory(t *testing.T) {
	m := made(t, 2)
	for _, at := range noWords(2) {
		for _, c := range all(at, 0, 1) {
			answers(t, m, c, answer{e: api.ErrMemAt})
		}
	}
	holds(t, m, 0, 0, 0)
}

// Each number below the size is that of a word, in memories of one word, of few and of MaxMem words.
func TestEachNumberIsAWord(t *testing.T) {
	for _, n := range []int{1, 2, 3, 4096} {
		m := made(t, n)
		for at := range n {
			for _, c := range all(at, 0, 0) {
				if e := c.on(m).e; e != api.OK {
					t.Fatalf("%s %+v = %d in a memory of %d words", c.name(), c, e, n)
				}
			}
		}
	}
}

// P7.2

func TestExample(t *testing.T) {
	m := made(t, 2)
	answers(t, m, call{kind: store, at: 1, v: 5}, answer{})
	answers(t, m, call{kind: add, at: 1, v: 4294967295}, answer{was: 5})
	answers(t, m, call{kind: load, at: 1}, answer{was: 4})
	answers(t, m, call{kind: swap, at: 1, old: 5, v: 9}, answer{})
	answers(t, m, call{kind: swap, at: 1, old: 4, v: 9}, answer{swapped: true})
	answers(t, m, call{kind: or, at: 1, v: 6}, answer{was: 9})
	answers(t, m, call{kind: take, at: 1}, answer{was: 15})
	holds(t, m, 7, 0, 0)
	answers(t, m, call{kind: load, at: 2}, answer{e: api.ErrMemAt})
	holds(t, m, 7, 0, 0)
}

// deed is a call on a word: what the word was, and is then.
type deed struct {
	c         call
	was, then uint32
	swapped   bool
}

// deeds is calls of each kind on the word at: ordinary ones, and those at the bounds of what a word may be.
func deeds(at int) []deed {
	var l []deed
	does := func(kind int, old, v, was, then uint32, swapped bool) {
		l = append(l, deed{call{kind, at, old, v}, was, then, swapped})
	}
	for _, was := range []uint32{0, 1, 5, 1 << 31, top} {
		does(load, 0, 0, was, was, false)
		does(take, 0, 0, was, 0, false)
		does(add, 0, 0, was, was, false)
		does(or, 0, 0, was, was, false)
		does(or, 0, was, was, was, false)
		does(or, 0, top, was, top, false)
		does(swap, was, was, was, was, true)
		does(swap, was+1, 9, was, was, false)
		does(swap, was-1, 9, was, was, false)
		does(swap, ^was, was, was, was, false)
		for _, v := range []uint32{0, 1, 6, 1 << 31, top} {
			does(store, 0, v, was, v, false)
			does(swap, was, v, was, v, true)
		}
	}
	for _, x := range []struct{ was, d, then uint32 }{
		{0, 1, 1}, {5, 4, 9}, {9, top, 8}, {top, 1, 0}, {top, 2, 1}, {top, top, top - 1}, {1, top, 0}, {0, top, top},
		{1 << 31, 1 << 31, 0}, {1<<31 - 1, 1, 1 << 31}, {65535, 1, 65536}, {3000000000, 2000000000, 705032704},
	} {
		does(add, 0, x.d, x.was, x.then, false)
	}
	for _, x := range []struct{ was, bits, then uint32 }{
		{0, 1, 1}, {9, 6, 15}, {9, 1, 9}, {9, 3, 11}, {5, 8, 13}, {1 << 31, 1, 1<<31 + 1}, {1, 1 << 31, 1<<31 + 1}, {top - 1, 1, top}, {0xf0f0, 0x0ff0, 0xfff0},
	} {
		does(or, 0, x.bits, x.was, x.then, false)
	}
	// A Swap expects the whole word: one that differs in one bit is another one.
	for bit := range 32 {
		does(swap, 5^1<<bit, 9, 5, 5, false)
		does(swap, 1<<bit, 9, 1<<bit, 9, true)
	}
	return l
}

// want is what a call of a deed returns.
func (d deed) want() answer {
	switch d.c.kind {
	case store, swap:
		return answer{swapped: d.swapped}
	}
	return answer{was: d.was}
}

// Each kind of use, on the first word, on the last one and on one between: what it returns and what it does, that it changes no other word (P7.3), and that it is one use.
func TestUses(t *testing.T) {
	for _, n := range []int{1, 2, 5, 4096} {
		for _, at := range []int{0, n / 2, n - 1} {
			words := numbers(n)
			m, uses := of(t, words...), n
			for _, d := range deeds(at) {
				m.Store(at, d.was)
				answers(t, m, d.c, d.want())
				uses += 2
				words[at] = d.then
				holds(t, m, uses, words...)
			}
		}
	}
}

// In a new memory each kind of use finds 0.
func TestUsesOfNewWords(t *testing.T) {
	for _, at := range []int{0, 4095} {
		for _, d := range deeds(at) {
			if d.was != 0 {
				continue
			}
			m, words := made(t, 4096), make([]uint32, 4096)
			answers(t, m, d.c, d.want())
			words[at] = d.then
			holds(t, m, 1, words...)
		}
	}
}

// Each kind of use is counted, by itself and many times, and so is a Swap that swaps nothing; Words and Count are no uses.
func TestCount(t *testing.T) {
	const many = 70000
	for i, c := range all(1, 0, 0) {
		m := made(t, 2)
		for n := range many {
			if m.Words(); m.Count() != n {
				t.Fatalf("call %d, %s: %d uses, not %d", i, c.name(), m.Count(), n)
			}
			c.on(m)
		}
		holds(t, m, many, 0, 0)
	}
}

// The uses of all words are counted together.
func TestCountOfAllWords(t *testing.T) {
	m := made(t, 4096)
	for at := range 4096 {
		for _, c := range all(at, 0, 3) {
			c.on(m)
		}
	}
	holds(t, m, 7*4096, make([]uint32, 4096)...)
}

func TestWordsInOrder(t *testing.T) {
	for _, n := range []int{1, 2, 3, 4096} {
		holds(t, of(t, numbers(n)...), n, numbers(n)...)
	}
}

// P7.3

// A stored value is loaded until the word is changed: not by uses of other words, by uses that change nothing, or by calls that are no uses.
func TestStoredValueStays(t *testing.T) {
	for _, n := range []int{2, 3, 4096} {
		for _, at := range []int{0, n / 2, n - 1} {
			m := made(t, n)
			m.Store(at, 77)
			stays := func(c call) {
				t.Helper()
				if v, e := m.Load(at); v != 77 || e != api.OK {
					t.Fatalf("word %d of %d is %d behind %s %+v: %d", at, n, v, c.name(), c, e)
				}
			}
			for other := range n {
				for _, c := range all(other, 0, 5) {
					if other != at {
						c.on(m)
						stays(c)
					}
				}
			}
			for _, c := range slices.Concat(all(n, 77, 5), all(-1, 77, 5)) {
				c.on(m)
				stays(c)
			}
			for _, c := range []call{{load, at, 0, 0}, {swap, at, 76, 5}, {swap, at, 77, 77}, {swap, at, 0, 0}, {add, at, 0, 0}, {or, at, 0, 0}, {or, at, 0, 77}, {or, at, 0, 8}} {
				c.on(m)
				stays(c)
			}
			m.Words()
			m.Count()
			stays(call{})
		}
	}
}

// A stored value is loaded no longer once another use has changed the word.
func TestChangedValue(t *testing.T) {
	for _, x := range []struct {
		c    call
		then uint32
	}{
		{call{kind: store, v: 5}, 5}, {call{kind: swap, old: 77, v: 5}, 5}, {call{kind: add, v: 5}, 82}, {call{kind: or, v: 2}, 79}, {call{kind: take}, 0},
	} {
		m := of(t, 77)
		x.c.on(m)
		for range 3 {
			answers(t, m, call{kind: load}, answer{was: x.then})
		}
		holds(t, m, 5, x.then)
	}
}

// In any order

// record is what is known of a memory: its words, as numbers that do not wrap around by themselves, and its uses.
type record struct {
	words []uint64
	uses  int
}

// answer is what a call should return, told bit by bit and modulo 2^32.
func (r *record) answer(c call) answer {
	if c.at < 0 || c.at >= len(r.words) {
		return answer{e: api.ErrMemAt}
	}
	word := &r.words[c.at]
	was, v := *word, uint64(c.v)
	r.uses++
	switch c.kind {
	case store:
		*word = v
		return answer{}
	case swap:
		if was != uint64(c.old) {
			return answer{}
		}
		*word = v
		return answer{swapped: true}
	case add:
		*word = (was + v) % (1 << 32)
	case or:
		for bit := range 32 {
			if v>>bit%2 == 1 && was>>bit%2 == 0 {
				*word += 1 << bit
			}
		}
	case take:
		*word = 0
	}
	return answer{was: uint32(was)}
}

// list is the words.
func (r *record) list() []uint32 {
	var words []uint32
	for _, word := range r.words {
		words = append(words, uint32(word))
	}
	return words
}

// source is a row of numbers that look drawn, and are the same each time.
type source uint32

// under is the next number, below n.
func (s *source) under(n int) int {
	*s = *s*1664525 + 1013904223
	return int(*s>>8) % n
}

// word is the next word: often one that others equal, and often one at the bounds.
func (s *source) word() uint32 {
	return []uint32{0, 1, 2, 3, 1 << 31, top - 1, top, uint32(s.under(1<<16))<<16 + uint32(s.under(1<<16))}[s.under(8)]
}

// call is the next call about a memory of n words: now and then about one that is none.
func (s *source) call(n int) call {
	return call{s.under(kinds), s.under(n+2) - 1, s.word(), s.word()}
}

// Calls in any order do what the record of them tells.
func TestManyCalls(t *testing.T) {
	s := source(7)
	for range 60 {
		n := []int{1, 2, 3, 5, 40}[s.under(5)]
		m, r := made(t, n), record{words: make([]uint64, n)}
		for range 2000 {
			c := s.call(n)
			if 0 <= c.at && c.at < n && s.under(2) == 0 {
				c.old = uint32(r.words[c.at])
			}
			answers(t, m, c, r.answer(c))
			holds(t, m, r.uses, r.list()...)
		}
	}
}

// P1 and the rules

// Any call with any arguments returns, and with an error nothing but the error.
func TestAnyArguments(t *testing.T) {
	words := []uint32{0, 1, 77, 1 << 31, top}
	for _, n := range slices.Concat(noWords(1), []int{1, 2, 64, 4095}) {
		m, e := mem.New(n)
		if e != api.OK {
			if m != nil {
				t.Errorf("New(%d) = %v, %d", n, m, e)
			}
			continue
		}
		for _, at := range slices.Concat(noWords(n), []int{0, 1, n - 1}) {
			for _, old := range words {
				for _, v := range words {
					for _, c := range all(at, old, v) {
						if a := c.on(m); a.e != api.OK && a != (answer{e: api.ErrMemAt}) {
							t.Errorf("%s %+v = %+v", c.name(), c, a)
						}
					}
				}
			}
		}
	}
}

// The words that Words returns are the caller's: whoever changes them, or puts something behind them, changes neither the memory nor what others have got.
func TestWordsAreNew(t *testing.T) {
	m := of(t, 1, 2, 3)
	first, second := m.Words(), m.Words()
	for i := range first {
		first[i] = 9
	}
	_ = append(first, 9)
	_ = append(first[:1], 8)
	if !slices.Equal(second, []uint32{1, 2, 3}) {
		t.Errorf("other words have become %v", second)
	}
	holds(t, m, 3, 1, 2, 3)
	for at, v := range []uint32{1, 2, 3} {
		answers(t, m, call{kind: load, at: at}, answer{was: v})
	}
	answers(t, m, call{kind: load, at: 3}, answer{e: api.ErrMemAt})
	whole := m.Words()
	clear(whole[:cap(whole)])
	holds(t, m, 6, 1, 2, 3)
}

// They stay as they are when the memory changes.
func TestWordsStay(t *testing.T) {
	m := of(t, 1, 2)
	for _, c := range slices.Concat(all(0, 1, 5), all(1, 2, 6)) {
		before := m.Words()
		kept := slices.Clone(before)
		c.on(m)
		if !slices.Equal(before, kept) {
			t.Errorf("the words from before %s %+v have become %v, not %v", c.name(), c, before, kept)
		}
	}
}

// Memories have nothing in common.
func TestMemoriesApart(t *testing.T) {
	a, b, c := made(t, 2), of(t, 5, 6), made(t, 2)
	for _, x := range slices.Concat(all(0, 0, 7), all(1, 0, 8)) {
		x.on(a)
	}
	holds(t, b, 2, 5, 6)
	holds(t, c, 0, 0, 0)
	holds(t, made(t, 2), 0, 0, 0)
}

// The results depend on nothing but the calls of this memory: the same ones again have the same results.
func TestAgain(t *testing.T) {
	run := func() ([]answer, []uint32, int) {
		s, m := source(11), made(t, 4)
		var l []answer
		for range 500 {
			l = append(l, s.call(4).on(m))
		}
		return l, m.Words(), m.Count()
	}
	l, words, uses := run()
	for range 3 {
		k, others, n := run()
		if !slices.Equal(k, l) || !slices.Equal(others, words) || n != uses {
			t.Errorf("%v and %d uses, not %v and %d", others, n, words, uses)
		}
	}
}
