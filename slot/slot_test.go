package slot_test

import (
	"encoding/binary"
	"math"
	"slices"
	"strings"
	"testing"

	"purlin/api"
	"purlin/mem"
	"purlin/seqlock"
	"purlin/slot"
	"purlin/steps"
)

const top = math.MaxUint32 // the greatest word, and the last tick: 0 follows

// The calls that are promoted are as the chapter has them.
var (
	_ func(*slot.Put, *mem.Memory) bool = (*slot.Put).Step
	_ func(*slot.Put) int               = (*slot.Put).Written
	_ func(*slot.Get, *mem.Memory) bool = (*slot.Get).Step
	_ func(*slot.Get) int               = (*slot.Get).Tries
	_ steps.Task                        = (*slot.Put)(nil)
	_ steps.Task                        = (*slot.Get)(nil)
)

// evens and odds are numbers that a counter is at first: between messages, and while one is being written.
var (
	evens = []uint32{0, 2, 10, 1<<31 - 2, 1 << 31, top - 3, top - 1}
	odds  = []uint32{1, 3, 11, 1<<31 - 1, 1<<31 + 1, top - 2, top}
)

// ticks is ticks at the beginning, at the half, and just below and at the end of all ticks.
var ticks = []uint32{0, 1, 2, 9, 65535, 65536, 1<<31 - 1, 1 << 31, 1<<31 + 1, top - 65535, top - 2, top - 1, top}

// noSizes is sizes that no message has at most: below and above.
var noSizes = []int{0, -1, -2, -3, -4, -5, -31, -32, -33, -256, math.MinInt32, 5 - 1<<32, math.MinInt + 1, math.MinInt, 33, 34, 35, 36, 63, 64, 255, 256, 257, 288, 65536, 65537, math.MaxInt32, 1 << 32, 1<<32 + 5, math.MaxInt - 3, math.MaxInt - 1, math.MaxInt}

// missing is numbers of no word, in a memory of n words: below and above.
func missing(n int) []int {
	return []int{
		-1, -2, -n, -n - 1, -65536, math.MinInt32, -1 << 32, math.MinInt + 1, math.MinInt,
		n, n + 1, 2*n + 1, 65536 + n, 1 << 31, 1 << 32, 1<<32 + n, math.MaxInt32, math.MaxInt - 1, math.MaxInt,
	}
}

// memory is a memory of some words, and how often it has been used so far.
func memory(t *testing.T, words ...uint32) (*mem.Memory, int) {
	t.Helper()
	m, e := mem.New(len(words))
	if e != api.OK {
		t.Fatalf("New(%d) = %d", len(words), e)
	}
	for at, v := range words {
		m.Store(at, v)
	}
	return m, m.Count()
}

// has checks all words of a memory, and how often it was used.
func has(t *testing.T, m *mem.Memory, uses int, want ...uint32) {
	t.Helper()
	if got := m.Words(); !slices.Equal(got, want) {
		t.Errorf("the words are %v, not %v", got, want)
	}
	if n := m.Count(); n != uses {
		t.Errorf("the memory was used %d times, not %d", n, uses)
	}
}

// put is a put that is as it should be.
func put(t *testing.T, at, size int, message string, tick uint32) *slot.Put {
	t.Helper()
	p, e := slot.NewPut(at, size, message, tick)
	if p == nil || e != api.OK {
		t.Fatalf("NewPut(%d, %d, %q, %d) = %v, %d", at, size, message, tick, p, e)
	}
	return p
}

// get is a get that is as it should be.
func get(t *testing.T, at, size int) *slot.Get {
	t.Helper()
	g, e := slot.NewGet(at, size)
	if g == nil || e != api.OK {
		t.Fatalf("NewGet(%d, %d) = %v, %d", at, size, g, e)
	}
	return g
}

// does checks what a step returns.
func does(t *testing.T, k steps.Task, m *mem.Memory, want bool) {
	t.Helper()
	if done := k.Step(m); done != want {
		t.Errorf("Step = %t", done)
	}
}

// goes performs some steps, none of which is the last one.
func goes(t *testing.T, k steps.Task, m *mem.Memory, n int) {
	t.Helper()
	for range n {
		does(t, k, m, false)
	}
}

// ends performs n steps, of which the last one is the task's last one.
func ends(t *testing.T, k steps.Task, m *mem.Memory, n int) {
	t.Helper()
	goes(t, k, m, n-1)
	does(t, k, m, true)
}

// wrote checks how many messages a put has written, also when it is asked again.
func wrote(t *testing.T, p *slot.Put, want int) {
	t.Helper()
	for range 2 {
		if n := p.Written(); n != want {
			t.Errorf("Written() = %d, not %d", n, want)
		}
	}
}

// reads checks that nothing is read yet, and how often it was tried.
func reads(t *testing.T, g *slot.Get, tries int) {
	t.Helper()
	for range 2 {
		if message, tick, ok := g.Message(); message != "" || tick != 0 || ok || g.Tries() != tries {
			t.Errorf("Message() = %q, %d, %t with %d tries, not %d", message, tick, ok, g.Tries(), tries)
		}
	}
}

// got checks what was read, and how often it was tried.
func got(t *testing.T, g *slot.Get, tries int, message string, tick uint32) {
	t.Helper()
	for range 2 {
		if s, at, ok := g.Message(); s != message || at != tick || !ok || g.Tries() != tries {
			t.Errorf("Message() = %q, %d, %t with %d tries, not %q, %d with %d", s, at, ok, g.Tries(), message, tick, tries)
		}
	}
}

// stays checks that a task that is done reports this again, and neither changes nor uses a memory, behind its last step.
func stays(t *testing.T, k steps.Task, m *mem.Memory) {
	t.Helper()
	uses, words := m.Count(), m.Words()
	for range 7 {
		does(t, k, m, true)
	}
	has(t, m, uses, words...)
}

// wroteAll checks that a put that is done stays so, in this memory.
func wroteAll(t *testing.T, p *slot.Put, m *mem.Memory, written int) {
	t.Helper()
	wrote(t, p, written)
	stays(t, p, m)
	wrote(t, p, written)
}

// gotAll checks that a get that is done, with a message, stays so, in this memory.
func gotAll(t *testing.T, g *slot.Get, m *mem.Memory, tries int, message string, tick uint32) {
	t.Helper()
	got(t, g, tries, message, tick)
	stays(t, g, m)
	got(t, g, tries, message, tick)
}

// gotNone checks that a get that is done without having read the words stays so, in this memory.
func gotNone(t *testing.T, g *slot.Get, m *mem.Memory, tries int) {
	t.Helper()
	reads(t, g, tries)
	stays(t, g, m)
	reads(t, g, tries)
}

// inside is how many words a slot has behind its counter: the tick, the length, and one for each four bytes that are begun.
func inside(size int) int {
	n := 2
	for bytes := 0; bytes < size; bytes += 4 {
		n++
	}
	return n
}

// content is the words of a slot behind its counter, with a message.
func content(size int, message string, tick uint32) []uint32 {
	words := []uint32{tick, uint32(len(message))}
	b := make([]byte, 4*(inside(size)-2))
	copy(b, message)
	for ; len(b) > 0; b = b[4:] {
		words = append(words, binary.BigEndian.Uint32(b))
	}
	return words
}

// long is a message of n bytes, all of which differ from each other, and from those of another one at the same place.
func long(n, which int) string {
	b := make([]byte, n)
	for i := range b {
		b[i] = byte(0xF1 + i + 37*which)
	}
	return string(b)
}

// filled is n words that differ, from a first one on.
func filled(first uint32, n int) []uint32 {
	words := make([]uint32, n)
	for i := range words {
		words[i] = first + uint32(i)*0x01010101
	}
	return words
}

// layout is a slot in a memory: behind how many other words it is, and how many are behind it.
type layout struct{ at, size, behind int }

// words is how many words the memory has.
func (l layout) words() int { return l.at + 1 + inside(l.size) + l.behind }

// layouts is slots at the memory's edges, and within, for sizes with and without a word that is not full.
var layouts = []layout{
	{0, 1, 0}, {0, 1, 3}, {2, 2, 0}, {1, 3, 1}, {0, 4, 0}, {4, 4, 2}, {3, 5, 0}, {0, 7, 4}, {1, 8, 1}, {2, 9, 0}, {0, 16, 0}, {1, 28, 2}, {5, 29, 5}, {0, 31, 1}, {0, 32, 0}, {7, 32, 7},
}

// board is a memory, with what its words and uses should be.
type board struct {
	m     *mem.Memory
	words []uint32
	uses  int
}

// newBoard is a board of some words.
func newBoard(t *testing.T, words []uint32) *board {
	t.Helper()
	b := &board{words: words}
	b.m, b.uses = memory(t, words...)
	return b
}

// set changes words from a first one on, as another one would.
func (b *board) set(at int, words ...uint32) {
	for i, v := range words {
		b.words[at+i] = v
		b.m.Store(at+i, v)
		b.uses++
	}
}

// does performs a step that uses one word, which is v behind it. All other words are others during this step: it neither depends on them, nor changes them.
func (b *board) does(t *testing.T, k steps.Task, at int, v uint32, last bool) {
	t.Helper()
	others := make([]uint32, len(b.words))
	for i := range others {
		others[i] = uint32(b.uses*31+i*7) * 2654435761
	}
	others[at] = b.words[at]
	b.fill(others)
	does(t, k, b.m, last)
	others[at] = v
	b.uses++
	has(t, b.m, b.uses, others...)
	b.words[at] = v
	b.fill(b.words)
}

// fill stores all words.
func (b *board) fill(words []uint32) {
	for i, v := range words {
		b.m.Store(i, v)
	}
	b.uses += len(words)
}

// P13.1

// Words counts the counter, the tick, the length, and the words of a message.
func TestWords(t *testing.T) {
	for size := 1; size <= api.MaxSize; size++ {
		if n, e := slot.Words(size); n != 1+inside(size) || e != api.OK {
			t.Errorf("Words(%d) = %d, %d", size, n, e)
		}
	}
	for size, want := range map[int]int{1: 4, 2: 4, 3: 4, 4: 4, 5: 5, 6: 5, 7: 5, 8: 5, 9: 6, 12: 6, 13: 7, 16: 7, 17: 8, 27: 10, 28: 10, 29: 11, 31: 11, 32: 11} {
		if n, e := slot.Words(size); n != want || e != api.OK {
			t.Errorf("Words(%d) = %d, %d, not %d", size, n, e, want)
		}
	}
}

// Messages have from 1 to MaxSize bytes at most: for other sizes there are no words, no put of any message, and no get, wherever the slot is.
func TestNoSize(t *testing.T) {
	for _, size := range noSizes {
		if n, e := slot.Words(size); n != 0 || e != api.ErrSlotSize {
			t.Errorf("Words(%d) = %d, %d", size, n, e)
		}
		for _, at := range append(missing(api.MaxMem), 0, 1, 7) {
			for _, message := range []string{"", "a", "abcde", long(32, 1), long(33, 1), long(64, 1)} {
				for _, tick := range []uint32{0, 9, top} {
					if p, e := slot.NewPut(at, size, message, tick); p != nil || e != api.ErrSlotSize {
						t.Errorf("NewPut(%d, %d, %q, %d) = %v, %d", at, size, message, tick, p, e)
					}
				}
			}
			if g, e := slot.NewGet(at, size); g != nil || e != api.ErrSlotSize {
				t.Errorf("NewGet(%d, %d) = %v, %d", at, size, g, e)
			}
		}
	}
}

// A message has 1 to size bytes, wherever the slot is, and whatever the tick is.
func TestMessageSizes(t *testing.T) {
	for size := 1; size <= api.MaxSize; size++ {
		for _, n := range []int{0, 1, 2, 3, 4, 5, 6, 7, 8, 9, size - 1, size, size + 1, 31, 32, 33, 34, 35, 36, 63, 64, 255, 256, 257, 256 + size, 65536, 65536 + size} {
			for _, at := range append(missing(api.MaxMem), 0, 1, 7) {
				for _, tick := range []uint32{0, 9, top} {
					p, e := slot.NewPut(at, size, strings.Repeat("x", n), tick)
					if fits := 1 <= n && n <= size; fits && (p == nil || e != api.OK) || !fits && (p != nil || e != api.ErrSlotSize) {
						t.Fatalf("NewPut(%d, %d, %d bytes, %d) = %v, %d", at, size, n, tick, p, e)
					}
				}
			}
		}
	}
}

// Bytes count, not characters, and any byte may be in a message.
func TestBytes(t *testing.T) {
	if p, e := slot.NewPut(0, 1, "\u00e9", 1); p != nil || e != api.ErrSlotSize {
		t.Errorf("two bytes: %d", e)
	}
	m, uses := memory(t, 0, 0, 0, 0, 0)
	ends(t, put(t, 0, 8, "\xff\x00\u20ac", 1), m, 6)
	has(t, m, uses+6, 2, 1, 5, 0xFF00E282, 0xAC000000)
	g := get(t, 0, 8)
	ends(t, g, m, 6)
	got(t, g, 1, "\xff\x00\u20ac", 1)
	for v := range 256 {
		for place := range 8 {
			b := []byte("\x00\x00\x00\x00\x00\x00\x00\x00")
			b[place] = byte(v)
			ends(t, put(t, 0, 8, string(b), 1), m, 6)
			if words := m.Words(); !slices.Equal(words[1:], content(8, string(b), 1)) {
				t.Errorf("%q: %v", b, words)
			}
			g := get(t, 0, 8)
			ends(t, g, m, 6)
			got(t, g, 1, string(b), 1)
		}
	}
}

// Wherever the slot is, there are a put and a get; they have neither written nor read anything.
func TestNew(t *testing.T) {
	for size := 1; size <= api.MaxSize; size++ {
		for _, at := range append(missing(api.MaxMem), 0, 1, 7) {
			wrote(t, put(t, at, size, long(size, 0), 7), 0)
			reads(t, get(t, at, size), 0)
		}
	}
}

// puts performs all steps of a put: which words they use, and what is written behind each of them. The counter may be changed meanwhile.
func (b *board) puts(t *testing.T, l layout, message string, tick, meanwhile uint32) {
	t.Helper()
	p := put(t, l.at, l.size, message, tick)
	wrote(t, p, 0)
	b.does(t, p, l.at, b.words[l.at]+1, false)
	wrote(t, p, 0)
	for i, v := range content(l.size, message, tick) {
		b.does(t, p, l.at+1+i, v, false)
		wrote(t, p, 0)
	}
	b.set(l.at, b.words[l.at]+meanwhile)
	b.does(t, p, l.at, b.words[l.at]+1, true)
	wroteAll(t, p, b.m, 1)
}

// Each step of a put: the counter, the tick, the length, all words of the message, also those that it does not need, and the counter. From any counter on, an odd one too, and over any words.
func TestPutSteps(t *testing.T) {
	for _, l := range layouts {
		for i, counter := range slices.Concat(evens, odds) {
			b := newBoard(t, filled(0x5A0000A5, l.words()))
			b.set(l.at, counter)
			for j, tick := range ticks {
				b.puts(t, l, long(1+(i+3*j)%l.size, j), tick, uint32(j%3))
			}
			if t.Failed() {
				t.Fatalf("%+v from %d on", l, counter)
			}
		}
	}
}

// Messages of each length, of each size: a shorter one leaves nothing of a longer one.
func TestPutLengths(t *testing.T) {
	for size := 1; size <= api.MaxSize; size++ {
		l := layout{2, size, 2}
		b := newBoard(t, filled(0x5A0000A5, l.words()))
		b.puts(t, l, long(size, 1), 5, 0)
		for n := size; n >= 1; n-- {
			b.puts(t, l, long(n, n), uint32(n), 0)
			b.puts(t, l, long(size, n+1), uint32(n+1), 0)
		}
		if t.Failed() {
			t.Fatalf("size %d", size)
		}
	}
}

// A put takes as many steps as the slot has words, and one more, however long its message is; so does a get with nobody beside it.
func TestStepCounts(t *testing.T) {
	for size := 1; size <= api.MaxSize; size++ {
		for n := 1; n <= size; n++ {
			words, _ := slot.Words(size)
			m, uses := memory(t, make([]uint32, words)...)
			p, g := put(t, 0, size, long(n, 2), top), get(t, 0, size)
			ends(t, p, m, words+1)
			has(t, m, uses+words+1, append([]uint32{2}, content(size, long(n, 2), top)...)...)
			wroteAll(t, p, m, 1)
			uses = m.Count()
			ends(t, g, m, words+1)
			has(t, m, uses+words+1, append([]uint32{2}, content(size, long(n, 2), top)...)...)
			gotAll(t, g, m, 1, long(n, 2), top)
		}
	}
}

// gets performs all steps of an attempt: which words they use, and that nothing is read until the last one. The counter may be changed ahead of that.
func (b *board) gets(t *testing.T, l layout, g *slot.Get, try int, meanwhile uint32) {
	t.Helper()
	for i := range 1 + inside(l.size) {
		b.does(t, g, l.at+i, b.words[l.at+i], false)
		reads(t, g, try)
	}
	b.set(l.at, b.words[l.at]+meanwhile)
	b.does(t, g, l.at, b.words[l.at], meanwhile == 0)
}

// Each step of a get: the counter, the tick, the length, all words of the message, also those that it does not need, and the counter. It changes none.
func TestGetSteps(t *testing.T) {
	for _, l := range layouts {
		for i, counter := range evens {
			for j, tick := range ticks {
				b := newBoard(t, filled(0x5A0000A5, l.words()))
				message := long(1+(i+3*j)%l.size, j)
				b.set(l.at, append([]uint32{counter}, content(l.size, message, tick)...)...)
				g := get(t, l.at, l.size)
				reads(t, g, 0)
				b.gets(t, l, g, 1, 0)
				gotAll(t, g, b.m, 1, message, tick)
			}
			if t.Failed() {
				t.Fatalf("%+v from %d on", l, counter)
			}
		}
	}
}

// A get whose counter has changed begins anew, and so each time; what it has loaded ahead of that does not count, be it longer or shorter.
func TestGetAgain(t *testing.T) {
	for _, l := range layouts {
		for _, counter := range evens {
			for _, d := range []uint32{2, 4, 1 << 16, 1 << 31, top - 1} {
				b := newBoard(t, filled(0x5A0000A5, l.words()))
				g := get(t, l.at, l.size)
				for try := range 5 {
					n := 1 + (try*7)%l.size
					b.set(l.at, append([]uint32{counter}, content(l.size, long(n, try), uint32(try))...)...)
					b.gets(t, l, g, try+1, d)
					reads(t, g, try+1)
				}
				b.set(l.at, append([]uint32{counter}, content(l.size, "z", top)...)...)
				b.gets(t, l, g, 6, 0)
				gotAll(t, g, b.m, 6, "z", top)
				if t.Failed() {
					t.Fatalf("%+v from %d on", l, counter)
				}
			}
		}
	}
}

// A get that finds the counter odd loads it again each time, with one use each, and has not tried yet; also behind an attempt in vain.
func TestOddCounter(t *testing.T) {
	for _, l := range layouts {
		for _, odd := range odds {
			b := newBoard(t, filled(0x5A0000A5, l.words()))
			b.set(l.at, append([]uint32{odd}, content(l.size, "q", 4)...)...)
			g := get(t, l.at, l.size)
			for range 20 {
				b.does(t, g, l.at, odd, false)
				reads(t, g, 0)
			}
			b.set(l.at, odd+1)
			b.gets(t, l, g, 1, 1)
			for range 5 {
				b.does(t, g, l.at, odd+2, false)
				reads(t, g, 1)
			}
			b.set(l.at, odd+1)
			b.gets(t, l, g, 2, 0)
			gotAll(t, g, b.m, 2, "q", 4)
			if t.Failed() {
				t.Fatalf("%+v from %d on", l, odd)
			}
		}
	}
}

// A put and a get perform what the writer and the reader of chapter 10 do, of these words: step by step, also between each other.
func TestAsSequenceLock(t *testing.T) {
	s := source(13)
	for range 400 {
		size, at := 1+s.under(api.MaxSize), s.under(4)
		message, tick := long(1+s.under(size), s.under(99)), uint32(s.under(1<<24))
		words := filled(uint32(2*s.under(1<<20)), at+1+inside(size))
		m, uses := memory(t, words...)
		n, _ := memory(t, words...)
		w, _ := seqlock.NewWriter(at, [][]uint32{content(size, message, tick)})
		r, _ := seqlock.NewReader(at, inside(size))
		p, g := put(t, at, size, message, tick), get(t, at, size)
		for step := range 5 * inside(size) {
			if s.under(2) == 0 {
				does(t, p, m, w.Step(n))
			} else {
				does(t, g, m, r.Step(n))
			}
			has(t, m, n.Count(), n.Words()...)
			wrote(t, p, w.Written())
			_, _, ok := g.Message()
			if _, done := r.Got(); ok != done || g.Tries() != r.Tries() {
				t.Errorf("read: %t, %t, with %d tries, not %d", ok, done, g.Tries(), r.Tries())
			}
			if t.Failed() {
				t.Fatalf("%q of size %d at %d, step %d behind %d uses", message, size, at, step, uses)
			}
		}
	}
}

// Words that do not exist

// The step of a put that finds that a word does not exist is its last one: the counter with the first step, below and above the memory; or a later word, with its step.
func TestPutNoWord(t *testing.T) {
	for _, size := range []int{1, 4, 5, 31, api.MaxSize} {
		for _, n := range []int{1, 2, 5, inside(size), 1 + inside(size), api.MaxMem} {
			words := filled(4, n)
			for _, none := range missing(n) {
				m, uses := memory(t, words...)
				p := put(t, none, size, long(size, 3), 9)
				does(t, p, m, true)
				has(t, m, uses, words...)
				wroteAll(t, p, m, 0)
			}
			// The counter exists, and so do fewer words than there should be, or none.
			for few := range min(inside(size), n) {
				at, want := n-1-few, slices.Clone(words)
				m, uses := memory(t, words...)
				p := put(t, at, size, long(size, 3), 9)
				goes(t, p, m, 1+few)
				want[at]++
				copy(want[at+1:], content(size, long(size, 3), 9))
				has(t, m, uses+1+few, want...)
				does(t, p, m, true)
				has(t, m, uses+1+few, want...)
				wroteAll(t, p, m, 0)
			}
		}
	}
}

// The step of a get that finds that a word does not exist is its last one, and then nothing was read.
func TestGetNoWord(t *testing.T) {
	for _, size := range []int{1, 4, 5, 31, api.MaxSize} {
		for _, n := range []int{1, 2, 5, inside(size), 1 + inside(size), api.MaxMem} {
			words := make([]uint32, n)
			for i := range words {
				words[i] = uint32(2 * i)
			}
			for _, none := range missing(n) {
				m, uses := memory(t, words...)
				g := get(t, none, size)
				does(t, g, m, true)
				has(t, m, uses, words...)
				gotNone(t, g, m, 0)
			}
			for few := range min(inside(size), n) {
				m, uses := memory(t, words...)
				g := get(t, n-1-few, size)
				goes(t, g, m, 1+few)
				does(t, g, m, true)
				has(t, m, uses+1+few, words...)
				gotNone(t, g, m, 1)
			}
		}
	}
}

// used is the number of the word that a step of a put, or of an attempt of a get, uses.
func used(at, size, step int) int {
	if in := step % (inside(size) + 2); in <= inside(size) {
		return at + in
	}
	return at
}

// Each step of a put may be the one that finds its word missing: a memory of fewer words than the one before has come, or none.
func TestPutNoWordAnyMore(t *testing.T) {
	for _, size := range []int{1, 4, 5, api.MaxSize} {
		for _, at := range []int{0, 1, 3} {
			for step := range inside(size) + 2 {
				for n := range used(at, size, step) + 1 {
					m, uses := memory(t, make([]uint32, at+1+inside(size))...)
					p := put(t, at, size, "w", 8)
					goes(t, p, m, step)
					words := m.Words()
					if n == 0 {
						does(t, p, nil, true)
					} else {
						small, few := memory(t, filled(9, n)...)
						does(t, p, small, true)
						wroteAll(t, p, small, 0)
						has(t, small, few, filled(9, n)...)
					}
					wroteAll(t, p, m, 0)
					has(t, m, uses+step, words...)
				}
			}
		}
	}
}

// Each step of each attempt of a get may be such a step, also the last one: nothing was read then.
func TestGetNoWordAnyMore(t *testing.T) {
	for _, size := range []int{1, 4, 5, api.MaxSize} {
		for _, at := range []int{0, 1, 3} {
			attempt := inside(size) + 2
			for step := range 3 * attempt {
				for n := range used(at, size, step) + 1 {
					m, _ := memory(t, append(make([]uint32, at+1), content(size, "w", 8)...)...)
					g := get(t, at, size)
					for i := range step {
						does(t, g, m, false)
						if i%attempt == attempt-2 {
							m.Add(at, 2)
						}
					}
					tries, uses, words := (step+attempt-1)/attempt, m.Count(), m.Words()
					if n == 0 {
						does(t, g, nil, true)
					} else {
						small, few := memory(t, filled(8, n)...)
						does(t, g, small, true)
						gotNone(t, g, small, tries)
						has(t, small, few, filled(8, n)...)
					}
					gotNone(t, g, m, tries)
					has(t, m, uses, words...)
				}
			}
		}
	}
}

// P13.2

// The message has as many bytes as the stored length says: none if it is 0, and size if it is greater than that, however great it is. The tick is what is stored, also without a message.
func TestStoredLength(t *testing.T) {
	lengths := []uint32{33, 34, 35, 36, 37, 63, 64, 128, 255, 256, 257, 1 << 16, 1<<16 + 1, 1 << 24, 1 << 30, 1<<31 - 1, 1 << 31, 1<<31 + 1, top - 4, top - 1, top}
	for length := range uint32(33) {
		lengths = append(lengths, length, length<<8, length<<16, length<<24, length<<8|1, length<<16|1)
	}
	for size := 1; size <= api.MaxSize; size++ {
		all := long(4*(inside(size)-2), 5) // fills the last word as well
		for i, length := range lengths {
			tick := ticks[i%len(ticks)]
			words := append([]uint32{6}, content(size, all[:size], tick)...)
			copy(words[3:], content(len(all), all, 0)[2:])
			words[2] = length
			m, uses := memory(t, words...)
			g := get(t, 0, size)
			ends(t, g, m, inside(size)+2)
			has(t, m, uses+inside(size)+2, words...)
			gotAll(t, g, m, 1, all[:min(uint64(length), uint64(size))], tick)
			if t.Failed() {
				t.Fatalf("size %d, length %d", size, length)
			}
		}
	}
}

// Without a message yet, the empty string is read, with the tick that is stored, which is true all the same.
func TestNoMessageYet(t *testing.T) {
	for size := 1; size <= api.MaxSize; size++ {
		for _, tick := range ticks {
			m, _ := memory(t, append([]uint32{0, tick}, make([]uint32, inside(size)-1)...)...)
			g := get(t, 0, size)
			ends(t, g, m, inside(size)+2)
			gotAll(t, g, m, 1, "", tick)
		}
	}
}

// What was read stays what it is, whatever becomes of the memory.
func TestMessageStays(t *testing.T) {
	for _, size := range []int{1, 4, 5, api.MaxSize} {
		m, _ := memory(t, append([]uint32{2}, content(size, long(size, 4), 7)...)...)
		g := get(t, 0, size)
		ends(t, g, m, inside(size)+2)
		for at, v := range filled(3, 1+inside(size)) {
			m.Store(at, v)
			gotAll(t, g, m, 1, long(size, 4), 7)
		}
		ends(t, put(t, 0, size, "n", 8), m, inside(size)+2)
		gotAll(t, g, m, 1, long(size, 4), 7)
	}
}

// P13.3

// fresh checks what Fresh returns, against numbers that do not wrap around by themselves.
func fresh(t *testing.T, tick, now uint32, age uint16) {
	t.Helper()
	later := uint64(now)
	if now < tick {
		later += 1 << 32
	}
	want := later-uint64(tick) < uint64(age)
	if ok, e := slot.Fresh(tick, now, age); ok != want || e != api.OK {
		t.Errorf("Fresh(%d, %d, %d) = %t, %d", tick, now, age, ok, e)
	}
}

// A message is valid for age ticks, the one at which it was written among them, also across the end of all ticks; what was written later than now is not.
func TestFresh(t *testing.T) {
	ages := []uint16{1, 2, 3, 4, 5, 10, 127, 128, 255, 256, 257, 1000, 32767, 32768, 32769, 65533, 65534, 65535}
	for _, tick := range ticks {
		for _, age := range ages {
			a := uint32(age)
			for _, passed := range []uint32{0, 1, 2, a - 1, a, a + 1, 2 * a, 65533, 65534, 65535, 65536, 65537, 65536 + a, 1 << 24, 1<<31 - 1, 1 << 31, 1<<31 + 1, top - 65535, -a - 1, -a, -a + 1, top - 1, top} {
				fresh(t, tick, tick+passed, age)
			}
			for _, now := range ticks {
				fresh(t, tick, now, age)
			}
		}
	}
	s := source(3)
	for range 20000 {
		fresh(t, uint32(s.under(1<<24))<<8, uint32(s.under(1<<24))<<8, uint16(1+s.under(65535)))
	}
}

// Some of them, written out: just below, at and behind the end of all ticks, and the ages 1 and 65535.
func TestFreshTicks(t *testing.T) {
	for _, x := range []struct {
		tick, now uint32
		age       uint16
		want      bool
	}{
		{9, 12, 4, true}, {9, 13, 4, false}, {top, 1, 3, true}, {top, 2, 3, false}, {9, 8, 65535, false},
		{9, 9, 1, true}, {9, 10, 1, false}, {9, 8, 1, false}, {0, 0, 1, true}, {top, top, 1, true}, {top, 0, 1, false}, {top, 0, 2, true}, {0, top, 65535, false},
		{top - 1, top, 2, true}, {top - 1, 0, 2, false}, {top - 1, 0, 3, true},
		{0, 65534, 65535, true}, {0, 65535, 65535, false}, {0, 65536, 65535, false}, {0, 65536, 1, false}, {5, 65541, 65535, false},
		{top - 65533, 0, 65535, true}, {top - 65534, 0, 65535, false}, {top, 65533, 65535, true}, {top, 65534, 65535, false},
		{1 << 31, 0, 65535, false}, {0, 1 << 31, 65535, false}, {1<<31 - 1, 1 << 31, 2, true},
	} {
		if ok, e := slot.Fresh(x.tick, x.now, x.age); ok != x.want || e != api.OK {
			t.Errorf("%+v: %t, %d", x, ok, e)
		}
	}
}

// Nothing is valid for no ticks at all: that is an error, whatever the ticks are.
func TestNoAge(t *testing.T) {
	for _, tick := range ticks {
		for _, now := range ticks {
			if ok, e := slot.Fresh(tick, now, 0); ok || e != api.ErrSlotAge {
				t.Errorf("Fresh(%d, %d, 0) = %t, %d", tick, now, ok, e)
			}
		}
	}
}

// The chapter's examples.
func TestExamples(t *testing.T) {
	if n, e := slot.Words(5); n != 5 || e != api.OK {
		t.Errorf("Words(5) = %d, %d", n, e)
	}
	m, uses := memory(t, 0, 0, 0, 0, 0)
	none := get(t, 0, 5)
	ends(t, none, m, 6)
	got(t, none, 1, "", 0)
	p := put(t, 0, 5, "abcde", 9)
	ends(t, p, m, 6)
	wrote(t, p, 1)
	has(t, m, uses+12, 2, 9, 5, 0x61626364, 0x65000000)
	g := get(t, 0, 5)
	ends(t, g, m, 6)
	got(t, g, 1, "abcde", 9)
	got(t, none, 1, "", 0)
}

// P13.4

// note is what a slot may have: a message with its tick, or the empty string and 0 if there is none yet.
type note struct {
	message string
	tick    uint32
}

// group is a slot, puts that follow each other, and gets, as tasks of a machine, and what is seen of them. The puts are the first tasks.
type group struct {
	*steps.Machine
	memory *mem.Memory
	size   int
	notes  []note // what the slot has at first, and what each put writes
	puts   []*slot.Put
	gets   []*slot.Get
	wrote  int   // the puts' steps
	took   []int // each get's steps
	into   []int // how many of them are of the attempt that each get is in
	since  []int // how many puts were complete when each get last began an attempt
	quiet  []int // how many steps of its attempt each get has performed, 0 if a put has performed one meanwhile
	picks  int
}

// gather is a group, whose counter is an even one at first, and whose slot has a message of a put before, or none.
func gather(t *testing.T, counter uint32, size int, before bool, puts, gets int) *group {
	t.Helper()
	g := &group{size: size, notes: []note{{}}}
	g.memory, _ = memory(t, slices.Concat([]uint32{99, counter}, make([]uint32, inside(size)), []uint32{99})...)
	if before {
		g.notes[0] = note{long(size, 0), top - 1}
		ends(t, put(t, 1, size, g.notes[0].message, g.notes[0].tick), g.memory, inside(size)+2)
	}
	var tasks []steps.Task
	for i := range puts {
		// The ticks go beyond the end of all ticks, and the lengths differ from one message to the next one, if the size allows that.
		n := note{long(1+(i*5)%size, 1+i), top + uint32(i)}
		p := put(t, 1, size, n.message, n.tick)
		g.notes, g.puts, tasks = append(g.notes, n), append(g.puts, p), append(tasks, p)
	}
	for range gets {
		k := get(t, 1, size)
		g.gets, tasks = append(g.gets, k), append(tasks, k)
	}
	g.took, g.into, g.since, g.quiet = make([]int, gets), make([]int, gets), make([]int, gets), make([]int, gets)
	g.Machine = steps.New(g.memory, tasks...)
	return g
}

// complete is how many puts are complete.
func (g *group) complete() int { return g.wrote / (inside(g.size) + 2) }

// pick performs a step: 0 is the put whose turn it is, and the gets follow. What is done already is not picked.
func (g *group) pick(t *testing.T, which int) {
	t.Helper()
	// Far more than are needed: gets that never end must not be picked for ever.
	if g.picks++; g.picks > 50000 {
		t.Fatalf("%d tasks are not done", g.Left())
	}
	if which > 0 {
		g.get(t, which-1)
	} else if g.complete() < len(g.puts) {
		g.put(t)
	}
}

// put performs a step of the put whose turn it is.
func (g *group) put(t *testing.T) {
	t.Helper()
	i := g.complete()
	g.Pick(i)
	g.wrote++
	clear(g.quiet)
	written := g.complete() - i
	if g.puts[i].Written() != written || g.Done(i) != (written == 1) {
		t.Errorf("put %d: Written() = %d behind %d steps, done: %t", i, g.puts[i].Written(), g.wrote, g.Done(i))
	}
}

// get performs a step of a get, and checks what it has read, if it is done.
func (g *group) get(t *testing.T, i int) {
	t.Helper()
	k, task := g.gets[i], len(g.puts)+i
	if g.Done(task) {
		return
	}
	tries := k.Tries()
	g.Pick(task)
	g.took[i]++
	if k.Tries() > tries {
		g.into[i], g.since[i], g.quiet[i] = 1, g.complete(), 1
	} else {
		g.into[i] += min(g.into[i], 1)
		g.quiet[i] += min(g.quiet[i], 1)
	}
	message, tick, ok := k.Message()
	if ok != g.Done(task) || !ok && (message != "" || tick != 0) {
		t.Errorf("Message() = %q, %d, %t, done: %t", message, tick, ok, g.Done(task))
	}
	if ok {
		g.whole(t, i, note{message, tick})
		return
	}
	if g.quiet[i] >= inside(g.size)+2 {
		t.Errorf("get %d is not done with %d steps, although nothing was written", i, g.quiet[i])
	}
	if g.into[i] >= inside(g.size)+2 {
		g.into[i] = 0
	}
}

// whole checks that what a get has read is one message as it was written, with its tick, neither older nor newer than it may be.
func (g *group) whole(t *testing.T, i int, n note) {
	t.Helper()
	newest := g.complete()
	if g.wrote%(inside(g.size)+2) > 0 {
		newest++ // the one that is being written
	}
	which := slices.Index(g.notes, n)
	if which < g.since[i] || which > newest {
		t.Errorf("get %d has read %q, %d: message %d, not from %d to %d", i, n.message, n.tick, which, g.since[i], newest)
	}
}

// small is a group of which each order is played.
type small struct {
	size             int
	before           bool
	puts, gets, more int // each get takes at most so many steps in vain
	want             int // how many orders there are, if it is known
}

// orders plays each order of the steps; how many there are. The list is how an order begins.
func (c small) orders(t *testing.T, counter uint32, list []int) int {
	t.Helper()
	g := gather(t, counter, c.size, c.before, c.puts, c.gets)
	for _, which := range list {
		g.pick(t, which)
	}
	if t.Failed() {
		t.Fatalf("%+v from %d on, picked %v", c, counter, list)
	}
	if g.Left() == 0 {
		return 1
	}
	for i, took := range g.took {
		if took-g.into[i] > c.more {
			return 0
		}
	}
	count := 0
	for which := range 1 + c.gets {
		if which == 0 && g.complete() < c.puts || which > 0 && !g.Done(c.puts+which-1) {
			count += c.orders(t, counter, append(slices.Clone(list), which))
		}
	}
	return count
}

// Small groups, in each order: with a message before, and with none, across the wrap-around of the counter and of the ticks, and with gets that try again.
func TestAllOrders(t *testing.T) {
	for _, c := range []small{
		{4, true, 0, 1, 0, 1},
		{4, true, 1, 0, 0, 1},
		{4, false, 1, 1, 0, 2}, // ahead of the put, and behind it
		{8, true, 1, 1, 0, 2},
		{4, true, 3, 1, 0, 4},
		{1, false, 0, 2, 0, 252},
		{4, true, 1, 2, 0, 506}, // both ahead, or both behind, with 252 orders each; or one ahead and one behind
		{4, false, 1, 1, 1, 6},  // also with the counter found odd once, at any of four places
		{4, true, 1, 1, 7, 0},
		{1, false, 1, 1, 7, 0},
		{5, false, 1, 1, 6, 0},
		{5, true, 1, 1, 6, 0},
		{4, false, 2, 1, 5, 0},
		{4, true, 2, 1, 2, 0},
		{4, true, 3, 1, 2, 0},
	} {
		counters := []uint32{top - 3, top - 1, 0}
		if c.more > 1 || c.gets > 1 {
			counters = counters[:1] // there are many orders then
		}
		for _, counter := range counters {
			n := c.orders(t, counter, nil)
			if n < 1 || c.want > 0 && n != c.want {
				t.Errorf("%+v: %d orders", c, n)
			}
		}
	}
}

// source is a row of numbers that look drawn, and are the same each time.
type source uint32

// under is the next number, below n.
func (s *source) under(n int) int {
	*s = *s*1664525 + 1013904223
	return int(*s>>8) % n
}

// Longer messages, and more puts and gets, in many orders: picked evenly, or each one several times in a row.
func TestManyOrders(t *testing.T) {
	s, again, seen := source(9), 0, map[note]int{}
	for i := range 1500 {
		size := 1 + s.under(1+s.under(api.MaxSize))
		g := gather(t, evens[s.under(len(evens))]-uint32(2*s.under(3)), size, i%2 == 0, s.under(7), 1+s.under(5))
		for most := 1 + s.under(2*inside(size)+4); g.Left() > 0; {
			which := s.under(1 + len(g.gets))
			for range 1 + s.under(most) {
				g.pick(t, which)
			}
		}
		for _, k := range g.gets {
			again += k.Tries() - 1
			message, tick, _ := k.Message()
			seen[note{message[:min(len(message), 1)], tick}]++
		}
		if t.Failed() {
			t.Fatalf("%d puts of size %d, %d gets", len(g.puts), size, len(g.gets))
		}
	}
	// Gets have tried again, and have read nothing, the message before, and what each put has written.
	if again == 0 || len(seen) != 8 {
		t.Errorf("%d more tries; read: %v", again, seen)
	}
}

// A get never reads what is torn: it begins at any step of the puts, and these go on behind any of its steps.
func TestTorn(t *testing.T) {
	for _, size := range []int{1, 4, 8, 32} {
		for _, before := range []bool{false, true} {
			all := 2 * (inside(size) + 2)
			for begin := range all + 1 {
				for read := range inside(size) + 2 {
					for more := range all - begin + 1 {
						g := gather(t, top-1, size, before, 2, 1)
						for which, times := range []int{begin, read, more, 2*inside(size) + 3} {
							for range times {
								g.pick(t, which%2)
							}
						}
						for g.Left() > 0 {
							g.pick(t, 0)
							g.pick(t, 1)
						}
					}
				}
				if t.Failed() {
					t.Fatalf("size %d, before: %t, begun at step %d", size, before, begin)
				}
			}
		}
	}
}

// Gets alone are done with the same number of steps in any order: none of them is in the way of another one.
func TestGetsAlone(t *testing.T) {
	s := source(12)
	for size := 1; size <= api.MaxSize; size++ {
		g := gather(t, evens[size%len(evens)], size, size%2 == 0, 0, 1+size%5)
		uses := g.memory.Count()
		for g.Left() > 0 {
			g.pick(t, 1+s.under(len(g.gets)))
		}
		for i, k := range g.gets {
			got(t, k, 1, g.notes[0].message, g.notes[0].tick)
			if g.took[i] != inside(size)+2 {
				t.Errorf("get %d took %d steps", i, g.took[i])
			}
		}
		if c := g.memory.Count() - uses; c != (inside(size)+2)*len(g.gets) {
			t.Errorf("%d uses", c)
		}
	}
}

// Messages of each length, one over the other: a get between any two puts reads the one that is complete then, and how long it is valid.
func TestOneByOne(t *testing.T) {
	for size := 1; size <= api.MaxSize; size++ {
		m, _ := memory(t, append([]uint32{top - 5}, make([]uint32, inside(size))...)...)
		g := get(t, 0, size)
		ends(t, g, m, inside(size)+2)
		got(t, g, 1, "", 0)
		for i := range 3 * size {
			message, tick := long(1+(i*(size/2+1))%size, i), top-uint32(size)+uint32(i)
			ends(t, put(t, 0, size, message, tick), m, inside(size)+2)
			for range 2 {
				g := get(t, 0, size)
				ends(t, g, m, inside(size)+2)
				got(t, g, 1, message, tick)
				_, at, _ := g.Message()
				fresh(t, at, tick+2, 3)
				fresh(t, at, tick+3, 3)
			}
		}
	}
}

// Puts and gets are tasks: a machine performs their steps, beside tasks of other kinds.
func TestTasks(t *testing.T) {
	m, uses := memory(t, top-1, 0, 0, 0, 0)
	p, g, late := put(t, 0, 4, "abc", top), get(t, 0, 4), get(t, 0, 4)
	x := steps.New(m, p, g, steps.Adds(4, 4), late, get(t, 4, 4), put(t, 5, 4, "d", 1), put(t, -1, 1, "e", 2))
	if n := x.Run([]int{1, 0, 0, 1, 2, 3, 3, 5, 5, 6, 9, -1}); n != 9 || x.Left() != 5 || !x.Done(5) || !x.Done(6) {
		t.Errorf("Run = %d, %d left", n, x.Left())
	}
	wrote(t, p, 0)
	reads(t, g, 1)
	reads(t, late, 0)
	has(t, m, uses+7, top, top, 0, 0, 1)
	if n := x.Run([]int{1, 1, 1, 1, 0, 0, 3, 0}); n != 8 || !x.Done(0) || x.Left() != 4 {
		t.Errorf("Run = %d, %d left", n, x.Left())
	}
	wrote(t, p, 1)
	reads(t, g, 1)
	has(t, m, uses+15, 0, top, 3, 0x61626300, 1)
	if n := x.Round(99); n != 5 || x.Left() != 0 {
		t.Errorf("Round = %d, %d left", n, x.Left())
	}
	got(t, g, 2, "abc", top)
	got(t, late, 1, "abc", top)
	if e := x.Pick(1); e != api.ErrStepsDone {
		t.Errorf("Pick(1) = %d", e)
	}
}

// In any order, with any words

// record is what is known of a put or a get, step by step. Its words do not wrap around by themselves.
type record struct {
	at, size int
	writes   []uint32 // the words behind the counter; none for a get
	step     int      // of this attempt, from 0 on
	over     bool
	read     bool
	count    int // messages that are written, or tries
	counter  uint64
	loaded   []uint64
}

// next does what the next step should do; how many uses it is.
func (r *record) next(words []uint64) int {
	at := used(r.at, r.size, r.step)
	if r.over || at < 0 || at >= len(words) {
		r.over = true
		return 0
	}
	if len(r.writes) > 0 {
		r.write(&words[at])
	} else {
		r.load(words[at])
	}
	return 1
}

// write is a put's step.
func (r *record) write(word *uint64) {
	if 1 <= r.step && r.step <= len(r.writes) {
		*word = uint64(r.writes[r.step-1])
	} else {
		*word = (*word + 1) % (1 << 32)
	}
	if r.step++; r.step == len(r.writes)+2 {
		r.over = true
		r.count = 1
	}
}

// load is a get's step.
func (r *record) load(word uint64) {
	switch {
	case r.step == 0 && word%2 == 1:
	case r.step == 0:
		r.counter, r.loaded = word, nil
		r.count++
		r.step++
	case r.step <= inside(r.size):
		r.loaded = append(r.loaded, word)
		r.step++
	default:
		r.step = 0
		r.read = word == r.counter
		r.over = r.read
	}
}

// message is what was loaded, byte by byte.
func (r *record) message() string {
	var b []byte
	for i := range min(r.loaded[1], uint64(r.size)) {
		word := r.loaded[2+i/4]
		for range 3 - i%4 {
			word /= 256
		}
		b = append(b, byte(word%256))
	}
	return string(b)
}

// shows checks what a task tells of itself.
func (r *record) shows(t *testing.T, k steps.Task) {
	t.Helper()
	switch k := k.(type) {
	case *slot.Put:
		wrote(t, k, r.count)
	case *slot.Get:
		if r.read {
			got(t, k, r.count, r.message(), uint32(r.loaded[0]))
		} else {
			reads(t, k, r.count)
		}
	}
}

// narrow is words as the memory has them.
func narrow(words []uint64) []uint32 {
	var l []uint32
	for _, w := range words {
		l = append(l, uint32(w))
	}
	return l
}

// draw is a task, and its record.
func draw(t *testing.T, s *source) (steps.Task, *record) {
	t.Helper()
	r := &record{at: s.under(6) - 1, size: 1 + s.under(9)}
	if s.under(2) == 0 {
		return get(t, r.at, r.size), r
	}
	message, tick := long(1+s.under(r.size), s.under(200)), uint32(s.under(1<<24)*257)
	r.writes = content(r.size, message, tick)
	return put(t, r.at, r.size, message, tick), r
}

// Puts and gets whose slots overlap, or of which words are missing, of two memories of which one is smaller, do what the record of them tells: also several puts at a time, and of different sizes.
func TestManySteps(t *testing.T) {
	s, ways := source(10), map[[2]bool]int{}
	for range 3000 {
		first := uint64(evens[s.under(len(evens))])
		words := [2][]uint64{{first, first + 1, first, 3, 5, first, 8, 2}, {first, first, first}}
		var m [2]*mem.Memory
		var uses [2]int
		for i := range m {
			m[i], uses[i] = memory(t, narrow(words[i])...)
		}
		var tasks []steps.Task
		var records []*record
		for range 1 + s.under(4) {
			k, r := draw(t, &s)
			tasks, records = append(tasks, k), append(records, r)
		}
		for range 60 {
			which := s.under(60) / 59 // the smaller one now and then
			i := s.under(len(tasks))
			r := records[i]
			uses[which] += r.next(words[which])
			does(t, tasks[i], m[which], r.over)
			r.shows(t, tasks[i])
			has(t, m[which], uses[which], narrow(words[which])...)
			if t.Failed() {
				t.Fatalf("%+v", *r)
			}
		}
		for _, r := range records {
			if r.over {
				ways[[2]bool{len(r.writes) > 0, r.read || len(r.writes) > 0 && r.count == 1}]++
			}
		}
	}
	// Both kinds of tasks have ended in both ways.
	if len(ways) != 4 {
		t.Errorf("the ends are %v", ways)
	}
}

// P1 and the rules

// Any call with any arguments returns; no memory, and one that is not made by its package, have no words.
func TestAnyArguments(t *testing.T) {
	numbers := append(missing(4), 0, 1, 2, 4, 5, 31, 32, 33)
	m, _ := memory(t, 0, 0, 0, 0)
	for _, at := range numbers {
		for _, none := range []*mem.Memory{nil, {}} {
			p, g := put(t, at, 4, "a", 1), get(t, at, 4)
			does(t, p, none, true)
			does(t, g, none, true)
			wroteAll(t, p, m, 0)
			gotNone(t, g, m, 0)
		}
		for _, size := range numbers {
			n, e := slot.Words(size)
			p, writes := slot.NewPut(at, size, long(min(max(size, 0), 40), 1), uint32(at))
			g, loads := slot.NewGet(at, size)
			if writes != e || loads != e || (p == nil) != (e != api.OK) || (g == nil) != (e != api.OK) || (n == 0) != (e != api.OK) {
				t.Errorf("size %d: %d, %d, %d, %d", size, n, e, writes, loads)
			}
			if e != api.OK {
				continue
			}
			for range 20 {
				p.Step(m)
				g.Step(m)
				p.Written()
				g.Tries()
				g.Message()
			}
		}
	}
}

// Puts and gets have nothing in common but the memory, also those of the same message.
func TestApart(t *testing.T) {
	m, _ := memory(t, 0, 0, 0, 0)
	n, uses := memory(t, 0, 0, 0, 0)
	a, b, c := put(t, 0, 4, "abcd", 5), put(t, 0, 4, "abcd", 5), get(t, 0, 4)
	ends(t, a, m, 5)
	wrote(t, a, 1)
	wrote(t, b, 0)
	has(t, n, uses, 0, 0, 0, 0)
	goes(t, b, n, 3)
	ends(t, c, m, 5)
	got(t, c, 1, "abcd", 5)
	wrote(t, b, 0)
	has(t, n, uses+3, 1, 5, 4, 0)
	ends(t, b, n, 2)
	wrote(t, b, 1)
	has(t, n, uses+5, 2, 5, 4, 0x61626364)
}

// The results depend on nothing but the calls: the same ones again have the same results.
func TestAgain(t *testing.T) {
	play := func() []uint32 {
		s := source(11)
		g := gather(t, top-5, 7, true, 9, 3)
		var seen []uint32
		for g.Left() > 0 {
			g.pick(t, s.under(4))
			seen = append(seen, g.memory.Words()...)
			for _, k := range g.gets {
				message, tick, _ := k.Message()
				seen = append(append(seen, uint32(k.Tries()), tick), content(api.MaxSize, message, 0)...)
			}
		}
		return seen
	}
	want := play()
	for range 3 {
		if l := play(); !slices.Equal(l, want) {
			t.Errorf("%v, not %v", l, want)
		}
	}
}
