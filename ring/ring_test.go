package ring_test

import (
	"encoding/binary"
	"math"
	"slices"
	"strings"
	"testing"

	"purlin/api"
	"purlin/mem"
	"purlin/ring"
	"purlin/steps"
)

const top = math.MaxUint32 // the greatest index, and the greatest word: 0 follows

// indices is places of a head: at the beginning and at the end of all indices, and at the half.
var indices = []uint32{0, 1, 2, 5, 1<<31 - 1, 1 << 31, top - 7, top - 2, top - 1, top}

// capacities is all numbers of slots that a ring may have.
var capacities = []int{1, 2, 4, 8, 16, 32, 64, 128, 256, 512, 1024, 2048, 4096, 8192, 16384, 32768}

// noCapacities is numbers of slots that no ring has, among them some that are a capacity in their lower 32 or 16 bits.
var noCapacities = []int{
	0, 3, 5, 6, 7, 9, 10, 12, 15, 17, 24, 31, 33, 48, 100, 255, 257, 1000, 1023, 1025, 16383, 24576, 32767, 32769, 49152, 65535, 65536, 65537, 65538, 1 << 20,
	math.MaxInt32, 1 << 31, 1<<31 + 1, 1 << 32, 1<<32 + 1, 1<<32 + 2, 1<<32 + 32768, 1 << 40, 1 << 62, math.MaxInt - 1, math.MaxInt,
	-1, -2, -3, -4, -8, -32767, -32768, -32769, -65536, math.MinInt32, 1 - 1<<32, 4 - 1<<32, -1 << 32, math.MinInt + 1, math.MinInt,
}

// noSizes is sizes that no message has at most: below and above.
var noSizes = []int{0, -1, -2, -4, -5, -31, -32, -33, -256, math.MinInt32, 1 - 1<<32, math.MinInt + 1, math.MinInt, 33, 34, 35, 36, 63, 64, 255, 256, 257, 288, 65537, math.MaxInt32, 1 << 32, 1<<32 + 5, math.MaxInt - 3, math.MaxInt - 1, math.MaxInt}

// missing is numbers of no word, in a memory of n words: below and above.
func missing(n int) []int {
	return []int{
		-2, -3, -n - 1, -n - 2, -65536, math.MinInt32, -1 << 32, math.MinInt + 1, math.MinInt,
		n, n + 1, 2*n + 1, 65536 + n, 1 << 31, 1 << 32, 1<<32 + n, math.MaxInt32, math.MaxInt - 2, math.MaxInt - 1, math.MaxInt,
	}
}

// memory is a memory of some words, and how often it has been used so far.
func memory(t *testing.T, words ...uint32) (*mem.Memory, int) {
	t.Helper()
	m, e := mem.New(len(words))
	if e != api.OK {
		t.Fatalf("New(%d) = %d", len(words), e)
	}
	for at, v := range words {
		m.Store(at, v)
	}
	return m, m.Count()
}

// has checks all words of a memory, and how often it was used.
func has(t *testing.T, m *mem.Memory, uses int, want ...uint32) {
	t.Helper()
	if got := m.Words(); !slices.Equal(got, want) {
		t.Errorf("the words are %v, not %v", got, want)
	}
	if n := m.Count(); n != uses {
		t.Errorf("the memory was used %d times, not %d", n, uses)
	}
}

// sender is a sender that is as it should be.
func sender(t *testing.T, at, places, size int, messages ...string) *ring.Sender {
	t.Helper()
	s, e := ring.NewSender(at, places, size, messages)
	if s == nil || e != api.OK {
		t.Fatalf("NewSender(%d, %d, %d, %q) = %v, %d", at, places, size, messages, s, e)
	}
	return s
}

// receiver is a receiver that is as it should be.
func receiver(t *testing.T, at, places, size, times int) *ring.Receiver {
	t.Helper()
	r, e := ring.NewReceiver(at, places, size, times)
	if r == nil || e != api.OK {
		t.Fatalf("NewReceiver(%d, %d, %d, %d) = %v, %d", at, places, size, times, r, e)
	}
	return r
}

// sent checks what a sender tells, also when it is asked again, and although what it told before was changed.
func sent(t *testing.T, s *ring.Sender, want ...bool) {
	t.Helper()
	for range 3 {
		l := s.Sent()
		if !slices.Equal(l, want) {
			t.Errorf("Sent() = %v, not %v", l, want)
		}
		for i := range l {
			l[i] = !l[i]
		}
		_ = append(l, true, false, true)
	}
}

// got checks what a receiver tells, also when it is asked again, and although what it told before was changed.
func got(t *testing.T, r *ring.Receiver, want ...string) {
	t.Helper()
	for range 3 {
		l := r.Got()
		if !slices.Equal(l, want) {
			t.Errorf("Got() = %q, not %q", l, want)
		}
		for i := range l {
			l[i] += "!"
		}
		_ = append(l, "?", "", "??")
	}
}

// does checks what a step returns.
func does(t *testing.T, k steps.Task, m *mem.Memory, last bool) {
	t.Helper()
	if done := k.Step(m); done != last {
		t.Errorf("Step = %t", done)
	}
}

// goes performs some steps, none of which is the last one.
func goes(t *testing.T, k steps.Task, m *mem.Memory, n int) {
	t.Helper()
	for range n {
		does(t, k, m, false)
	}
}

// stays checks that a task that is done reports this again, and neither changes nor uses a memory, behind its last step.
func stays(t *testing.T, k steps.Task, m *mem.Memory) {
	t.Helper()
	uses, words := m.Count(), m.Words()
	for range 7 {
		does(t, k, m, true)
	}
	has(t, m, uses, words...)
}

// sentAll checks that a sender that is done stays so, in this memory.
func sentAll(t *testing.T, s *ring.Sender, m *mem.Memory, want ...bool) {
	t.Helper()
	sent(t, s, want...)
	stays(t, s, m)
	sent(t, s, want...)
}

// gotAll checks that a receiver that is done stays so, in this memory.
func gotAll(t *testing.T, r *ring.Receiver, m *mem.Memory, want ...string) {
	t.Helper()
	got(t, r, want...)
	stays(t, r, m)
	got(t, r, want...)
}

// perSlot is how many words a slot has: the length, and one for each four bytes that are begun.
func perSlot(size int) int {
	n := 1
	for bytes := 0; bytes < size; bytes += 4 {
		n++
	}
	return n
}

// packed is the words of a message's bytes.
func packed(message string) []uint32 {
	var words []uint32
	for b := append([]byte(message), 0, 0, 0); len(b) >= 4; b = b[4:] {
		words = append(words, binary.BigEndian.Uint32(b))
	}
	return words
}

// long is a message of n bytes, all of which differ from each other, and from those of another one at the same place.
func long(n, which int) string {
	b := make([]byte, n)
	for i := range b {
		b[i] = byte(0xF1 + i + 37*which)
	}
	return string(b)
}

// filled is n words that differ.
func filled(n int) []uint32 {
	words := make([]uint32, n)
	for i := range words {
		words[i] = 0x5A000000 + uint32(i)
	}
	return words
}

// layout is a ring in a memory: behind how many other words it is, and how many are behind it.
type layout struct{ at, places, size, behind int }

// words is how many words the memory has.
func (l layout) words() int { return l.at + 2 + l.places*perSlot(l.size) + l.behind }

// slot is the number of the first word of the slot of an index.
func (l layout) slot(index uint32) int {
	return l.at + 2 + int(uint64(index)%uint64(l.places))*perSlot(l.size)
}

// layouts is rings at the memory's edges, and within.
var layouts = []layout{
	{0, 1, 1, 0}, {0, 1, 4, 3}, {3, 1, 5, 0}, {2, 1, 32, 2}, {0, 2, 5, 0}, {1, 2, 3, 1}, {4, 2, 8, 0}, {0, 4, 9, 0},
	{5, 4, 2, 5}, {0, 8, 31, 0}, {1, 8, 7, 1}, {0, 16, 16, 0}, {7, 32, 12, 7},
}

// board is a memory, with what its words and uses should be.
type board struct {
	m     *mem.Memory
	words []uint32
	uses  int
}

// newBoard is a board of some words.
func newBoard(t *testing.T, words []uint32) *board {
	t.Helper()
	b := &board{words: words}
	b.m, b.uses = memory(t, words...)
	return b
}

// set changes a word, as another one would.
func (b *board) set(at int, v uint32) {
	b.words[at] = v
	b.m.Store(at, v)
	b.uses++
}

// does performs a step that uses one word, which is v behind it. All other words are others during this step: it neither depends on them, nor changes them.
func (b *board) does(t *testing.T, k steps.Task, at int, v uint32, last bool) {
	t.Helper()
	others := make([]uint32, len(b.words))
	for i := range others {
		others[i] = uint32(b.uses*31+i*7) * 2654435761
	}
	others[at] = b.words[at]
	b.put(others)
	does(t, k, b.m, last)
	others[at] = v
	b.uses++
	has(t, b.m, b.uses, others...)
	b.words[at] = v
	b.put(b.words)
}

// put stores all words.
func (b *board) put(words []uint32) {
	for i, v := range words {
		b.m.Store(i, v)
	}
	b.uses += len(words)
}

// P12.1

// Words counts the head, the tail, and for each slot the length and the words of a message.
func TestWords(t *testing.T) {
	for _, places := range capacities {
		for size := 1; size <= api.MaxSize; size++ {
			want := 2
			for range places {
				want += perSlot(size)
			}
			if n, e := ring.Words(places, size); n != want || e != api.OK {
				t.Errorf("Words(%d, %d) = %d, %d, not %d", places, size, n, e, want)
			}
		}
	}
	for _, c := range []struct{ places, size, want int }{
		{2, 5, 8}, {1, 1, 4}, {1, 3, 4}, {1, 4, 4}, {1, 5, 5}, {1, 8, 5}, {1, 9, 6}, {1, 28, 10}, {1, 29, 11}, {1, 32, 11}, {4, 4, 10}, {16, 32, 146}, {32768, 32, 294914}, {32768, 1, 65538},
	} {
		if n, e := ring.Words(c.places, c.size); n != c.want || e != api.OK {
			t.Errorf("%+v: %d, %d", c, n, e)
		}
	}
}

// refused checks that there are no words, no sender and no receiver of such a ring, wherever it is, and whatever else is asked for.
func refused(t *testing.T, places, size int, want api.Errno) {
	t.Helper()
	if n, e := ring.Words(places, size); n != 0 || e != want {
		t.Errorf("Words(%d, %d) = %d, %d", places, size, n, e)
	}
	for _, at := range append(missing(api.MaxMem), -1, 0, 1, 7) {
		for _, messages := range [][]string{nil, {}, {"a"}, {""}, {"ab", "", "c"}, {"a", strings.Repeat("b", 33)}} {
			if s, e := ring.NewSender(at, places, size, messages); s != nil || e != want {
				t.Errorf("NewSender(%d, %d, %d, %q) = %v, %d", at, places, size, messages, s, e)
			}
		}
		for _, times := range []int{math.MinInt, -1, 0, 1, 2, math.MaxInt} {
			if r, e := ring.NewReceiver(at, places, size, times); r != nil || e != want {
				t.Errorf("NewReceiver(%d, %d, %d, %d) = %v, %d", at, places, size, times, r, e)
			}
		}
	}
}

// A number of slots is a capacity. If it is none, that is what is wrong, whatever the size is.
func TestNoCapacity(t *testing.T) {
	for _, places := range noCapacities {
		for _, size := range append([]int{1, 4, 5, 31, 32}, noSizes...) {
			refused(t, places, size, api.ErrRingCap)
		}
	}
	for places := -100; places < 70000; places++ {
		want := api.ErrRingCap
		if slices.Contains(capacities, places) {
			want = api.OK
		}
		if _, e := ring.Words(places, 1); e != want {
			t.Errorf("Words(%d, 1): %d", places, e)
		}
	}
}

// Messages have from 1 to MaxSize bytes at most.
func TestNoSize(t *testing.T) {
	for _, places := range capacities {
		for _, size := range noSizes {
			refused(t, places, size, api.ErrRingSize)
		}
	}
}

// Each message has 1 to size bytes, also if only one of many has not, wherever it stands.
func TestMessageSizes(t *testing.T) {
	for size := 1; size <= api.MaxSize; size++ {
		good := []string{long(1, 1), long(size, 2), long((size+1)/2, 3), long(size, 4), long(1, 5)}
		for _, n := range []int{0, 1, 2, 3, 4, 5, 7, 8, 9, 31, 32, 33, 34, 35, 36, 63, 64, 255, 256, 257, 256 + size, 65536, 65536 + size} {
			for i := range good {
				list := slices.Clone(good)
				list[i] = strings.Repeat("x", n)
				for _, messages := range [][]string{list, list[i : i+1], list[:i+1], list[i:]} {
					for _, at := range []int{math.MinInt, -1, 0, 5, api.MaxMem, math.MaxInt} {
						s, e := ring.NewSender(at, 1<<(size%16), size, messages)
						if fits := 1 <= n && n <= size; fits && (s == nil || e != api.OK) || !fits && (s != nil || e != api.ErrRingSize) {
							t.Fatalf("NewSender for size %d, with %d bytes at %d: %v, %d", size, n, i, s, e)
						}
					}
				}
			}
		}
	}
}

// Bytes count, not characters.
func TestCharacters(t *testing.T) {
	if s, e := ring.NewSender(0, 1, 1, []string{"\u00e9"}); s != nil || e != api.ErrRingSize {
		t.Errorf("two bytes: %d", e)
	}
	m, _ := memory(t, 0, 0, 0, 0, 0)
	s, r := sender(t, 0, 1, 8, "\xff\x00\u20ac"), receiver(t, 0, 1, 8, 1)
	goes(t, s, m, 5)
	does(t, s, m, true)
	has(t, m, 11, 0, 1, 5, 0xFF00E282, 0xAC000000)
	goes(t, r, m, 5)
	does(t, r, m, true)
	got(t, r, "\xff\x00\u20ac")
}

// Wherever the ring is, there are a sender and a receiver; they have neither sent nor received anything.
func TestNew(t *testing.T) {
	for _, places := range capacities {
		for size := 1; size <= api.MaxSize; size++ {
			for _, at := range append(missing(api.MaxMem), -1, 0, 1, 7) {
				sent(t, sender(t, at, places, size, long(size, 0), long(1, 0)))
				got(t, receiver(t, at, places, size, 5))
			}
		}
	}
}

// P12.2

// sends performs all steps of one message, for which there is room: which words they use, and what the sender tells behind each of them.
func (b *board) sends(t *testing.T, l layout, s *ring.Sender, message string, before []bool, last bool) {
	t.Helper()
	tail := b.words[l.at+1]
	b.does(t, s, l.at, b.words[l.at], false)
	sent(t, s, before...)
	b.does(t, s, l.at+1, tail, false)
	sent(t, s, before...)
	for i, v := range append([]uint32{uint32(len(message))}, packed(message)...) {
		b.does(t, s, l.slot(tail)+i, v, false)
		sent(t, s, before...)
	}
	b.does(t, s, l.at+1, tail+1, last)
	sent(t, s, append(slices.Clone(before), true)...)
}

// refuses performs both steps of a message for which there is no room.
func (b *board) refuses(t *testing.T, l layout, s *ring.Sender, before []bool, last bool) {
	t.Helper()
	b.does(t, s, l.at, b.words[l.at], false)
	sent(t, s, before...)
	b.does(t, s, l.at+1, b.words[l.at+1], last)
	sent(t, s, append(slices.Clone(before), false)...)
}

// Each step of a sender, message by message, from any index on, until the ring is full; then what it does not send; and what it sends into a slot that has become free.
func TestSenderSteps(t *testing.T) {
	for _, l := range layouts {
		for _, head := range indices {
			b := newBoard(t, filled(l.words()))
			b.set(l.at, head)
			b.set(l.at+1, head)
			var messages []string
			for i := range l.places + 4 {
				messages = append(messages, long(1+(i*7+l.places)%l.size, i))
			}
			messages[0] = long(l.size, 0)
			s := sender(t, l.at, l.places, l.size, messages...)
			var before []bool
			for _, message := range messages[:l.places] {
				b.sends(t, l, s, message, before, false)
				before = append(before, true)
			}
			for range 2 {
				b.refuses(t, l, s, before, false)
				before = append(before, false)
			}
			b.set(l.at, head+1)
			b.sends(t, l, s, messages[l.places+2], before, false)
			b.refuses(t, l, s, append(before, true), true)
			sentAll(t, s, b.m, append(before, true, false)...)
			if t.Failed() {
				t.Fatalf("%+v from %d on", l, head)
			}
		}
	}
}

// Messages of each length, in rings for each size: the words that a message does not need stay what they were.
func TestSentLengths(t *testing.T) {
	for size := 1; size <= api.MaxSize; size++ {
		l := layout{2, 2, size, 2}
		for n := 1; n <= size; n++ {
			for tail := range uint32(2) {
				b := newBoard(t, filled(l.words()))
				b.set(l.at, tail)
				b.set(l.at+1, tail)
				s := sender(t, l.at, l.places, size, long(n, 3))
				b.sends(t, l, s, long(n, 3), nil, true)
				sentAll(t, s, b.m, true)
			}
		}
		if t.Failed() {
			t.Fatalf("size %d", size)
		}
	}
}

// A message is sent if fewer slots are used than there are. A head and a tail may be further apart than that: then it is not sent either.
func TestRoom(t *testing.T) {
	for _, places := range capacities {
		n := uint32(places)
		for _, head := range indices {
			for _, used := range []uint32{0, 1, n / 2, n - 1, n, n + 1, n + 2, 2*n - 1, 2 * n, 2*n + 1, 3 * n, 65536, 65536 + n - 1, 1<<31 - 1, 1 << 31, 1<<31 + n - 1, -n - 1, -n, -n + 1, top - 1, top} {
				m, uses := memory(t, head, head+used)
				s := sender(t, 0, places, 1, "x")
				does(t, s, m, false)
				has(t, m, uses+1, head, head+used)
				does(t, s, m, used >= n)
				has(t, m, uses+2, head, head+used)
				if used < n {
					sent(t, s)
				} else {
					sentAll(t, s, m, false)
				}
				if t.Failed() {
					t.Fatalf("%d slots, from %d on %d", places, head, used)
				}
			}
		}
	}
}

// A ring with one slot left: the message is sent into that slot, and the next one is not sent.
func TestLastSlot(t *testing.T) {
	for _, l := range layouts {
		for _, head := range indices {
			b := newBoard(t, filled(l.words()))
			b.set(l.at, head)
			b.set(l.at+1, head+uint32(l.places)-1)
			s := sender(t, l.at, l.places, l.size, "x", "y")
			b.sends(t, l, s, "x", nil, false)
			b.refuses(t, l, s, []bool{true}, true)
			sentAll(t, s, b.m, true, false)
		}
	}
}

// What counts is the head as the first step found it, and the tail as the second step found it, whatever they become meanwhile; each message looks again.
func TestSenderLooksOnce(t *testing.T) {
	l := layout{1, 2, 4, 1}
	b := newBoard(t, filled(l.words()))
	b.set(1, 5)
	b.set(2, 7)
	s := sender(t, 1, 2, 4, "a", "b", "c", "d")
	b.does(t, s, 1, 5, false)
	b.set(1, 7) // too late for the first message
	b.does(t, s, 2, 7, false)
	sent(t, s, false)
	b.does(t, s, 1, 7, false)
	b.set(1, 5) // and this for the second one
	b.does(t, s, 2, 7, false)
	sent(t, s, false)
	b.set(2, 100)
	b.does(t, s, l.slot(7), 1, false)
	b.set(2, 200)
	b.does(t, s, l.slot(7)+1, 0x62000000, false)
	b.set(2, 300)
	b.does(t, s, 2, 8, false)
	sent(t, s, false, true)
	b.set(1, 11)
	b.does(t, s, 1, 11, false)
	b.set(2, 12)
	b.does(t, s, 2, 12, false)
	b.does(t, s, l.slot(12), 1, false)
	b.does(t, s, l.slot(12)+1, 0x63000000, false)
	b.does(t, s, 2, 13, false)
	b.refuses(t, l, s, []bool{false, true, true}, true)
	sentAll(t, s, b.m, false, true, true, false)
}

// A sender without messages is done with its first step, which does not use the memory, whether its words exist or not.
func TestNoMessages(t *testing.T) {
	m, uses := memory(t, 5, 5, 5, 5)
	some := []string{"a", "b"}
	for _, messages := range [][]string{nil, {}, some[:0], some[2:]} {
		for _, at := range append(missing(4), -1, 0, 1, 2, 3) {
			s := sender(t, at, 1, 4, messages...)
			sent(t, s)
			does(t, s, m, true)
			sentAll(t, s, m)
		}
	}
	has(t, m, uses, 5, 5, 5, 5)
}

// receives performs all steps of a try that receives a message, of which the slot has this length: which words they use, and what the receiver tells behind each of them.
func (b *board) receives(t *testing.T, l layout, r *ring.Receiver, message string, length uint32, before []string, last bool) {
	t.Helper()
	head := b.words[l.at]
	b.does(t, r, l.at+1, b.words[l.at+1], false)
	got(t, r, before...)
	b.does(t, r, l.at, head, false)
	got(t, r, before...)
	b.does(t, r, l.slot(head), length, false)
	got(t, r, before...)
	for i := range packed(message) {
		at := l.slot(head) + 1 + i
		b.does(t, r, at, b.words[at], false)
		got(t, r, before...)
	}
	b.does(t, r, l.at, head+1, last)
	got(t, r, append(slices.Clone(before), message)...)
}

// misses performs both steps of a try that receives nothing.
func (b *board) misses(t *testing.T, l layout, r *ring.Receiver, before []string, last bool) {
	t.Helper()
	b.does(t, r, l.at+1, b.words[l.at+1], false)
	got(t, r, before...)
	b.does(t, r, l.at, b.words[l.at], last)
	got(t, r, append(slices.Clone(before), "")...)
}

// fill puts a message into a slot, with this length; the bytes that it does not need are not 0.
func (b *board) fill(l layout, index uint32, message string, length uint32) {
	b.set(l.slot(index), length)
	for i := range perSlot(l.size) - 1 {
		b.set(l.slot(index)+1+i, 0xEEEEEEEE)
	}
	for i, v := range packed(message) {
		if rest := len(message) - 4*i; rest < 4 {
			v |= 0xEEEEEEEE >> (8 * rest)
		}
		b.set(l.slot(index)+1+i, v)
	}
}

// Each step of a receiver, try by try, from any index on, until the ring is empty; then what it does not receive; and what it receives when there is a message again.
func TestReceiverSteps(t *testing.T) {
	for _, l := range layouts {
		for _, head := range indices {
			b := newBoard(t, filled(l.words()))
			b.set(l.at, head)
			b.set(l.at+1, head+uint32(l.places))
			r := receiver(t, l.at, l.places, l.size, l.places+4)
			var before []string
			for i := range l.places {
				message := long(1+(i*5+l.size-1)%l.size, i)
				b.fill(l, head+uint32(i), message, uint32(len(message)))
				b.receives(t, l, r, message, uint32(len(message)), before, false)
				before = append(before, message)
			}
			for range 2 {
				b.misses(t, l, r, before, false)
				before = append(before, "")
			}
			tail := b.words[l.at+1]
			b.fill(l, tail, "x", 1)
			b.set(l.at+1, tail+1)
			b.receives(t, l, r, "x", 1, before, false)
			b.misses(t, l, r, append(before, "x"), true)
			gotAll(t, r, b.m, append(before, "x", "")...)
			if t.Failed() {
				t.Fatalf("%+v from %d on", l, head)
			}
		}
	}
}

// The length of a message counts from 1 to size: 0 counts as 1, and more as size.
func TestLengths(t *testing.T) {
	for size := 1; size <= api.MaxSize; size++ {
		l, n := layout{3, 2, size, 3}, uint32(size)
		lengths := []uint32{0, n + 1, n + 2, n + 4, 2 * n, 33, 255, 256, 257, 65536, 65537, 65536 + n, 1<<31 - 1, 1 << 31, 1<<31 + 1, 1<<31 + n, -n, top - 1, top}
		for length := range n {
			lengths = append(lengths, length+1)
		}
		for i, length := range lengths {
			head, count := uint32(i), int(n)
			if length < n {
				count = max(int(length), 1)
			}
			b := newBoard(t, filled(l.words()))
			b.set(l.at, head)
			b.set(l.at+1, head+1)
			b.fill(l, head, long(size, i), length)
			r := receiver(t, l.at, l.places, size, 1)
			b.receives(t, l, r, long(size, i)[:count], length, nil, true)
			gotAll(t, r, b.m, long(size, i)[:count])
			if t.Failed() {
				t.Fatalf("size %d, length %d", size, length)
			}
		}
	}
}

// A try receives something unless the head and the tail are equal, also if they are further apart than there are slots.
func TestEmpty(t *testing.T) {
	for _, places := range capacities {
		n := uint32(places)
		for _, head := range indices {
			for _, used := range []uint32{0, 1, n - 1, n, n + 1, 2 * n, 256, 65536, 1<<31 - 1, 1 << 31, 1<<31 + 1, -n, top - 1, top} {
				m, uses := memory(t, head, head+used)
				r := receiver(t, 0, places, 1, 1)
				does(t, r, m, false)
				has(t, m, uses+1, head, head+used)
				does(t, r, m, used == 0)
				has(t, m, uses+2, head, head+used)
				if used == 0 {
					gotAll(t, r, m, "")
				} else {
					got(t, r)
				}
				if t.Failed() {
					t.Fatalf("%d slots, from %d on %d", places, head, used)
				}
			}
		}
	}
	for _, l := range layouts {
		for _, used := range []uint32{uint32(l.places) + 1, uint32(l.places) + 2, 1 << 31, top - 1, top} {
			b := newBoard(t, filled(l.words()))
			b.set(l.at, top)
			b.set(l.at+1, top+used)
			b.fill(l, top, long(l.size, 5), uint32(l.size))
			r := receiver(t, l.at, l.places, l.size, 1)
			b.receives(t, l, r, long(l.size, 5), uint32(l.size), nil, true)
			gotAll(t, r, b.m, long(l.size, 5))
		}
	}
}

// What counts is the tail as the first step found it, and the head as the second step found it, whatever they become meanwhile; each try looks again.
func TestReceiverLooksOnce(t *testing.T) {
	l := layout{1, 4, 4, 1}
	b := newBoard(t, filled(l.words()))
	b.set(1, 6)
	b.set(2, 6)
	b.fill(l, 6, "abcd", 4)
	b.fill(l, 7, "efgh", 4)
	r := receiver(t, 1, 4, 4, 3)
	b.does(t, r, 2, 6, false)
	b.set(2, 7) // too late for the first try
	b.does(t, r, 1, 6, false)
	got(t, r, "")
	b.does(t, r, 2, 7, false)
	b.set(2, 6) // and this for the second one
	b.does(t, r, 1, 6, false)
	b.set(1, 100)
	b.does(t, r, l.slot(6), 4, false)
	b.set(l.slot(6), 2) // it is loaded already
	b.does(t, r, l.slot(6)+1, 0x61626364, false)
	b.set(l.slot(6)+1, 0)
	b.set(1, 200)
	got(t, r, "")
	b.does(t, r, 1, 7, false)
	got(t, r, "", "abcd")
	b.set(2, 9)
	b.receives(t, l, r, "efgh", 4, []string{"", "abcd"}, true)
	gotAll(t, r, b.m, "", "abcd", "efgh")
}

// A receiver has as many tries as it is asked for, but not fewer than none: without any, it is done with its first step, which does not use the memory, whether its words exist or not.
func TestTimes(t *testing.T) {
	m, uses := memory(t, 5, 5, 5, 5)
	for _, times := range []int{0, -1, -2, -256, math.MinInt32, 1 - 1<<32, math.MinInt + 1, math.MinInt} {
		for _, at := range append(missing(4), -1, 0, 1, 2, 3) {
			r := receiver(t, at, 1, 4, times)
			got(t, r)
			does(t, r, m, true)
			gotAll(t, r, m)
		}
	}
	has(t, m, uses, 5, 5, 5, 5)
	for _, times := range []int{1, 2, 3, 7, 255, 256, 257, 1000} {
		m, uses := memory(t, 9, 9)
		r := receiver(t, 0, 4, 4, times)
		for i := range times {
			if l := r.Got(); len(l) != i {
				t.Errorf("%d tries, not %d", len(l), i)
			}
			does(t, r, m, false)
			does(t, r, m, i == times-1)
		}
		has(t, m, uses+2*times, 9, 9)
		gotAll(t, r, m, make([]string, times)...)
	}
	for _, times := range []int{math.MaxInt32, 1 << 32, 1<<32 + 1, math.MaxInt} {
		m, _ := memory(t, 9, 9)
		r := receiver(t, 0, 4, 4, times)
		goes(t, r, m, 50)
		got(t, r, make([]string, 25)...)
	}
}

// A ring may have more slots than the memory has words: those that exist can be used, and a message of another one finds that its word is missing.
func TestGreatRings(t *testing.T) {
	for _, places := range capacities[8:] {
		for _, size := range []int{1, 32} {
			per := perSlot(size)
			for _, index := range []uint32{0, 200, 4093 / uint32(per), 4094 / uint32(per), uint32(places) / 4, uint32(places) / 2, uint32(places) - 1, uint32(places), uint32(3*places) - 2, 1<<31 + 100, top} {
				words := make([]uint32, api.MaxMem)
				words[0], words[1] = index, index
				m, uses := memory(t, words...)
				s, r := sender(t, 0, places, size, long(size, 1)), receiver(t, 0, places, size, 1)
				slot := 2 + int(index)%places*per
				rest := min(max(len(words)-slot, 0), per)
				goes(t, s, m, 2+rest)
				does(t, s, m, true)
				copy(words[min(slot, len(words)):], append([]uint32{uint32(size)}, packed(long(size, 1))...))
				if rest < per {
					has(t, m, uses+2+rest, words...)
					sentAll(t, s, m)
					words[1]++
					m.Store(1, words[1])
					goes(t, r, m, 2+rest)
					does(t, r, m, true)
					has(t, m, uses+5+2*rest, words...)
					gotAll(t, r, m)
				} else {
					words[1]++
					has(t, m, uses+3+rest, words...)
					sentAll(t, s, m, true)
					goes(t, r, m, 2+rest)
					does(t, r, m, true)
					words[0]++
					has(t, m, uses+6+2*rest, words...)
					gotAll(t, r, m, long(size, 1))
				}
				if t.Failed() {
					t.Fatalf("%d slots, size %d, index %d", places, size, index)
				}
			}
		}
	}
}

// The first step of a sender finds that there is no head, and that of a receiver that there is no tail, below the memory and above it.
func TestFirstWordMissing(t *testing.T) {
	for _, size := range []int{1, 2, 5, 20, api.MaxMem} {
		words := filled(size)
		m, uses := memory(t, words...)
		for _, at := range missing(size) {
			s, r := sender(t, at, 2, 5, "a", "b"), receiver(t, at, 2, 5, 2)
			does(t, s, m, true)
			sentAll(t, s, m)
			does(t, r, m, true)
			gotAll(t, r, m)
			has(t, m, uses, words...)
		}
		s := sender(t, -1, 2, 5, "a")
		does(t, s, m, true)
		sentAll(t, s, m)
		has(t, m, uses, words...)
	}
}

// The second step finds it: the tail is above a memory whose last word is the head, and the head is below one whose first word is the tail. That word is not taken for 0.
func TestSecondWordMissing(t *testing.T) {
	for _, size := range []int{1, 2, 5, 20, api.MaxMem} {
		for _, v := range []uint32{0, 1, 2, 3, top} {
			words := filled(size)
			words[0], words[size-1] = v, v
			m, uses := memory(t, words...)
			s, r := sender(t, size-1, 2, 5, "a", "b"), receiver(t, -1, 2, 5, 2)
			does(t, s, m, false)
			does(t, s, m, true)
			has(t, m, uses+1, words...)
			sentAll(t, s, m)
			does(t, r, m, false)
			does(t, r, m, true)
			has(t, m, uses+2, words...)
			gotAll(t, r, m)

			r = receiver(t, size-1, 2, 5, 2)
			does(t, r, m, true)
			has(t, m, uses+2, words...)
			gotAll(t, r, m)
		}
	}
}

// The length, or a word of the message, is behind the end of the memory: of slot 0, or of one that the index chooses.
func TestSlotMissing(t *testing.T) {
	for _, l := range []layout{{0, 1, 1, 0}, {3, 1, 12, 0}, {0, 2, 5, 0}, {5, 4, 32, 0}, {1, 8, 9, 0}} {
		for i := range l.places {
			index := uint32(i - 8*l.places)
			for rest := range perSlot(l.size) {
				words := filled(l.slot(index) + rest)
				words[l.at], words[l.at+1] = index, index
				m, uses := memory(t, words...)
				s := sender(t, l.at, l.places, l.size, long(l.size, 1), "b")
				goes(t, s, m, 2+rest)
				does(t, s, m, true)
				if rest > 0 {
					copy(words[l.slot(index):], append([]uint32{uint32(l.size)}, packed(long(l.size, 1))...))
				}
				has(t, m, uses+2+rest, words...)
				sentAll(t, s, m)

				words[l.at+1]++
				m, uses = memory(t, words...)
				r := receiver(t, l.at, l.places, l.size, 2)
				goes(t, r, m, 2+rest)
				does(t, r, m, true)
				has(t, m, uses+2+rest, words...)
				gotAll(t, r, m)
				if t.Failed() {
					t.Fatalf("%+v, slot %d, %d words of it", l, i, rest)
				}
			}
		}
	}
}

// Each step may be the one that finds its word missing: a memory of fewer words than the one before has come. What was sent or received before stays so, and nothing is counted for the current message or try.
func TestNoWordAnyMore(t *testing.T) {
	l := layout{3, 2, 9, 0}
	message := long(9, 1)
	slot := l.slot(top)
	for _, before := range []int{0, 1, 2} {
		for step := range 7 {
			sends := []int{3, 4, slot, slot + 1, slot + 2, slot + 3, 4}[step]
			receives := []int{4, 3, slot, slot + 1, slot + 2, slot + 3, 3}[step]
			for size := 1; size <= max(sends, receives); size++ {
				few := slices.Repeat([]uint32{5}, size)
				if size <= sends {
					b := newBoard(t, filled(l.words()))
					s := sender(t, l.at, l.places, l.size, message, message, message, message)
					for range before {
						b.set(l.at, top-1)
						b.set(l.at+1, top)
						for range 7 {
							s.Step(b.m)
						}
					}
					b.set(l.at, top-1)
					b.set(l.at+1, top)
					goes(t, s, b.m, step)
					small, uses := memory(t, few...)
					does(t, s, small, true)
					has(t, small, uses, few...)
					sentAll(t, s, small, slices.Repeat([]bool{true}, before)...)
					sentAll(t, s, b.m, slices.Repeat([]bool{true}, before)...)
				}
				if size <= receives {
					b := newBoard(t, filled(l.words()))
					b.fill(l, top, message, 9)
					r := receiver(t, l.at, l.places, l.size, 4)
					for range before {
						b.set(l.at, top)
						b.set(l.at+1, 0)
						for range 7 {
							r.Step(b.m)
						}
					}
					b.set(l.at, top)
					b.set(l.at+1, 0)
					goes(t, r, b.m, step)
					small, uses := memory(t, few...)
					does(t, r, small, true)
					has(t, small, uses, few...)
					gotAll(t, r, small, slices.Repeat([]string{message}, before)...)
					gotAll(t, r, b.m, slices.Repeat([]string{message}, before)...)
				}
				if t.Failed() {
					t.Fatalf("behind %d, step %d, %d words", before, step, size)
				}
			}
		}
	}
}

// The chapter's example, with what the words are behind each step.
func TestExample(t *testing.T) {
	m, uses := memory(t, 0, 0, 0, 0, 0, 0, 0, 0)
	s := sender(t, 0, 2, 5, "ab", "c")
	for i, want := range [][]uint32{
		{0, 0, 0, 0, 0, 0, 0, 0},
		{0, 0, 0, 0, 0, 0, 0, 0},
		{0, 0, 2, 0, 0, 0, 0, 0},
		{0, 0, 2, 0x61620000, 0, 0, 0, 0},
		{0, 1, 2, 0x61620000, 0, 0, 0, 0},
	} {
		sent(t, s)
		does(t, s, m, false)
		has(t, m, uses+i+1, want...)
	}
	sent(t, s, true)
	r := receiver(t, 0, 2, 5, 1)
	goes(t, r, m, 4)
	has(t, m, uses+9, 0, 1, 2, 0x61620000, 0, 0, 0, 0)
	got(t, r)
	does(t, r, m, true)
	has(t, m, uses+10, 1, 1, 2, 0x61620000, 0, 0, 0, 0)
	gotAll(t, r, m, "ab")
	goes(t, s, m, 4)
	does(t, s, m, true)
	has(t, m, uses+15, 1, 2, 2, 0x61620000, 0, 1, 0x63000000, 0)
	sentAll(t, s, m, true, true)
}

// DOC.md's example: a ring of two slots takes two messages, and not the third one; the first one is received.
func TestTwoOfThree(t *testing.T) {
	m, _ := memory(t, make([]uint32, 8)...)
	s, r := sender(t, 0, 2, 5, "one", "two", "three"), receiver(t, 0, 2, 5, 1)
	x := steps.New(m, s, r)
	if n := x.Run(slices.Repeat([]int{0}, 20)); n != 12 || !x.Done(0) {
		t.Errorf("%d steps", n)
	}
	sent(t, s, true, true, false)
	if n := x.Run(slices.Repeat([]int{1}, 20)); n != 5 || x.Left() != 0 {
		t.Errorf("%d steps", n)
	}
	got(t, r, "one")
}

// Senders and receivers are tasks: a machine performs their steps, beside tasks of other kinds.
func TestTasks(t *testing.T) {
	m, uses := memory(t, top, top, 0, 0, 0, 0, 0, 0, 0)
	s, r := sender(t, 0, 2, 5, "abcde", "f"), receiver(t, 0, 2, 5, 3)
	none, lost := sender(t, 0, 2, 5), receiver(t, 9, 2, 5, 1)
	x := steps.New(m, s, steps.Adds(8, 3), r, none, lost, receiver(t, 0, 2, 5, 0))
	if n := x.Run([]int{3, 3, 4, 4, 5, 5, 2, 0, 2, 0, 6, 1}); n != 8 || x.Left() != 3 || !x.Done(3) || !x.Done(4) || !x.Done(5) {
		t.Errorf("Run = %d, %d left", n, x.Left())
	}
	got(t, r, "")
	sent(t, s)
	has(t, m, uses+5, top, top, 0, 0, 0, 0, 0, 0, 1)
	if n := x.Run([]int{0, 0, 0, 0, 2, 2, 2, 2, 2}); n != 9 || x.Left() != 3 {
		t.Errorf("Run = %d, %d left", n, x.Left())
	}
	got(t, r, "")
	sent(t, s, true)
	has(t, m, uses+14, top, 0, 0, 0, 0, 5, 0x61626364, 0x65000000, 1)
	// The receiver finishes its second try, and then finds the ring empty, two steps ahead of the end of the second message.
	if n := x.Round(99); n != 5 || x.Left() != 0 {
		t.Errorf("Round = %d, %d left", n, x.Left())
	}
	got(t, r, "", "abcde", "")
	sent(t, s, true, true)
	has(t, m, uses+24, 0, 1, 1, 0x66000000, 0, 5, 0x61626364, 0x65000000, 3)
	if e := x.Pick(2); e != api.ErrStepsDone {
		t.Errorf("Pick(2) = %d", e)
	}
}

// The record: senders and receivers as they should be, in any order, with any words

// record is what is known of a sender or a receiver, step by step, as the chapter numbers them.
type record struct {
	layout
	sends      bool
	messages   []string // of a sender
	times      int      // of a receiver
	step, word int
	head, tail uint32
	length     uint32
	bytes      []byte
	sent       []bool
	got        []string
	over       bool
}

// uses is the number of the word that the next step uses.
func (r *record) uses() int {
	index := r.head
	if r.sends {
		index = r.tail
	}
	switch {
	case r.step == 3:
		return r.slot(index)
	case r.step == 4:
		return r.slot(index) + 1 + r.word
	case r.sends == (r.step == 1):
		return r.at
	}
	return r.at + 1
}

// next does what the next step should do; how many uses it is.
func (r *record) next(words []uint32) int {
	if r.step == 0 {
		r.step = 1
		r.over = len(r.messages)+max(r.times, 0) == 0
	}
	at := r.uses()
	if r.over || at < 0 || at >= len(words) {
		r.over = true
		return 0
	}
	step := r.step
	r.step++
	if r.sends {
		r.send(step, &words[at])
	} else {
		r.receive(step, &words[at])
	}
	return 1
}

// send is a sender's step.
func (r *record) send(step int, word *uint32) {
	message := r.messages[len(r.sent)]
	switch step {
	case 1:
		r.head = *word
	case 2:
		r.tail = *word
		if uint64(r.tail-r.head) >= uint64(r.places) {
			r.sent = append(r.sent, false)
			r.again(len(r.sent) == len(r.messages))
		}
	case 3:
		*word = uint32(len(message))
	case 4:
		*word = packed(message)[r.word]
		r.more(len(packed(message)))
	case 5:
		*word = r.tail + 1
		r.sent = append(r.sent, true)
		r.again(len(r.sent) == len(r.messages))
	}
}

// receive is a receiver's step.
func (r *record) receive(step int, word *uint32) {
	switch step {
	case 1:
		r.tail = *word
	case 2:
		r.head = *word
		if r.tail == r.head {
			r.got = append(r.got, "")
			r.again(len(r.got) == r.times)
		}
	case 3:
		r.length = *word
		if r.length == 0 {
			r.length = 1
		}
		if r.length > uint32(r.size) {
			r.length = uint32(r.size)
		}
		r.bytes = nil
	case 4:
		r.bytes = binary.BigEndian.AppendUint32(r.bytes, *word)
		r.more(int(r.length-1)/4 + 1)
	case 5:
		*word = r.head + 1
		r.got = append(r.got, string(r.bytes[:r.length]))
		r.again(len(r.got) == r.times)
	}
}

// more goes on to the next one of some words, if there is one, by step 4 again.
func (r *record) more(words int) {
	r.word++
	if r.word < words {
		r.step = 4
	} else {
		r.word = 0
	}
}

// again goes on to the next message or try, unless it was the last one.
func (r *record) again(last bool) {
	r.step, r.over = 1, last
}

// source is a row of numbers that look drawn, and are the same each time.
type source uint32

// under is the next number, below n.
func (s *source) under(n int) int {
	*s = *s*1664525 + 1013904223
	return int(*s>>8) % n
}

// draw is a task, and its record.
func draw(t *testing.T, s *source) (steps.Task, *record) {
	t.Helper()
	r := &record{layout: layout{at: s.under(5) - 1, places: 1 << s.under(3), size: 1 + s.under(9)}, sends: s.under(2) == 0}
	if !r.sends {
		r.times = s.under(6) - 1
		return receiver(t, r.at, r.places, r.size, r.times), r
	}
	for range s.under(5) {
		r.messages = append(r.messages, long(1+s.under(r.size), s.under(200)))
	}
	return sender(t, r.at, r.places, r.size, r.messages...), r
}

// Senders and receivers of rings that overlap, or whose words are missing, of two memories of which one is smaller, and whose words are changed by others, do what the record of them tells: also several senders and receivers of one ring.
func TestManySteps(t *testing.T) {
	s, ends := source(10), map[[2]int]int{}
	for range 4000 {
		first := indices[s.under(len(indices))]
		words := [2][]uint32{{first, first, first + 1, first, 3, first, first + 2, 8, 1, 9, 4, 0, first, 70}, {first, first, first + 1}}
		var m [2]*mem.Memory
		var uses [2]int
		for i := range m {
			m[i], uses[i] = memory(t, words[i]...)
		}
		var tasks []steps.Task
		var records []*record
		for range 1 + s.under(4) {
			k, r := draw(t, &s)
			tasks, records = append(tasks, k), append(records, r)
		}
		for range 70 {
			which := s.under(90) / 89 // the smaller one now and then
			i := s.under(len(tasks))
			r := records[i]
			uses[which] += r.next(words[which])
			does(t, tasks[i], m[which], r.over)
			switch k := tasks[i].(type) {
			case *ring.Sender:
				sent(t, k, r.sent...)
			case *ring.Receiver:
				got(t, k, r.got...)
			}
			has(t, m[which], uses[which], words[which]...)
			if s.under(20) == 0 {
				at, v := s.under(len(words[0])), first+uint32(s.under(6)-1)
				words[0][at] = v
				m[0].Store(at, v)
				uses[0]++
			}
			if t.Failed() {
				t.Fatalf("%+v", *r)
			}
		}
		for _, r := range records {
			for _, ok := range r.sent {
				ends[[2]int{0, map[bool]int{false: 0, true: 1}[ok]}]++
			}
			for _, message := range r.got {
				ends[[2]int{1, min(len(message), 1)}]++
			}
		}
	}
	// Messages were sent, and not sent; and messages were received, and nothing.
	for _, kind := range [][2]int{{0, 0}, {0, 1}, {1, 0}, {1, 1}} {
		if ends[kind] < 1000 {
			t.Errorf("the ends are %v", ends)
		}
	}
}

// P12.3

// pair is a sender and a receiver of one ring, in a machine, and what is seen of them.
type pair struct {
	*steps.Machine
	layout
	memory   *mem.Memory
	sender   *ring.Sender
	receiver *ring.Receiver
	messages []string
	flying   []string // messages that were sent, and not received yet
	sent     []bool
	got      []string
	full     bool // when the current message was begun, or would be if it were now
	empty    bool // the same of the current try
	sends    bool // a message was begun, and is not ended
	tries    bool // the same of a try
	picks    int
}

// join is a sender of some messages and a receiver with some tries, on a ring whose head and tail are equal at first.
func join(t *testing.T, l layout, index uint32, messages []string, times int) *pair {
	t.Helper()
	words := filled(l.words())
	words[l.at], words[l.at+1] = index, index
	p := &pair{layout: l, messages: messages}
	p.memory, _ = memory(t, words...)
	p.sender, p.receiver = sender(t, l.at, l.places, l.size, messages...), receiver(t, l.at, l.places, l.size, times)
	p.Machine = steps.New(p.memory, p.sender, p.receiver)
	return p
}

// pick performs a step of the sender (0) or of the receiver (1), and checks what has come of it.
func (p *pair) pick(t *testing.T, task int) {
	t.Helper()
	// Far more than are needed: tasks that never end must not be picked for ever.
	if p.picks++; p.picks > 100000 {
		t.Fatalf("%d tasks are not done", p.Left())
	}
	switch {
	case p.Done(task):
	case task == 0:
		p.send(t)
	default:
		p.receive(t)
	}
}

// send performs a step of the sender: a message is not sent if the ring was full when it was begun, and only then.
func (p *pair) send(t *testing.T) {
	t.Helper()
	if !p.sends {
		p.sends, p.full = true, len(p.flying) == p.places
	}
	p.Pick(0)
	l := p.sender.Sent()
	if len(l) == len(p.sent) {
		return
	}
	p.sends = false
	p.sent = append(p.sent, !p.full)
	if !slices.Equal(l, p.sent) {
		t.Errorf("Sent() = %v, not %v", l, p.sent)
	}
	if !p.full {
		p.flying = append(p.flying, p.messages[len(p.sent)-1])
	}
}

// receive performs a step of the receiver: a try receives nothing if the ring was empty when it was begun, and only then; otherwise it receives the message that was sent first.
func (p *pair) receive(t *testing.T) {
	t.Helper()
	if !p.tries {
		p.tries, p.empty = true, len(p.flying) == 0
	}
	p.Pick(1)
	l := p.receiver.Got()
	if len(l) == len(p.got) {
		return
	}
	p.tries = false
	if p.empty {
		p.got = append(p.got, "")
	} else {
		p.got = append(p.got, p.flying[0])
		p.flying = p.flying[1:]
	}
	if !slices.Equal(l, p.got) {
		t.Errorf("Got() = %q, not %q", l, p.got)
	}
}

// ended checks a pair that is done: what was sent was received in order, and another receiver gets the rest of it, and nothing else.
func (p *pair) ended(t *testing.T) {
	t.Helper()
	r := receiver(t, p.at, p.places, p.size, p.places+2)
	for n := 0; !r.Step(p.memory); n++ {
		if n > 100000 {
			t.Fatal("a receiver is not done")
		}
	}
	var want []string
	for i, ok := range p.sender.Sent() {
		if ok {
			want = append(want, p.messages[i])
		}
	}
	all := slices.DeleteFunc(append(p.receiver.Got(), r.Got()...), func(message string) bool { return message == "" })
	if !slices.Equal(all, want) {
		t.Errorf("%q were received, not %q", all, want)
	}
	if len(p.sender.Sent()) != len(p.messages) {
		t.Errorf("%d of %d messages are done", len(p.sender.Sent()), len(p.messages))
	}
}

// orders plays each order of the steps of a pair; how many there are. The list is how an order begins.
func orders(t *testing.T, l layout, index uint32, messages []string, times int, list []int) int {
	t.Helper()
	p := join(t, l, index, messages, times)
	for _, task := range list {
		p.pick(t, task)
	}
	count := 0
	if p.Left() == 0 {
		p.ended(t)
		count = 1
	}
	if t.Failed() {
		t.Fatalf("%+v from %d on, %q, %d tries, picked %v", l, index, messages, times, list)
	}
	for task := range 2 {
		if !p.Done(task) {
			count += orders(t, l, index, messages, times, append(slices.Clone(list), task))
		}
	}
	return count
}

// several is some messages of a size, of which every other one has a byte less, if it has more than one.
func several(n, size int) []string {
	var l []string
	for i := range n {
		l = append(l, long(max(size-i%2, 1), i))
	}
	return l
}

// Small pairs, in each order, also across the end of all indices: what is received is what was sent.
func TestAllOrders(t *testing.T) {
	for _, c := range []struct{ places, size, messages, times, want int }{
		{1, 1, 0, 0, 2},  // each has a step all the same
		{1, 1, 0, 2, 5},  // the sender's only step is at any of five places
		{1, 1, 1, 0, 6},  // and the receiver's at any of six
		{1, 1, 1, 1, 21}, // the try begins behind the message's last step, or ahead of it
		{2, 5, 1, 1, 28}, // the same with a step more
		{1, 1, 2, 0, 8},  // the second one is not sent, which takes two steps
		{2, 1, 2, 0, 11}, // it is sent
		{1, 1, 1, 2, 0},
		{1, 1, 2, 1, 0},
		{1, 1, 2, 2, 0},
		{1, 5, 2, 2, 0},
		{2, 1, 2, 2, 0},
		{2, 5, 2, 2, 0},
		{4, 1, 2, 2, 0},
		{1, 1, 3, 2, 0},
		{1, 1, 2, 3, 0},
		{1, 1, 3, 3, 0},
		{1, 9, 2, 2, 0},
		{1, 5, 3, 2, 0},
		{2, 1, 3, 1, 0},
		{1, 32, 2, 1, 0},
	} {
		for _, index := range []uint32{top, 0} {
			l := layout{at: 1, places: c.places, size: c.size, behind: 1}
			n := orders(t, l, index, several(c.messages, c.size), c.times, nil)
			if n < 1 || c.want > 0 && n != c.want {
				t.Errorf("%+v: %d orders", c, n)
			}
			if c.messages*c.times > 2 {
				break // there are many orders then: across the end of all indices only
			}
		}
	}
}

// More slots, messages and tries, in many orders: picked evenly, or each one several times in a row.
func TestManyOrders(t *testing.T) {
	s, seen := source(9), map[string]int{}
	for range 1500 {
		l := layout{at: s.under(3), places: 1 << s.under(5), size: 1 + s.under(1+s.under(api.MaxSize)), behind: s.under(3)}
		n := s.under(4 * l.places)
		var messages []string
		for i := range n {
			messages = append(messages, long(1+s.under(l.size), i))
		}
		p := join(t, l, indices[s.under(len(indices))]-uint32(s.under(l.places+1)), messages, s.under(4*l.places))
		for most := [2]int{1 + s.under(60), 1 + s.under(60)}; p.Left() > 0; {
			task := s.under(2)
			for range 1 + s.under(most[task]) {
				p.pick(t, task)
			}
		}
		for _, ok := range p.sent {
			if !ok {
				seen["full"]++
			}
		}
		for _, message := range p.got {
			if message == "" {
				seen["empty"]++
			} else {
				seen["received"]++
			}
		}
		p.ended(t)
		if t.Failed() {
			t.Fatalf("%+v, %d messages", l, n)
		}
	}
	if seen["full"] < 1000 || seen["empty"] < 1000 || seen["received"] < 1000 {
		t.Errorf("%v", seen)
	}
}

// A message that is begun when the ring is full is not sent, although a slot becomes free behind its first step; a try that is begun when it is empty receives nothing, although a message is sent behind its first step.
func TestWhenItWasBegun(t *testing.T) {
	for _, index := range indices {
		p := join(t, layout{at: 0, places: 1, size: 4}, index, several(3, 4), 2)
		for _, task := range []int{1, 0, 0, 0, 0, 0, 1, 0, 1, 1, 1, 1, 1, 0, 0, 0, 0, 0, 0} {
			p.pick(t, task)
		}
		got(t, p.receiver, "", long(4, 0))
		sent(t, p.sender, true, false, true)
		if p.Left() != 0 {
			t.Errorf("%d are not done", p.Left())
		}
		p.ended(t)
	}
}

// Wherever the sender stops for the receiver to go on, and the other way round, a message is never received in part, and never overwritten before it is received.
func TestTorn(t *testing.T) {
	for _, places := range []int{1, 2, 4} {
		for _, size := range []int{1, 4, 5, 9} {
			l := layout{at: 2, places: places, size: size, behind: 2}
			for first := range 60 {
				for second := range 20 {
					p := join(t, l, top-1, several(3*places+2, size), 3*places+2)
					for _, run := range [][2]int{{0, first}, {1, second}, {0, 9}, {1, 3}, {0, 2}, {1, 9}, {0, 5}, {1, 4}, {0, 1}, {1, 1}, {0, 99}, {1, 99}, {0, 99}} {
						for range run[1] {
							p.pick(t, run[0])
						}
					}
					for p.Left() > 0 {
						p.pick(t, 1)
						p.pick(t, 0)
					}
					p.ended(t)
					if t.Failed() {
						t.Fatalf("%+v, %d and %d steps", l, first, second)
					}
				}
			}
		}
	}
}

// Thousands of messages through a small ring, which is filled and emptied again and again: all are received, in order.
func TestManyMessages(t *testing.T) {
	const n, step = 4096, 6 // messages, and steps of each, and of each try
	var messages []string
	for i := range n {
		messages = append(messages, long(5, i))
	}
	for _, places := range []int{1, 2, 8, 64} {
		l := layout{at: 0, places: places, size: 5}
		p := join(t, l, top-n/2, messages, n)
		for range n / places {
			for task := range 2 {
				if count := p.Run(slices.Repeat([]int{task}, step*places)); count != step*places {
					t.Fatalf("%d steps", count)
				}
			}
		}
		if p.Left() != 0 || !slices.Equal(p.receiver.Got(), messages) || slices.Contains(p.sender.Sent(), false) {
			t.Errorf("%d slots: other messages were received", places)
		}
		p.ended(t)
	}
}

// P1 and the rules

// Any call with any arguments returns; no memory, and one that is not made by its package, have no words.
func TestAnyArguments(t *testing.T) {
	numbers := append(missing(5), -1, 0, 1, 2, 3, 4)
	m, uses := memory(t, 1, 2, 0, 9, 9)
	for _, at := range numbers {
		for _, none := range []*mem.Memory{nil, {}} {
			s, r := sender(t, at, 1, 4, "a", "b"), receiver(t, at, 1, 4, 2)
			does(t, s, none, true)
			does(t, r, none, true)
			sentAll(t, s, m)
			gotAll(t, r, m)
			does(t, sender(t, at, 1, 4), none, true)
			does(t, receiver(t, at, 1, 4, 0), none, true)
		}
	}
	has(t, m, uses, 1, 2, 0, 9, 9)
	for _, at := range numbers {
		for _, places := range numbers {
			for _, size := range numbers {
				n, e := ring.Words(places, size)
				s, e1 := ring.NewSender(at, places, size, []string{"a", "b"})
				r, e2 := ring.NewReceiver(at, places, size, at)
				if e1 != e || e2 != e || (n == 0) != (e != api.OK) || (s == nil) != (e != api.OK) || (r == nil) != (e != api.OK) {
					t.Fatalf("%d, %d, %d: %d, %d, %d", at, places, size, e, e1, e2)
				}
				for range 20 {
					if s != nil {
						s.Step(m)
						r.Step(m)
					}
				}
			}
		}
	}
	for step := range 5 {
		m, _ := memory(t, 0, 0, 1, 1)
		s, r := sender(t, 0, 1, 4, "a", "b"), receiver(t, 0, 1, 4, 2)
		goes(t, s, m, step)
		does(t, s, nil, true)
		sentAll(t, s, m)
		m.Store(1, 1)
		goes(t, r, m, step)
		does(t, r, nil, true)
		gotAll(t, r, m)
	}
}

// The list of messages is neither changed nor kept, nor what is behind it; it may be changed as soon as the sender is there.
func TestMessagesStay(t *testing.T) {
	under := []string{"ab", "cde", "f", "", "long enough"}
	want := slices.Clone(under)
	for _, messages := range [][]string{under[:0], under[:2], under[:3], under[1:3], under[:4], under} {
		m, _ := memory(t, make([]uint32, 18)...)
		s, e := ring.NewSender(0, 4, 8, messages)
		if e == api.OK {
			for i := range messages {
				messages[i] = "x"
			}
			for !s.Step(m) {
			}
			for i := range messages {
				messages[i] = "y"
			}
			copy(under, want)
			r := receiver(t, 0, 4, 8, len(messages))
			for !r.Step(m) {
			}
			got(t, r, messages...)
		} else if e != api.ErrRingSize {
			t.Errorf("NewSender = %d", e)
		}
		if !slices.Equal(under, want) {
			t.Errorf("the messages are %q, not %q", under, want)
		}
	}
}

// What was told before does not change with later steps.
func TestToldBefore(t *testing.T) {
	p := join(t, layout{at: 0, places: 4, size: 8}, top-5, several(12, 8), 12)
	var sents [][]bool
	var gots [][]string
	for i := 0; p.Left() > 0; i++ {
		p.pick(t, i/9%2)
		sents, gots = append(sents, p.sender.Sent()), append(gots, p.receiver.Got())
	}
	for i := range sents {
		if !slices.Equal(sents[i], p.sent[:len(sents[i])]) || !slices.Equal(gots[i], p.got[:len(gots[i])]) {
			t.Errorf("behind step %d: %v, %q", i, sents[i], gots[i])
		}
	}
}

// Senders and receivers have nothing in common but the memory.
func TestApart(t *testing.T) {
	m, _ := memory(t, 0, 0, 0, 0, 0, 0)
	n, uses := memory(t, 0, 0, 0, 0, 0, 0)
	messages := []string{"ab", "cd"}
	a, b := sender(t, 0, 2, 4, messages...), sender(t, 0, 2, 4, messages...)
	c, d := receiver(t, 0, 2, 4, 2), receiver(t, 0, 2, 4, 2)
	goes(t, a, m, 5)
	sent(t, a, true)
	sent(t, b)
	has(t, n, uses, 0, 0, 0, 0, 0, 0)
	goes(t, d, n, 2)
	got(t, d, "")
	goes(t, b, n, 4)
	goes(t, c, m, 5)
	got(t, c, "ab")
	got(t, d, "")
	goes(t, b, n, 1)
	has(t, n, uses+7, 0, 1, 2, 0x61620000, 0, 0)
	goes(t, a, m, 4)
	does(t, a, m, true)
	goes(t, d, n, 4)
	does(t, d, n, true)
	got(t, d, "", "ab")
	got(t, c, "ab")
	sent(t, b, true)
}

// The results depend on nothing but the calls: the same ones again have the same results.
func TestAgain(t *testing.T) {
	play := func() []string {
		s := source(11)
		p := join(t, layout{at: 1, places: 2, size: 7, behind: 1}, top-3, several(20, 7), 20)
		var seen []string
		for p.Left() > 0 {
			p.pick(t, s.under(2))
			for _, word := range p.memory.Words() {
				seen = append(seen, string(binary.BigEndian.AppendUint32(nil, word)))
			}
			seen = append(seen, p.receiver.Got()...)
			for _, ok := range p.sender.Sent() {
				seen = append(seen, map[bool]string{false: "not sent", true: "sent"}[ok])
			}
		}
		return seen
	}
	want := play()
	for range 3 {
		if !slices.Equal(play(), want) {
			t.Error("other results")
		}
	}
}
