package health_test

import (
	"math"
	"slices"
	"testing"

	"purlin/api"
	"purlin/health"
)

// The calls are as the chapter has them.
var (
	_ func(int) (*health.Log, api.Errno)                   = health.New
	_ func(*health.Log, ...api.Entry)                      = (*health.Log).Add
	_ func(*health.Log) []api.Entry                        = (*health.Log).List
	_ func(*health.Log) int                                = (*health.Log).Dropped
	_ func(*health.Log, int) []api.Entry                   = (*health.Log).Of
	_ func(api.Actions, int) (bool, bool, bool, api.Errno) = health.Act
)

// sizes is capacities that there are, and noSizes such that there aren't.
var (
	sizes   = []int{1, 2, 3, 7, 16, 31, 32, 33, 63, 64}
	noSizes = []int{
		0, -1, -2, -63, -64, -65, -255, -256, math.MinInt32, -1 << 32, math.MinInt + 1, math.MinInt,
		65, 66, 127, 128, 255, 256, 257, 320, 65536, 65537, math.MaxInt32, 1 << 32, 1<<32 + 1, math.MaxInt - 1, math.MaxInt,
	}
)

// numbers is numbers that a partition, a process or a tick may have, as a log takes each of them.
var numbers = []int{
	0, 1, 2, 63, 64, 65, 255, 256, 65535, math.MaxInt32, api.MaxTick, api.MaxTick + 1, math.MaxInt,
	-1, -2, -64, -256, math.MinInt32, math.MinInt + 1, math.MinInt,
}

// logOf is a new log, to which some entries have been added.
func logOf(t *testing.T, size int, entries ...api.Entry) *health.Log {
	t.Helper()
	l, e := health.New(size)
	if l == nil || e != api.OK {
		t.Fatalf("New(%d) = %v, %d", size, l, int(e))
	}
	l.Add(entries...)
	return l
}

// entry is one that differs in each field from those with other small numbers.
func entry(n int) api.Entry {
	return api.Entry{Tick: n, Part: n % 5, Proc: n*7%16 + 1, Kind: uint8(n % 3), Act: uint8(n % 251)}
}

// span is as many entries as asked for, from one on.
func span(from, n int) []api.Entry {
	var l []api.Entry
	for i := range n {
		l = append(l, entry(from+i))
	}
	return l
}

// has checks what a log has, also when that is asked again.
func has(t *testing.T, l *health.Log, dropped int, want ...api.Entry) {
	t.Helper()
	for range 2 {
		if got := l.List(); !slices.Equal(got, want) {
			t.Errorf("List() = %v, not %v", got, want)
		}
		if n := l.Dropped(); n != dropped {
			t.Errorf("Dropped() = %d, not %d", n, dropped)
		}
	}
}

// hasOf checks what a log has of a partition.
func hasOf(t *testing.T, l *health.Log, part int, want ...api.Entry) {
	t.Helper()
	if got := l.Of(part); !slices.Equal(got, want) {
		t.Errorf("Of(%d) = %v, not %v", part, got, want)
	}
}

// record is a log as the chapter describes it.
type record struct {
	size, dropped int
	entries       []api.Entry
}

func (r *record) add(entries ...api.Entry) {
	for _, x := range entries {
		r.entries = append(r.entries, x)
		if len(r.entries) > r.size {
			r.entries = r.entries[1:]
			r.dropped++
		}
	}
}

func (r *record) of(part int) []api.Entry {
	var l []api.Entry
	for _, x := range r.entries {
		if x.Part == part {
			l = append(l, x)
		}
	}
	return l
}

// both is a log and its record, of which each call is made.
type both struct {
	*health.Log
	record record
}

func bothOf(t *testing.T, size int) *both {
	t.Helper()
	return &both{logOf(t, size), record{size: size}}
}

func (b *both) add(entries ...api.Entry) {
	b.Add(entries...)
	b.record.add(entries...)
}

// same checks that a log has what its record has, as a whole and of some partitions.
func (b *both) same(t *testing.T, parts ...int) {
	t.Helper()
	has(t, b.Log, b.record.dropped, b.record.entries...)
	for _, part := range parts {
		hasOf(t, b.Log, part, b.record.of(part)...)
	}
}

// P18.1

// The chapter's example.
func TestExampleOfLog(t *testing.T) {
	l := logOf(t, 2, api.Entry{Tick: 1}, api.Entry{Tick: 2}, api.Entry{Tick: 3})
	has(t, l, 1, api.Entry{Tick: 2}, api.Entry{Tick: 3})
}

// A log has 1 to MaxLog entries at most, and none at first.
func TestNew(t *testing.T) {
	for size := 1; size <= 64; size++ {
		l := logOf(t, size)
		has(t, l, 0)
		for _, part := range numbers {
			hasOf(t, l, part)
		}
	}
	for _, size := range noSizes {
		if l, e := health.New(size); l != nil || e != 180 {
			t.Errorf("New(%d) = %v, %d, not nil, 180", size, l, int(e))
		}
	}
	if api.MaxLog != 64 || api.ErrHealthSize != 180 || api.ErrHealthKind != 181 {
		t.Error("the limit or the errors are others")
	}
}

// Each capacity is kept exactly: as many entries stay, and one more drops the oldest one.
func TestEachCapacity(t *testing.T) {
	for size := 1; size <= 64; size++ {
		l := logOf(t, size)
		for n := 1; n <= 3*size+2; n++ {
			l.Add(entry(n))
			first := max(1, n-size+1)
			has(t, l, first-1, span(first, n-first+1)...)
		}
		if t.Failed() {
			t.Fatal(size)
		}
	}
}

// amounts is how many entries are added to a log: none, one, as many as the size and about as many, and many times as many.
func amounts(size int) []int {
	return []int{0, 1, 2, size - 1, size, size + 1, 2*size - 1, 2 * size, 2*size + 1, 10 * size, 100*size + 1}
}

// adding is the ways to add entries: all at once, one by one, or some at once.
var adding = []func(*both, []api.Entry){
	func(b *both, l []api.Entry) { b.add(l...) },
	func(b *both, l []api.Entry) {
		for _, x := range l {
			b.add(x)
		}
	},
	func(b *both, l []api.Entry) {
		for part := range slices.Chunk(l, 3) {
			b.add(part...)
			b.add()
		}
	},
}

// Entries are added to logs that are empty, have some already, are full, or have dropped some; at once, and one by one.
func TestAdd(t *testing.T) {
	for _, size := range sizes {
		for _, before := range []int{0, 1, size - 1, size, size + 1, 2*size + size/2, 3 * size} {
			for _, n := range amounts(size) {
				for way, add := range adding {
					b := bothOf(t, size)
					add(b, span(1, before))
					b.same(t)
					add(b, span(1001, n))
					b.same(t, 0, 1, 4, 5, -1)
					add(b, span(50001, 1))
					b.same(t)
					if t.Failed() {
						t.Fatal(size, before, n, way)
					}
				}
			}
		}
	}
}

// Adding no entries changes nothing, however they are none.
func TestAddNone(t *testing.T) {
	for before := range 6 {
		l := logOf(t, 3, span(1, before)...)
		for range 5 {
			l.Add()
			l.Add(nil...)
			l.Add([]api.Entry{}...)
			l.Add(span(7, 9)[4:4]...)
		}
		first := max(1, before-2)
		has(t, l, first-1, span(first, before-first+1)...)
	}
}

// An entry comes back as it was added, with each field, whatever it is; also where entries are equal, or zero.
func TestEntriesAsAdded(t *testing.T) {
	all := []api.Entry{
		{},
		{Tick: api.MaxTick, Part: 63, Proc: 15, Kind: 2, Act: 255},
		{Tick: 1}, {Part: 1}, {Proc: 1}, {Kind: 1}, {Act: 1},
		{}, {},
		{Tick: math.MaxInt, Part: math.MaxInt, Proc: math.MaxInt, Kind: 255, Act: 255},
		{Tick: math.MinInt, Part: math.MinInt, Proc: math.MinInt},
		{Tick: -1, Part: -1, Proc: -1, Kind: 128, Act: 128},
		{Tick: -1, Part: -1, Proc: -1, Kind: 128, Act: 128},
	}
	l := logOf(t, 64, all...)
	has(t, l, 0, all...)
	hasOf(t, l, -1, all[11:]...)
	hasOf(t, l, math.MaxInt, all[9])
	hasOf(t, l, 0, all[0], all[2], all[4], all[5], all[6], all[7], all[8])
	l = logOf(t, 4, all...)
	has(t, l, 9, all[9:]...)
	l = logOf(t, 2, make([]api.Entry, 7)...)
	has(t, l, 5, api.Entry{}, api.Entry{})
}

// Ticks need not rise: the oldest entry is the one that was added first.
func TestOldestByAdding(t *testing.T) {
	l := logOf(t, 3)
	for tick := 9; tick > 0; tick-- {
		l.Add(api.Entry{Tick: tick, Part: 63 - tick})
	}
	has(t, l, 6, api.Entry{Tick: 3, Part: 60}, api.Entry{Tick: 2, Part: 61}, api.Entry{Tick: 1, Part: 62})
}

// Of has none, some or all entries of the log, in their order.
func TestOf(t *testing.T) {
	a, b, c := api.Entry{Tick: 1, Part: 2}, api.Entry{Tick: 2, Part: 3, Proc: 2}, api.Entry{Tick: 3, Part: 2, Kind: 2}
	d, e := api.Entry{Tick: 4, Part: 7}, api.Entry{Tick: 5, Part: 2}
	l := logOf(t, 4, a, b, c, d)
	hasOf(t, l, 2, a, c)
	hasOf(t, l, 3, b)
	hasOf(t, l, 7, d)
	others := []int{0, 1, 4, 8, 63, 64, 65, 255, 258, 259, 263, 65538, 1<<32 + 2, -1, -2, -3, -254, -253, math.MinInt, math.MaxInt}
	for _, part := range others {
		hasOf(t, l, part)
	}
	l.Add(e)
	has(t, l, 1, b, c, d, e)
	hasOf(t, l, 2, c, e)
	l.Add(d, d, d)
	hasOf(t, l, 7, d, d, d)
	hasOf(t, l, 2, e)
	hasOf(t, l, 3)
	l.Add(d)
	hasOf(t, l, 7, d, d, d, d)
	hasOf(t, l, 2)
	has(t, l, 5, d, d, d, d)
	for _, part := range others {
		hasOf(t, l, part)
	}
}

// Whatever partition entries name, Of finds those that name it.
func TestOfAnyPart(t *testing.T) {
	l := logOf(t, 64)
	for i, part := range numbers {
		l.Add(api.Entry{Tick: i, Part: part, Proc: 1}, api.Entry{Tick: i, Part: 5}, api.Entry{Tick: i, Part: part, Kind: 2})
	}
	for i, part := range numbers {
		hasOf(t, l, part, api.Entry{Tick: i, Part: part, Proc: 1}, api.Entry{Tick: i, Part: part, Kind: 2})
	}
	if n := len(l.Of(5)); n != len(numbers) {
		t.Errorf("%d entries of 5", n)
	}
}

// P18.2

// acts is the actions there are, and such that count as 2.
var acts = []uint8{0, 1, 2, 3, 4, 127, 128, 254, 255}

// follows is what follows an action.
func follows(act uint8) [3]bool { return [3]bool{true, act >= 1, act >= 2} }

// actsAs checks what Act returns.
func actsAs(t *testing.T, a api.Actions, kind int, want [3]bool, wantErr api.Errno) {
	t.Helper()
	noted, anew, idle, e := health.Act(a, kind)
	if got := [3]bool{noted, anew, idle}; got != want || e != wantErr {
		t.Errorf("Act(%v, %d) = %v, %d, not %v, %d", a, kind, got, int(e), want, int(wantErr))
	}
}

// The chapter's example.
func TestExampleOfAct(t *testing.T) {
	a := api.Actions{0, 1, 2}
	actsAs(t, a, 0, [3]bool{true, false, false}, api.OK)
	actsAs(t, a, 1, [3]bool{true, true, false}, api.OK)
	actsAs(t, a, 2, [3]bool{true, true, true}, api.OK)
	actsAs(t, a, 3, [3]bool{}, 181)
}

// Each action of each kind, beside different ones of the other kinds.
func TestAct(t *testing.T) {
	for _, x := range acts {
		for _, y := range acts {
			for act := range 256 {
				a := uint8(act)
				actsAs(t, api.Actions{a, x, y}, 0, follows(a), api.OK)
				actsAs(t, api.Actions{x, a, y}, 1, follows(a), api.OK)
				actsAs(t, api.Actions{x, y, a}, 2, follows(a), api.OK)
			}
		}
	}
}

// Kinds other than 0, 1 and 2 are refused, whatever the actions.
func TestActNoKind(t *testing.T) {
	noKinds := []int{
		-1, -2, -3, -255, -256, -254, math.MinInt32, -1 << 32, math.MinInt + 1, math.MinInt,
		3, 4, 5, 255, 256, 257, 258, 65536, math.MaxInt32, 1 << 32, 1<<32 + 2, math.MaxInt - 1, math.MaxInt,
	}
	for _, kind := range noKinds {
		for _, x := range acts {
			for _, y := range acts {
				actsAs(t, api.Actions{x, y, x}, kind, [3]bool{}, 181)
			}
		}
	}
}

// P18.3

// source is a row of numbers that look drawn, and are the same each time.
type source uint32

// under is the next number, below n.
func (s *source) under(n int) int {
	*s = *s*1664525 + 1013904223
	return int(*s>>8) % n
}

// of is one of some numbers.
func (s *source) of(l ...int) int { return l[s.under(len(l))] }

// entry is one of a few partitions, or now and then of any number.
func (s *source) entry(parts int) api.Entry {
	x := api.Entry{Tick: s.under(1 << 20), Part: s.under(parts), Proc: s.under(16), Kind: uint8(s.under(3)), Act: uint8(s.under(256))}
	if s.under(20) == 0 {
		x.Part = s.of(numbers...)
	}
	return x
}

// Each sequence of a few calls that add up to a few entries, for small logs.
func TestAllSequences(t *testing.T) {
	const long, most = 5, 5
	all := 1
	for range long {
		all *= most
	}
	for size := 1; size <= 4; size++ {
		for number := range all {
			b := bothOf(t, size)
			for n, i := number, 0; i < long; n, i = n/most, i+1 {
				b.add(span(10*i, n%most)...)
				b.same(t, 0, 2)
			}
			if t.Failed() {
				t.Fatal(size, number)
			}
		}
	}
}

// Many sequences of calls: a log does what its record does.
func TestManySequences(t *testing.T) {
	for seed := range 1500 {
		s := source(seed)
		b := bothOf(t, s.of(1, 2, 64, 1+s.under(8), 1+s.under(64)))
		parts, most := 1+s.under(s.of(1, 3, 64)), s.of(1, 3, 10, 70, 300)
		for range 20 + s.under(60) {
			var l []api.Entry
			for range s.under(most + 1) {
				l = append(l, s.entry(parts))
			}
			b.add(l...)
			b.same(t, s.under(parts), parts, s.of(numbers...))
		}
		if t.Failed() {
			t.Fatalf("sequence %d", seed)
		}
	}
}

// Behind each of many calls a log has the last entries that were added, up to its capacity, and these and the dropped ones are as many as were added; Of divides it by partitions.
func TestLastOfAll(t *testing.T) {
	for seed := range 400 {
		s := source(seed + 1<<20)
		size := 1 + s.under(64)
		l := logOf(t, size)
		var all []api.Entry
		for range 80 {
			var more []api.Entry
			for range s.of(0, 1, s.under(4), s.under(size+2), s.under(3*size+1)) {
				x := s.entry(4)
				x.Tick = len(all) + len(more)
				more = append(more, x)
			}
			all = append(all, more...)
			l.Add(more...)
			got := l.List()
			if len(got)+l.Dropped() != len(all) || len(got) != min(len(all), size) {
				t.Errorf("%d entries, and %d dropped, of %d", len(got), l.Dropped(), len(all))
			}
			if !slices.Equal(got, all[len(all)-min(len(all), size):]) {
				t.Errorf("List() = %v", got)
			}
			divides(t, l, got)
		}
		if t.Failed() {
			t.Fatalf("sequence %d", seed)
		}
	}
}

// divides checks that Of has, of each partition in the log, all of its entries and no others.
func divides(t *testing.T, l *health.Log, list []api.Entry) {
	t.Helper()
	parts := map[int]int{}
	for _, x := range list {
		parts[x.Part]++
	}
	for part, n := range parts {
		of := l.Of(part)
		if len(of) != n || slices.ContainsFunc(of, func(x api.Entry) bool { return x.Part != part || !slices.Contains(list, x) }) {
			t.Errorf("Of(%d) = %v, of %v", part, of, list)
		}
	}
}

// P1, and the document's rules

// Very many entries come, at once and one by one: the last ones stay, and none is forgotten in the count.
func TestVeryMany(t *testing.T) {
	const n = 300000
	all := span(0, n)
	for _, size := range sizes {
		l := logOf(t, size, all...)
		has(t, l, n-size, all[n-size:]...)
		for _, x := range all {
			l.Add(x)
		}
		has(t, l, 2*n-size, all[n-size:]...)
	}
}

// What a log returns is the caller's: it isn't changed by the log later on, and the log isn't changed by it.
func TestResultsAreNew(t *testing.T) {
	for _, before := range []int{2, 4, 5, 11} {
		want := span(max(1, before-3), min(before, 4))
		l := logOf(t, 4, span(1, before)...)
		for range 2 {
			list := l.List()
			for i := range list {
				list[i] = api.Entry{Tick: 77, Part: 3}
			}
			_ = append(list[:1], api.Entry{Tick: 66}, api.Entry{Tick: 66})
			_ = append(list, api.Entry{Tick: 55})
			has(t, l, max(0, before-4), want...)
		}
		part := want[1].Part
		of := l.Of(part)
		of[0] = api.Entry{Tick: 88, Part: 9}
		_ = append(of, api.Entry{Tick: 44}, api.Entry{Tick: 44}, api.Entry{Tick: 44})
		has(t, l, max(0, before-4), want...)
		hasOf(t, l, part, want[1])

		one, two, of := l.List(), l.List(), l.Of(part)
		two[0] = api.Entry{Tick: 33}
		l.Add(span(100, 9)...)
		if !slices.Equal(one, want) || !slices.Equal(of, want[1:2]) {
			t.Errorf("results have become %v, %v", one, of)
		}
		has(t, l, before+5, span(105, 4)...)
	}
}

// Entries that are handed to Add are neither changed nor kept, nor is what lies behind them.
func TestArguments(t *testing.T) {
	for _, n := range []int{1, 3, 4, 5, 12} {
		l := logOf(t, 4, span(50, 3)...)
		given := span(1, n+3)
		l.Add(given[:n]...)
		if !slices.Equal(given, span(1, n+3)) {
			t.Errorf("the entries have become %v", given)
		}
		want := append(span(50, 3), span(1, n)...)
		want = want[len(want)-4:]
		for i := range given {
			given[i] = api.Entry{Tick: 99, Part: 1}
		}
		has(t, l, n-1, want...)
		l.Add(l.List()...)
		l.List()
		l.Of(1)
		if slices.ContainsFunc(given, func(x api.Entry) bool { return x.Tick != 99 }) {
			t.Errorf("the entries have become %v", given)
		}
		has(t, l, n+3, want...)
	}
	a := api.Actions{0, 1, 2}
	health.Act(a, 2)
	if a != (api.Actions{0, 1, 2}) {
		t.Errorf("the actions have become %v", a)
	}
}

// A call that only asks changes nothing.
func TestAskingChangesNothing(t *testing.T) {
	l, silent := logOf(t, 3), logOf(t, 3)
	for n := range 20 {
		l.Add(entry(n))
		silent.Add(entry(n))
		for _, part := range numbers {
			l.Of(part)
			l.List()
			l.Dropped()
			health.Act(api.Actions{2, 2, 2}, part)
		}
		has(t, l, max(0, n-2), span(max(0, n-2), min(n+1, 3))...)
	}
	has(t, silent, 17, l.List()...)
}

// Logs are apart from each other: each has entries, a capacity and a counter of its own.
func TestApart(t *testing.T) {
	a, b, c := logOf(t, 2), logOf(t, 3), logOf(t, 2)
	a.Add(span(1, 5)...)
	b.Add(span(11, 4)...)
	has(t, c, 0)
	has(t, a, 3, span(4, 2)...)
	has(t, b, 1, span(12, 3)...)
	c.Add(entry(21))
	a.Add(b.List()...)
	has(t, a, 6, span(13, 2)...)
	has(t, b, 1, span(12, 3)...)
	has(t, c, 0, entry(21))
	if l, e := health.New(65); l != nil || e != 180 {
		t.Errorf("New(65) = %v, %d", l, int(e))
	}
	has(t, a, 6, span(13, 2)...)
}

// The results depend on nothing but the calls: the same ones again have the same results.
func TestSameAgain(t *testing.T) {
	play := func() (seen []api.Entry, dropped []int) {
		s := source(11)
		l := logOf(t, 5)
		for range 200 {
			for range s.under(4) {
				l.Add(s.entry(3))
			}
			seen = slices.Concat(seen, l.List(), l.Of(1))
			dropped = append(dropped, l.Dropped())
		}
		return seen, dropped
	}
	seen, dropped := play()
	for range 3 {
		seen2, dropped2 := play()
		if !slices.Equal(seen, seen2) || !slices.Equal(dropped, dropped2) {
			t.Error("other results")
		}
	}
}
