package line_test

import (
	"math"
	"slices"
	"testing"

	"purlin/api"
	"purlin/line"
)

// The calls are as the chapter has them.
var (
	_ func() *line.Line                         = line.New
	_ func(*line.Line, int, int, int) api.Errno = (*line.Line).Put
	_ func(*line.Line) (int, bool)              = (*line.Line).First
	_ func(*line.Line) (int, bool)              = (*line.Line).Take
	_ func(*line.Line, int) api.Errno           = (*line.Line).Drop
	_ func(*line.Line, int) ([]int, api.Errno)  = (*line.Line).Expire
	_ func(*line.Line) []int                    = (*line.Line).List
	_ func(*line.Line) int                      = (*line.Line).Now
)

// last is the last tick that there is.
const last = api.MaxTick

var (
	ids     = []int{0, 1, 2, 255, 256, 32767, 32768, api.MaxID - 1, api.MaxID}
	noIDs   = []int{-1, -2, -255, -256, -32768, -65536, math.MinInt32, -1 << 32, math.MinInt + 1, math.MinInt, api.MaxID + 1, api.MaxID + 2, 1<<17 + 1, math.MaxInt32, 1 << 31, 1 << 32, 1<<32 + 1, math.MaxInt - 1, math.MaxInt}
	prios   = []int{0, 1, 2, 31, 32, api.MaxPrio - 1, api.MaxPrio}
	noPrios = []int{-1, -2, -63, -64, -256, math.MinInt32, -1 << 32, math.MinInt + 1, math.MinInt, api.MaxPrio + 1, api.MaxPrio + 2, 127, 128, 255, 256, 257, 65536, math.MaxInt32, 1 << 32, 1<<32 + 1, math.MaxInt - 1, math.MaxInt}
	// nows are ticks that a line has been told last.
	nows = []int{0, 1, 2, 9, 10, 65535, 65536, math.MaxInt32, 1 << 31, math.MaxUint32, 1 << 32, 1<<32 + 1, last - 2, last - 1}
)

// untils is deadlines that a waiter may have at a tick ahead of the last one.
func untils(now int) []int {
	return []int{-1, now + 1, (now + last + 1) / 2, max(now+1, last-1), last}
}

// noUntils is deadlines that a waiter may not have at a tick.
func noUntils(now int) []int {
	return []int{
		now, max(now-1, 0), (now + 1) / 2, now / 3, min(now, 1), 0,
		-2, -3, -now - 2, -65536, -last, math.MinInt32, -1 << 32, math.MinInt + 1, math.MinInt,
		last + 1, last + 2, last + now + 1, 2 * last, 2*last + 1, math.MaxInt - 1, math.MaxInt,
	}
}

// entry is one who is put into a line.
type entry struct{ id, prio, until int }

// put checks what a put returns.
func put(t *testing.T, l *line.Line, x entry, want api.Errno) {
	t.Helper()
	if e := l.Put(x.id, x.prio, x.until); e != want {
		t.Errorf("Put(%d, %d, %d) = %d, not %d", x.id, x.prio, x.until, int(e), int(want))
	}
}

// lineOf is a new line, into which some are put.
func lineOf(t *testing.T, l ...entry) *line.Line {
	t.Helper()
	n := line.New()
	if n == nil {
		t.Fatal("New() = nil")
	}
	for _, x := range l {
		put(t, n, x, api.OK)
	}
	return n
}

// has checks a line's current tick, and all who wait in order, also when it is asked again.
func has(t *testing.T, l *line.Line, now int, want ...int) {
	t.Helper()
	for range 2 {
		if got := l.List(); !slices.Equal(got, want) {
			t.Errorf("List() = %v, not %v", got, want)
		}
		id, ok := l.First()
		if len(want) == 0 && (id != 0 || ok) || len(want) > 0 && (id != want[0] || !ok) {
			t.Errorf("First() = %d, %t, and the list is %v", id, ok, want)
		}
		if got := l.Now(); got != now {
			t.Errorf("Now() = %d, not %d", got, now)
		}
	}
}

// takes checks who is taken, one behind the other.
func takes(t *testing.T, l *line.Line, want ...int) {
	t.Helper()
	for _, id := range want {
		if got, ok := l.Take(); got != id || !ok {
			t.Errorf("Take() = %d, %t, not %d", got, ok, id)
		}
	}
}

// takesNone checks that there is nobody who could be taken.
func takesNone(t *testing.T, l *line.Line) {
	t.Helper()
	if id, ok := l.Take(); id != 0 || ok {
		t.Errorf("Take() = %d, %t", id, ok)
	}
}

// drop checks what a drop returns.
func drop(t *testing.T, l *line.Line, id int, want api.Errno) {
	t.Helper()
	if e := l.Drop(id); e != want {
		t.Errorf("Drop(%d) = %d, not %d", id, int(e), int(want))
	}
}

// expires checks who is removed at a tick, which is the current one then.
func expires(t *testing.T, l *line.Line, now int, want ...int) {
	t.Helper()
	if got, e := l.Expire(now); !slices.Equal(got, want) || e != api.OK {
		t.Errorf("Expire(%d) = %v, %d, not %v", now, got, int(e), want)
	}
	if got := l.Now(); got != now {
		t.Errorf("Now() = %d behind Expire(%d)", got, now)
	}
}

// expiresNot checks that a tick is refused.
func expiresNot(t *testing.T, l *line.Line, now int) {
	t.Helper()
	if got, e := l.Expire(now); len(got) != 0 || e != api.ErrLineTime {
		t.Errorf("Expire(%d) = %v, %d", now, got, int(e))
	}
}

// record is a line as the chapter describes it: who waits, as they arrived, and the current tick.
type record struct {
	all []entry
	now int
}

func (r *record) here(id int) bool {
	return slices.ContainsFunc(r.all, func(x entry) bool { return x.id == id })
}

func (r *record) put(x entry) api.Errno {
	switch {
	case x.id < 0 || x.id > 65535:
		return 140
	case x.prio < 0 || x.prio > 63:
		return 143
	case x.until != -1 && (x.until <= r.now || x.until > 1<<40):
		return 144
	case r.here(x.id):
		return 141
	}
	r.all = append(r.all, x)
	return 0
}

// list is who waits: priority by priority, and as they arrived.
func (r *record) list() []int {
	var l []int
	for prio := 63; prio >= 0; prio-- {
		for _, x := range r.all {
			if x.prio == prio {
				l = append(l, x.id)
			}
		}
	}
	return l
}

// remove removes some, if they are there.
func (r *record) remove(ids ...int) {
	r.all = slices.DeleteFunc(r.all, func(x entry) bool { return slices.Contains(ids, x.id) })
}

// deadlines is the ticks at which somebody is to be removed, rising.
func (r *record) deadlines() []int {
	var l []int
	for _, x := range r.all {
		if x.until != -1 {
			l = append(l, x.until)
		}
	}
	slices.Sort(l)
	return slices.Compact(l)
}

func (r *record) expire(now int) ([]int, api.Errno) {
	if now < r.now || now > 1<<40 {
		return nil, 144
	}
	r.now = now
	order, until := r.list(), map[int]int{}
	for _, x := range r.all {
		until[x.id] = x.until
	}
	var l []int
	for _, tick := range r.deadlines() {
		for _, id := range order {
			if tick <= now && until[id] == tick {
				l = append(l, id)
			}
		}
	}
	r.remove(l...)
	return l, 0
}

// both is a line and its record, of which each call is made.
type both struct {
	*line.Line
	record record
}

func bothOf(t *testing.T, l ...entry) *both {
	t.Helper()
	b := &both{Line: lineOf(t)}
	for _, x := range l {
		b.put(t, x)
	}
	return b
}

// same checks that a line has what its record has.
func (b *both) same(t *testing.T) {
	t.Helper()
	has(t, b.Line, b.record.now, b.record.list()...)
}

func (b *both) put(t *testing.T, x entry) api.Errno {
	t.Helper()
	want := b.record.put(x)
	put(t, b.Line, x, want)
	return want
}

func (b *both) take(t *testing.T) {
	t.Helper()
	l := b.record.list()
	if len(l) == 0 {
		takesNone(t, b.Line)
		return
	}
	b.record.remove(l[0])
	takes(t, b.Line, l[0])
}

func (b *both) drop(t *testing.T, id int) {
	t.Helper()
	if !b.record.here(id) {
		drop(t, b.Line, id, api.ErrLineNone)
		return
	}
	b.record.remove(id)
	drop(t, b.Line, id, api.OK)
}

func (b *both) expire(t *testing.T, now int) []int {
	t.Helper()
	l, e := b.record.expire(now)
	if e != api.OK {
		expiresNot(t, b.Line, now)
		return nil
	}
	expires(t, b.Line, now, l...)
	return l
}

// ways is how a line is emptied: each shows something else of those who wait.
var ways = []func(b *both, t *testing.T){
	func(b *both, t *testing.T) {
		for range b.record.list() {
			b.take(t)
			b.same(t)
		}
	},
	func(b *both, t *testing.T) {
		for _, x := range slices.Clone(b.record.all) {
			b.drop(t, x.id)
			b.same(t)
		}
	},
	func(b *both, t *testing.T) {
		for _, tick := range b.record.deadlines() {
			b.expire(t, tick-1)
			b.same(t)
			b.expire(t, tick)
			b.same(t)
		}
	},
	func(b *both, t *testing.T) {
		b.expire(t, last)
		b.same(t)
	},
}

// ends empties a line in one of the ways, and takes whoever is left then.
func (b *both) ends(t *testing.T, way int) {
	t.Helper()
	b.same(t)
	ways[way](b, t)
	for range b.record.list() {
		b.take(t)
	}
	b.same(t)
	takesNone(t, b.Line)
}

// The chapter's examples.
func TestExamples(t *testing.T) {
	l := lineOf(t, entry{1, 5, -1}, entry{2, 9, 20}, entry{3, 5, 10}, entry{4, 9, 10})
	has(t, l, 0, 2, 4, 1, 3)
	put(t, l, entry{1, 0, 5}, 141)
	expires(t, l, 10, 4, 3)
	put(t, l, entry{5, 1, 10}, 144)
	has(t, l, 10, 2, 1)
	takes(t, l, 2, 1)
	takesNone(t, l)
	has(t, l, 10)
}

// An empty line: a new one, and one that everybody has left, in each way.
func TestEmpty(t *testing.T) {
	emptied := map[string]func(l *line.Line){
		"new": func(l *line.Line) {},
		"taken": func(l *line.Line) {
			put(t, l, entry{7, 1, 5}, api.OK)
			put(t, l, entry{8, 2, -1}, api.OK)
			takes(t, l, 8, 7)
		},
		"dropped": func(l *line.Line) {
			put(t, l, entry{7, 1, 5}, api.OK)
			put(t, l, entry{8, 2, -1}, api.OK)
			drop(t, l, 8, api.OK)
			drop(t, l, 7, api.OK)
		},
		"expired": func(l *line.Line) {
			put(t, l, entry{7, 1, 5}, api.OK)
			put(t, l, entry{8, 2, 6}, api.OK)
			expires(t, l, 6, 7, 8)
		},
		"refused": func(l *line.Line) {
			put(t, l, entry{7, 64, 5}, api.ErrLinePrio)
			put(t, l, entry{7, 5, 0}, api.ErrLineTime)
		},
	}
	for name, empty := range emptied {
		l := lineOf(t)
		empty(l)
		now := l.Now()
		has(t, l, now)
		takesNone(t, l)
		for _, id := range slices.Concat(ids, noIDs, []int{7, 8}) {
			drop(t, l, id, api.ErrLineNone)
		}
		for range 2 {
			expires(t, l, now)
			takesNone(t, l)
		}
		for _, tick := range []int{now + 1, 100, last - 1, last, last} {
			expires(t, l, tick)
			has(t, l, tick)
		}
		put(t, l, entry{0, 0, -1}, api.OK)
		has(t, l, last, 0)
		if t.Failed() {
			t.Fatal(name)
		}
	}
}

// P14.1

// Each number and priority, and deadlines from the next tick on to the last one, or none.
func TestPut(t *testing.T) {
	for _, now := range nows {
		for _, id := range ids {
			for _, prio := range prios {
				for _, until := range untils(now) {
					l := lineOf(t)
					expires(t, l, now)
					put(t, l, entry{id, prio, until}, api.OK)
					has(t, l, now, id)
					expires(t, l, max(now, until-1))
					if until == -1 {
						expires(t, l, last)
						takes(t, l, id)
					} else {
						expires(t, l, until, id)
					}
					has(t, l, l.Now())
				}
			}
		}
	}
}

func TestPutNot(t *testing.T) {
	b := bothOf(t, entry{3, 3, -1})
	for _, id := range noIDs {
		put(t, b.Line, entry{id, 3, -1}, api.ErrLineID)
		put(t, b.Line, entry{id, 3, 9}, api.ErrLineID)
	}
	for _, prio := range noPrios {
		put(t, b.Line, entry{4, prio, -1}, api.ErrLinePrio)
		put(t, b.Line, entry{4, prio, 9}, api.ErrLinePrio)
	}
	for _, now := range slices.Concat(nows, []int{last}) {
		b.expire(t, now)
		for _, until := range noUntils(now) {
			put(t, b.Line, entry{4, 3, until}, api.ErrLineTime)
		}
		put(t, b.Line, entry{3, 3, -1}, api.ErrLineHere)
	}
	b.ends(t, 0)
}

// At the last tick there is no later one: who comes then has no deadline.
func TestPutAtTheLastTick(t *testing.T) {
	l := lineOf(t, entry{1, 1, last}, entry{2, 1, last - 1}, entry{3, 1, -1})
	expires(t, l, last, 2, 1)
	for _, until := range []int{last - 1, last, last + 1, 0, 1, -2} {
		put(t, l, entry{1, 1, until}, api.ErrLineTime)
	}
	put(t, l, entry{1, 2, -1}, api.OK)
	has(t, l, last, 1, 3)
}

// Where several errors apply, the number's comes first, and then the priority's, the deadline's, and that of one who waits already.
func TestWhichErrorFirst(t *testing.T) {
	for _, now := range []int{0, 5, last} {
		l := lineOf(t, entry{1, 1, -1}, entry{65535, 63, -1})
		expires(t, l, now)
		for _, id := range slices.Concat(noIDs, []int{0, 1, 2, 65535}) {
			for _, prio := range slices.Concat(noPrios, prios) {
				for _, until := range append(noUntils(now), -1) {
					want := api.OK
					if id == 1 || id == 65535 {
						want = api.ErrLineHere
					}
					if until != -1 {
						want = api.ErrLineTime
					}
					if slices.Contains(noPrios, prio) {
						want = api.ErrLinePrio
					}
					if slices.Contains(noIDs, id) {
						want = api.ErrLineID
					}
					if want != api.OK {
						put(t, l, entry{id, prio, until}, want)
					}
				}
			}
		}
		has(t, l, now, 65535, 1)
	}
}

// One who waits already isn't put again, whatever its priority and its deadline were to be, and stays as it was put first.
func TestPutHere(t *testing.T) {
	for way := range ways {
		b := bothOf(t, entry{2, 4, 10}, entry{3, 4, -1}, entry{4, 4, 8}, entry{0, 4, 9})
		for _, id := range []int{2, 3, 4, 0} {
			for _, prio := range prios {
				for _, until := range untils(0) {
					put(t, b.Line, entry{id, prio, until}, api.ErrLineHere)
				}
			}
		}
		has(t, b.Line, 0, 2, 3, 4, 0)
		b.ends(t, way)
	}
}

// One who was taken, dropped or expired may come again: as the last one that arrived, and with another priority and another deadline.
func TestAgain(t *testing.T) {
	gone := []func(l *line.Line){
		func(l *line.Line) { takes(t, l, 1) },
		func(l *line.Line) { drop(t, l, 1, api.OK) },
		func(l *line.Line) { expires(t, l, 5, 1) },
	}
	for i, leave := range gone {
		for _, prio := range []int{2, 3, 4} {
			for _, until := range []int{-1, 6, 7, 30} {
				l := lineOf(t, entry{1, 3, 5}, entry{2, 3, -1}, entry{3, 3, 9})
				has(t, l, 0, 1, 2, 3)
				leave(l)
				has(t, l, l.Now(), 2, 3)
				drop(t, l, 1, api.ErrLineNone)
				put(t, l, entry{1, prio, until}, api.OK)
				put(t, l, entry{1, prio, until}, api.ErrLineHere)
				want := map[int][]int{2: {2, 3, 1}, 3: {2, 3, 1}, 4: {1, 2, 3}}[prio]
				has(t, l, l.Now(), want...)
				expires(t, l, 5) // its first deadline is no more
				expires(t, l, 8, map[int][]int{6: {1}, 7: {1}}[until]...)
				if t.Failed() {
					t.Fatal(i, prio, until)
				}
			}
		}
	}
}

// The same one comes and goes again and again, beside others.
func TestAgainAndAgain(t *testing.T) {
	b := bothOf(t, entry{1, 2, -1}, entry{2, 2, 1000}, entry{3, 2, 1000})
	for i := range 300 {
		b.put(t, entry{9, 1 + i%3, i + 1 + i%2})
		b.same(t)
		switch i % 4 {
		case 0:
			b.drop(t, 9)
		case 1:
			b.take(t)
			b.put(t, entry{1 + i%3, 2, -1})
		}
		b.expire(t, i)
		b.same(t)
	}
	b.ends(t, 3)
}

// P14.2

// The order: the greatest priority first, and those of one priority as they arrived, whatever their numbers and deadlines are.
func TestOrder(t *testing.T) {
	for _, x := range []struct {
		put  []entry
		want []int
	}{
		{[]entry{{5, 0, -1}}, []int{5}},
		{[]entry{{0, 0, 1}}, []int{0}},
		{[]entry{{1, 1, -1}, {2, 2, -1}, {3, 3, -1}}, []int{3, 2, 1}},
		{[]entry{{3, 3, -1}, {2, 2, -1}, {1, 1, -1}}, []int{3, 2, 1}},
		{[]entry{{1, 3, -1}, {2, 2, -1}, {3, 1, -1}}, []int{1, 2, 3}},
		{[]entry{{1, 7, -1}, {2, 7, -1}, {3, 7, -1}}, []int{1, 2, 3}},
		{[]entry{{3, 7, -1}, {1, 7, -1}, {2, 7, -1}}, []int{3, 1, 2}},
		{[]entry{{3, 7, 30}, {1, 7, 10}, {2, 7, 20}, {0, 7, -1}}, []int{3, 1, 2, 0}},
		{[]entry{{65535, 63, 1}, {0, 0, 1}, {65534, 0, -1}, {1, 63, last}}, []int{65535, 1, 0, 65534}},
		{[]entry{{4, 1, 5}, {9, 0, 5}, {8, 1, 5}, {7, 0, 5}, {6, 2, 5}}, []int{6, 4, 8, 9, 7}},
	} {
		has(t, lineOf(t, x.put...), 0, x.want...)
		takes(t, lineOf(t, x.put...), x.want...)
	}
}

// Some of each priority, which come in several orders.
func TestAllPriorities(t *testing.T) {
	for _, stride := range []int{1, 5, 63, 95, 127} {
		b := bothOf(t)
		var want [64][]int
		for i := range 256 {
			id, prio := (i*stride*3+7)%65536, i*stride%64
			if b.put(t, entry{id, prio, []int{-1, 1 + i%7, 9}[i%3]}) == api.OK {
				want[63-prio] = append(want[63-prio], id)
			}
		}
		has(t, b.Line, 0, slices.Concat(want[:]...)...)
		takes(t, b.Line, slices.Concat(want[:]...)...)
		takesNone(t, b.Line)
	}
}

// First removes nobody; Take removes the same one.
func TestFirstAndTake(t *testing.T) {
	l := lineOf(t, entry{6, 1, -1}, entry{0, 5, 8}, entry{7, 5, 4})
	has(t, l, 0, 0, 7, 6)
	takes(t, l, 0)
	has(t, l, 0, 7, 6)
	drop(t, l, 0, api.ErrLineNone)
	put(t, l, entry{5, 63, -1}, api.OK)
	has(t, l, 0, 5, 7, 6)
	takes(t, l, 5, 7)
	has(t, l, 0, 6)
	expires(t, l, 8) // who was taken does not expire any more
	takes(t, l, 6)
	takesNone(t, l)
	takesNone(t, l)
}

// Drop removes whoever is asked for: the first one, the last one, one in the middle; the others stay as they are.
func TestDrop(t *testing.T) {
	all := []entry{{10, 2, 5}, {11, 3, -1}, {12, 2, 5}, {13, 1, 4}, {14, 2, 6}, {0, 3, 6}, {65535, 0, -1}}
	for _, x := range all {
		for way := range ways {
			b := bothOf(t, all...)
			has(t, b.Line, 0, 11, 0, 10, 12, 14, 13, 65535)
			b.drop(t, x.id)
			for range 2 {
				drop(t, b.Line, x.id, api.ErrLineNone)
			}
			b.ends(t, way)
		}
	}
}

// Drop of those who aren't there: who never were, who were before, and who can't be.
func TestDropNone(t *testing.T) {
	for way := range ways {
		b := bothOf(t, entry{1, 5, 9}, entry{2, 5, 3}, entry{3, 5, -1}, entry{4, 5, 9}, entry{5, 9, -1})
		b.take(t)
		b.drop(t, 1)
		b.expire(t, 3)
		put(t, b.Line, entry{6, 64, -1}, api.ErrLinePrio)
		put(t, b.Line, entry{7, 5, 3}, api.ErrLineTime)
		for _, id := range slices.Concat(noIDs, []int{0, 1, 2, 5, 6, 7, 65535}) {
			b.drop(t, id)
		}
		has(t, b.Line, 3, 3, 4)
		b.ends(t, way)
	}
}

// Deadlines just ahead of, at and behind a tick.
func TestExpire(t *testing.T) {
	for _, tick := range nows {
		if tick < 2 || tick > last-2 {
			continue // the deadlines are from one tick ahead of it to two behind it
		}
		var l []entry
		for i, until := range []int{tick + 1, tick, -1, tick - 1, tick, tick + 2} {
			l = append(l, entry{i, 5, until})
		}
		n := lineOf(t, l...)
		has(t, n, 0, 0, 1, 2, 3, 4, 5)
		expires(t, n, tick-2)
		expires(t, n, tick-1, 3)
		has(t, n, tick-1, 0, 1, 2, 4, 5)
		expires(t, n, tick, 1, 4)
		has(t, n, tick, 0, 2, 5)
		expires(t, n, tick+1, 0)
		expires(t, n, tick+2, 5)
		has(t, n, tick+2, 2)
		if t.Failed() {
			t.Fatal(tick)
		}
	}
}

// Those who expire at once: the earliest deadline first, then the greatest priority, then who arrived first.
func TestExpireOrder(t *testing.T) {
	for _, x := range []struct {
		put         []entry
		now         int
		want, still []int
	}{
		{[]entry{{1, 0, 3}, {2, 9, 4}}, 4, []int{1, 2}, nil},
		{[]entry{{1, 9, 4}, {2, 0, 3}}, 4, []int{2, 1}, nil},
		{[]entry{{1, 0, 4}, {2, 9, 4}}, 4, []int{2, 1}, nil},
		{[]entry{{2, 5, 4}, {1, 5, 4}, {3, 5, 4}}, 4, []int{2, 1, 3}, nil},
		{[]entry{{2, 5, 4}, {1, 5, 4}, {3, 6, 4}}, 100, []int{3, 2, 1}, nil},
		{[]entry{{2, 5, 4}, {1, 5, 3}, {3, 5, 4}, {0, 5, 3}}, 4, []int{1, 0, 2, 3}, nil},
		{[]entry{{2, 5, 4}, {1, 5, -1}, {3, 5, 5}, {0, 5, 3}}, 4, []int{0, 2}, []int{1, 3}},
		{[]entry{{2, 5, -1}, {1, 6, -1}, {3, 7, -1}}, last, nil, []int{3, 1, 2}},
		{[]entry{{1, 5, 1<<32 + 5}, {2, 5, 6}, {3, 5, 1 << 32}, {4, 5, 5}}, 6, []int{4, 2}, []int{1, 3}},
		{[]entry{{1, 5, 1<<32 + 5}, {2, 5, 6}, {3, 5, 1 << 32}, {4, 5, 5}}, 1 << 33, []int{4, 2, 3, 1}, nil},
		{[]entry{{1, 5, last}, {2, 5, 1}, {3, 63, last - 1}}, last, []int{2, 3, 1}, nil},
		{[]entry{{9, 0, 2}, {8, 63, 3}, {7, 1, 2}, {6, 1, 1}, {5, 62, 3}, {4, 0, 1}, {3, 1, 2}}, 3, []int{6, 4, 7, 3, 9, 8, 5}, nil},
	} {
		l := lineOf(t, x.put...)
		expires(t, l, x.now, x.want...)
		has(t, l, x.now, x.still...)
	}
}

// The current tick again; an earlier one, and one behind the last, which are refused and do not become the current one.
func TestExpireTicks(t *testing.T) {
	l := lineOf(t, entry{1, 1, 10}, entry{2, 1, 20}, entry{3, 2, -1})
	expires(t, l, 0)
	for _, now := range []int{-1, -2, -last, math.MinInt32, math.MinInt, last + 1, last + 2, 1<<41 + 10, math.MaxInt} {
		expiresNot(t, l, now)
		has(t, l, 0, 3, 1, 2)
	}
	expires(t, l, 10, 1)
	expires(t, l, 10)
	for _, now := range []int{9, 0, -1, 1, math.MinInt, last + 1, math.MaxInt} {
		expiresNot(t, l, now)
		has(t, l, 10, 3, 2)
	}
	put(t, l, entry{4, 1, 11}, api.OK)
	expires(t, l, 10)
	expiresNot(t, l, 9)
	expires(t, l, 11, 4)
	expires(t, l, last, 2)
	for range 2 {
		expires(t, l, last)
		expiresNot(t, l, last+1)
		expiresNot(t, l, last-1)
		expiresNot(t, l, math.MaxInt)
	}
	has(t, l, last, 3)
}

// Only Expire changes the current tick.
func TestNow(t *testing.T) {
	l := lineOf(t)
	has(t, l, 0)
	for i, now := range slices.Concat(nows, []int{last}) {
		expires(t, l, now)
		put(t, l, entry{1, 1, -1}, api.OK)
		put(t, l, entry{2, 1, -1}, api.OK)
		put(t, l, entry{3, 1, last + 1}, api.ErrLineTime)
		has(t, l, now, 1, 2)
		takes(t, l, 1)
		drop(t, l, 2, api.OK)
		drop(t, l, 2, api.ErrLineNone)
		takesNone(t, l)
		expiresNot(t, l, last+1+i)
		expiresNot(t, l, now-1-i)
		has(t, l, now)
	}
}

// A call that is refused changes nothing: neither who waits, nor how, nor the current tick.
func TestRefused(t *testing.T) {
	lines := [][]entry{
		nil,
		{{1, 1, -1}},
		{{1, 1, 7}, {2, 1, 6}},
		{{2, 3, 9}, {1, 3, 9}, {3, 4, 6}, {4, 0, 9}, {0, 4, -1}, {65535, 3, last}},
	}
	for _, l := range lines {
		for _, now := range []int{0, 5} {
			for way := range ways {
				b := bothOf(t, l...)
				b.expire(t, now)
				refused(t, b, now)
				b.ends(t, way)
				refused(t, b, b.record.now)
				if t.Failed() {
					t.Fatal(l, now, way)
				}
			}
		}
	}
}

// refused makes calls that are refused, of each kind.
func refused(t *testing.T, b *both, now int) {
	for _, id := range noIDs {
		put(t, b.Line, entry{id, 2, -1}, api.ErrLineID)
		drop(t, b.Line, id, api.ErrLineNone)
	}
	for _, prio := range noPrios {
		put(t, b.Line, entry{9, prio, -1}, api.ErrLinePrio)
	}
	for _, until := range noUntils(now) {
		put(t, b.Line, entry{9, 2, until}, api.ErrLineTime)
	}
	for _, x := range b.record.all {
		put(t, b.Line, entry{x.id, 63 - x.prio, -1}, api.ErrLineHere)
		put(t, b.Line, entry{x.id, x.prio, now + 1}, api.ErrLineHere)
	}
	drop(t, b.Line, 9, api.ErrLineNone)
	for _, tick := range []int{now - 1, -1, math.MinInt, last + 1, math.MaxInt} {
		expiresNot(t, b.Line, tick)
	}
	b.same(t)
}

// P14.3

// Each sequence of a few calls, among few waiters and ticks.
func TestAllSequences(t *testing.T) {
	calls := []func(b *both){
		func(b *both) { b.put(t, entry{0, 1, -1}) },
		func(b *both) { b.put(t, entry{0, 2, 2}) },
		func(b *both) { b.put(t, entry{1, 1, 1}) },
		func(b *both) { b.put(t, entry{1, 1, 2}) },
		func(b *both) { b.put(t, entry{2, 2, 1}) },
		func(b *both) { b.put(t, entry{2, 1, 2}) },
		func(b *both) { b.take(t) },
		func(b *both) { b.drop(t, 0) },
		func(b *both) { b.drop(t, 1) },
		func(b *both) { b.expire(t, 0) },
		func(b *both) { b.expire(t, 1) },
		func(b *both) { b.expire(t, 2) },
	}
	const long = 5
	all := 1
	for range long {
		all *= len(calls)
	}
	for number := range all {
		b := bothOf(t)
		for n, i := number, 0; i < long; n, i = n/len(calls), i+1 {
			calls[n%len(calls)](b)
		}
		b.ends(t, number%len(ways))
		if t.Failed() {
			t.Fatal(number)
		}
	}
}

// source is a row of numbers that look drawn, and are the same each time.
type source uint32

// under is the next number, below n.
func (s *source) under(n int) int {
	*s = *s*1664525 + 1013904223
	return int(*s>>8) % n
}

// of is one of some numbers.
func (s *source) of(l ...int) int { return l[s.under(len(l))] }

// world is from what many sequences draw: how many waiters and priorities there are, how far ahead deadlines are, and how fast ticks pass.
type world struct{ waiters, prios, ahead, pace int }

func (s *source) world() world {
	return world{1 + s.under(s.of(2, 5, 20, 60)), s.of(1, 2, 3, 64), s.of(1, 2, 5, 30, 1<<20), s.of(1, 2, 3, 10)}
}

// one is one who may be put, or whom the line refuses now and then.
func (s *source) one(w world, now int) entry {
	x := entry{s.under(w.waiters), s.under(w.prios), now + 1 + s.under(w.ahead)}
	if s.under(4) == 0 {
		x.until = -1
	}
	switch s.under(30) {
	case 0:
		x.id = s.of(append(noIDs, 65535)...)
	case 1:
		x.prio = s.of(append(noPrios, 63)...)
	case 2, 3:
		x.until = s.of(append(noUntils(now), last)...)
	}
	return x
}

// Many sequences of calls: a line does what its record does.
func TestManySequences(t *testing.T) {
	for seed := range 1500 {
		s := source(seed)
		w, b := s.world(), bothOf(t)
		for range 20 + s.under(150) {
			switch s.under(10) {
			default:
				b.put(t, s.one(w, b.record.now))
			case 0:
				b.take(t)
			case 1:
				b.drop(t, s.of(s.under(w.waiters), s.under(w.waiters), s.one(w, 0).id))
			case 2, 3:
				now := b.record.now
				b.expire(t, s.of(now, now+1, now+s.under(w.pace), now+s.under(w.ahead), now-1-s.under(3)))
			}
			b.same(t)
		}
		if s.under(5) == 0 {
			b.expire(t, last-s.under(3))
			b.put(t, s.one(w, b.record.now))
		}
		b.ends(t, s.under(len(ways)))
		if t.Failed() {
			t.Fatalf("sequence %d: %+v", seed, w)
		}
	}
}

// Taking all waiters one behind the other gives the list, at any time.
func TestTakingGivesTheList(t *testing.T) {
	for seed := range 1000 {
		s := source(seed)
		w, l := s.world(), lineOf(t)
		for range 1 + s.under(5) {
			for range s.under(2 * w.waiters) {
				x := s.one(w, l.Now())
				l.Put(x.id, x.prio, x.until)
			}
			l.Expire(l.Now() + s.under(w.pace))
			l.Drop(s.under(w.waiters))
			for range s.under(3) {
				l.Take()
			}
		}
		list := l.List()
		has(t, l, l.Now(), list...)
		for i, id := range list {
			takes(t, l, id)
			has(t, l, l.Now(), list[i+1:]...)
		}
		takesNone(t, l)
		if t.Failed() {
			t.Fatalf("sequence %d: %+v", seed, w)
		}
	}
}

// crowd is a line, and the deadlines of all who should be in it.
type crowd struct {
	*line.Line
	until map[int]int
}

// gone is told that some have left.
func (c crowd) gone(t *testing.T, ids ...int) {
	for _, id := range ids {
		if _, ok := c.until[id]; !ok {
			t.Errorf("%d left, and was not there", id)
		}
		delete(c.until, id)
	}
}

// passes lets ticks pass, and checks that those leave whose deadline was among them, and nobody else.
func (c crowd) passes(t *testing.T, now int) {
	was := c.Now()
	due, e := c.Expire(now)
	if e != api.OK {
		t.Errorf("Expire(%d) = %d", now, int(e))
	}
	for _, id := range due {
		if until := c.until[id]; until <= was || until > now {
			t.Errorf("%d left from %d to %d: its deadline is %d", id, was, now, until)
		}
	}
	c.gone(t, due...)
	for id, until := range c.until {
		if until != -1 && until <= now {
			t.Errorf("%d waits at %d still: its deadline is %d", id, now, until)
		}
	}
}

// complete checks that exactly those are in the line who should be.
func (c crowd) complete(t *testing.T) {
	list := c.List()
	for _, id := range list {
		if _, ok := c.until[id]; !ok {
			t.Errorf("%d is in the line: %v", id, list)
		}
	}
	if len(list) != len(c.until) {
		t.Errorf("%v are in the line, not those of %v", list, c.until)
	}
}

// Nobody waits beyond its deadline, and nobody is removed ahead of it unless it is taken or dropped.
func TestDeadlines(t *testing.T) {
	for seed := range 1500 {
		s := source(seed)
		w, c := s.world(), crowd{lineOf(t), map[int]int{}}
		for range 100 {
			for range s.under(3) {
				x := s.one(w, c.Now())
				if c.Put(x.id, x.prio, x.until) == api.OK {
					c.until[x.id] = x.until
				}
			}
			switch s.under(8) {
			case 0:
				if id, ok := c.Take(); ok {
					c.gone(t, id)
				}
			case 1:
				if id := s.under(w.waiters); c.Drop(id) == api.OK {
					c.gone(t, id)
				}
			}
			c.passes(t, c.Now()+s.of(0, 1, s.under(w.pace), s.under(w.ahead)))
			c.complete(t)
		}
		c.passes(t, last)
		c.complete(t)
		if t.Failed() {
			t.Fatalf("sequence %d: %+v", seed, w)
		}
	}
}

// Tick by tick, each one leaves at its deadline.
func TestTickByTick(t *testing.T) {
	b := bothOf(t)
	for id := range 200 {
		b.put(t, entry{id, id % 5, 1 + id*37%60})
	}
	count := 0
	for now := range 61 {
		count += len(b.expire(t, now))
		b.same(t)
	}
	if count != 200 {
		t.Errorf("%d have left", count)
	}
}

// P1, and the document's rules

// All numbers there are wait at once.
func TestAllWaiters(t *testing.T) {
	const all = api.MaxID + 1
	l := lineOf(t)
	var want [64][]int
	var due [5][]int
	for i := range all {
		id, prio := i*40503%all, i%64
		until := []int{-1, 7, 1 << 33, 3, 5}[i/64%5]
		put(t, l, entry{id, prio, until}, api.OK)
		want[63-prio] = append(want[63-prio], id)
	}
	has(t, l, 0, slices.Concat(want[:]...)...)
	for id := 0; id < all; id += 97 {
		put(t, l, entry{id, 1, 1}, api.ErrLineHere)
	}
	// Of each priority, five in turn have the five deadlines.
	for _, ids := range want {
		for i, id := range ids {
			due[i%5] = append(due[i%5], id)
		}
	}
	expires(t, l, 2)
	expires(t, l, 6, slices.Concat(due[3], due[4])...)
	expires(t, l, 1<<33, slices.Concat(due[1], due[2])...)
	has(t, l, 1<<33, due[0]...)
	takes(t, l, due[0][:500]...)
	for _, id := range due[0][500:900] {
		drop(t, l, id, api.OK)
	}
	has(t, l, 1<<33, due[0][900:]...)
	for _, id := range due[4] {
		put(t, l, entry{id, 0, last}, api.OK)
	}
	expires(t, l, last, due[4]...)
	has(t, l, last, due[0][900:]...)
}

// More waiters come one after the other than there are numbers: those of one priority leave as they came.
func TestManyArrivals(t *testing.T) {
	l := lineOf(t, entry{0, 5, -1}, entry{1, 5, -1}, entry{2, 4, -1})
	for i := range 200000 {
		id, ok := l.Take()
		if !ok || id != i%2 {
			t.Fatalf("turn %d: Take() = %d, %t", i, id, ok)
		}
		put(t, l, entry{id, 5, -1}, api.OK)
	}
	has(t, l, 0, 0, 1, 2)
	takes(t, l, 0)
	put(t, l, entry{0, 4, -1}, api.OK) // behind one who waits since the beginning
	has(t, l, 0, 1, 2, 0)
}

// Whoever is there already stays ahead of who comes later, however many have left meanwhile.
func TestArrivalsBehindDepartures(t *testing.T) {
	for left := range 40 {
		b := bothOf(t)
		for id := range 40 {
			b.put(t, entry{id, 1, []int{-1, 1, 2}[id%3]})
		}
		for id := range left {
			b.drop(t, id*7%40)
		}
		b.expire(t, left%3)
		for id := range 40 {
			b.put(t, entry{100 - id, 1, -1})
			b.same(t)
		}
		b.ends(t, 0)
	}
}

// What a line returns is the caller's: it isn't changed by the line later on, and the line isn't changed by it.
func TestResultsAreNew(t *testing.T) {
	all := []entry{{1, 5, 3}, {2, 6, -1}, {3, 5, 3}, {4, 4, 9}, {5, 5, -1}}
	l := lineOf(t, all...)
	one, two := l.List(), l.List()
	for i := range one {
		one[i] = 77
	}
	_ = append(one[:2], 66, 66)
	_ = append(two, 55)
	if !slices.Equal(two, []int{2, 1, 3, 5, 4}) {
		t.Errorf("a list has become %v", two)
	}
	has(t, l, 0, 2, 1, 3, 5, 4)
	due, _ := l.Expire(3)
	if !slices.Equal(due, []int{1, 3}) {
		t.Fatalf("Expire(3) = %v", due)
	}
	put(t, l, entry{7, 5, 4}, api.OK)
	put(t, l, entry{8, 9, 4}, api.OK)
	expires(t, l, 4, 8, 7)
	takes(t, l, 2)
	if !slices.Equal(due, []int{1, 3}) || !slices.Equal(two, []int{2, 1, 3, 5, 4}) {
		t.Errorf("results have become %v, %v", due, two)
	}
	for i := range due {
		due[i] = 88
	}
	_ = append(due, 44, 44, 44)
	has(t, l, 4, 5, 4)
	expires(t, l, 9, 4)
	takes(t, l, 5)
	takesNone(t, l)
}

// Lines are apart from each other: the same one may wait in several, each of which has a tick of its own.
func TestApart(t *testing.T) {
	a, b := lineOf(t), lineOf(t)
	put(t, a, entry{1, 1, 5}, api.OK)
	put(t, b, entry{1, 2, 9}, api.OK)
	put(t, b, entry{2, 3, 6}, api.OK)
	expires(t, a, 7, 1)
	has(t, a, 7)
	has(t, b, 0, 2, 1)
	put(t, a, entry{2, 1, 6}, api.ErrLineTime)
	expires(t, b, 6, 2)
	drop(t, a, 1, api.ErrLineNone)
	put(t, a, entry{3, 1, -1}, api.OK)
	has(t, a, 7, 3)
	has(t, b, 6, 1)
	takes(t, b, 1)
	takesNone(t, b)
	takes(t, a, 3)
}

// Any arguments, one call behind the other: no call panics, and each does what its record does.
func TestAnyArguments(t *testing.T) {
	numbers := slices.Concat(ids, noIDs, []int{63, 64, 65, last - 1, last, last + 1, last + 2, -last})
	b := bothOf(t)
	for i, x := range numbers {
		for j, y := range numbers {
			for _, z := range numbers {
				b.put(t, entry{x, y, z})
			}
			b.drop(t, numbers[(i+j)%len(numbers)])
		}
		b.same(t)
	}
	slices.Sort(numbers)
	for _, now := range numbers {
		b.expire(t, now)
		b.expire(t, -now)
		for _, y := range numbers {
			for _, z := range numbers {
				b.put(t, entry{now, y, z})
			}
		}
		b.same(t)
	}
	b.ends(t, 1)
}
