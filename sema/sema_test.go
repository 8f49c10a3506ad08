package sema_test

import (
	"math"
	"slices"
	"testing"

	"purlin/api"
	"purlin/sema"
)

// The calls are as the chapter has them.
var (
	_ func(int, int) (*sema.Sema, api.Errno)            = sema.New
	_ func(*sema.Sema, int, int, int) (bool, api.Errno) = (*sema.Sema).Wait
	_ func(*sema.Sema) (int, bool, api.Errno)           = (*sema.Sema).Signal
	_ func(*sema.Sema, int) api.Errno                   = (*sema.Sema).Drop
	_ func(*sema.Sema, int) ([]int, api.Errno)          = (*sema.Sema).Expire
	_ func(*sema.Sema) []int                            = (*sema.Sema).List
	_ func(*sema.Sema) int                              = (*sema.Sema).Count
)

// last is the last tick that there is.
const last = api.MaxTick

var (
	ids     = []int{0, 1, 2, 255, 256, 32767, 32768, api.MaxID - 1, api.MaxID}
	noIDs   = []int{-1, -2, -256, -65536, math.MinInt32, -1 << 32, math.MinInt + 1, math.MinInt, api.MaxID + 1, api.MaxID + 2, 1<<17 + 1, math.MaxInt32, 1 << 32, 1<<32 + 1, math.MaxInt - 1, math.MaxInt}
	prios   = []int{0, 1, 2, 31, 32, api.MaxPrio - 1, api.MaxPrio}
	noPrios = []int{-1, -2, -63, -64, -256, math.MinInt32, -1 << 32, math.MinInt, api.MaxPrio + 1, api.MaxPrio + 2, 127, 128, 255, 256, 257, 65536, math.MaxInt32, 1<<32 + 1, math.MaxInt}
	mosts   = []int{1, 2, 3, 4, 7, 8, 127, 128, 129, 253, 254, 255}
	noMosts = []int{0, -1, -2, -255, -256, -257, math.MinInt32, -1<<32 + 1, math.MinInt, 256, 257, 258, 511, 512, 65535, 65537, math.MaxInt32, 1<<32 + 1, math.MaxInt}
	// nows are ticks that a semaphore has been told last.
	nows = []int{0, 1, 2, 9, 10, 65535, 65536, math.MaxInt32, 1 << 31, 1 << 32, 1<<32 + 1, last - 2, last - 1}
)

// untils is deadlines that a waiter may have at a tick ahead of the last one, or none.
func untils(now int) []int {
	return []int{-1, now + 1, (now + last + 1) / 2, max(now+1, last-1), last}
}

// noUntils is deadlines that a waiter may not have at a tick; 0, which is no deadline at all, is not among them.
func noUntils(now int) []int {
	l := []int{
		now, max(now-1, 0), (now + 1) / 2, now / 3, min(now, 1),
		-2, -3, -now - 2, -65536, -last, math.MinInt32, -1 << 32, math.MinInt + 1, math.MinInt,
		last + 1, last + 2, last + now + 1, 2 * last, 2*last + 1, math.MaxInt - 1, math.MaxInt,
	}
	return slices.DeleteFunc(l, func(until int) bool { return until == 0 })
}

// anyUntils is deadlines of each kind: right ones, wrong ones, none, and 0.
func anyUntils(now int) []int { return slices.Concat(untils(now), noUntils(now), []int{0}) }

// entry is one who is to be let in, or to wait.
type entry struct{ id, prio, until int }

// waits checks what a wait returns.
func waits(t *testing.T, s *sema.Sema, x entry, want bool, err api.Errno) {
	t.Helper()
	if ok, e := s.Wait(x.id, x.prio, x.until); ok != want || e != err {
		t.Errorf("Wait(%d, %d, %d) = %t, %d, not %t, %d", x.id, x.prio, x.until, ok, int(e), want, int(err))
	}
}

// semaOf is a new semaphore.
func semaOf(t *testing.T, init, most int) *sema.Sema {
	t.Helper()
	s, e := sema.New(init, most)
	if s == nil || e != api.OK {
		t.Fatalf("New(%d, %d) = %v, %d", init, most, s, int(e))
	}
	return s
}

// full is a new semaphore with the count 0, at which some wait.
func full(t *testing.T, most int, l ...entry) *sema.Sema {
	t.Helper()
	s := semaOf(t, 0, most)
	for _, x := range l {
		waits(t, s, x, false, api.OK)
	}
	return s
}

// has checks a semaphore's count, and all who wait in order, also when it is asked again.
func has(t *testing.T, s *sema.Sema, count int, want ...int) {
	t.Helper()
	for range 2 {
		if got := s.List(); !slices.Equal(got, want) {
			t.Errorf("List() = %v, not %v", got, want)
		}
		if got := s.Count(); got != count {
			t.Errorf("Count() = %d, not %d", got, count)
		}
	}
}

// releases checks who is released, one behind the other.
func releases(t *testing.T, s *sema.Sema, want ...int) {
	t.Helper()
	for _, id := range want {
		if got, ok, e := s.Signal(); got != id || !ok || e != api.OK {
			t.Errorf("Signal() = %d, %t, %d, not %d", got, ok, int(e), id)
		}
	}
}

// rises checks that so many signals release nobody, and that the count rises up to a number.
func rises(t *testing.T, s *sema.Sema, times, count int) {
	t.Helper()
	for i := range times {
		if id, ok, e := s.Signal(); id != 0 || ok || e != api.OK {
			t.Errorf("Signal() = %d, %t, %d", id, ok, int(e))
		}
		if got, want := s.Count(), count-times+i+1; got != want {
			t.Errorf("Count() = %d, not %d", got, want)
		}
	}
}

// risesNot checks that the count is at its maximum.
func risesNot(t *testing.T, s *sema.Sema) {
	t.Helper()
	if id, ok, e := s.Signal(); id != 0 || ok || e != api.ErrSemaFull {
		t.Errorf("Signal() = %d, %t, %d", id, ok, int(e))
	}
}

// drop checks what a drop returns.
func drop(t *testing.T, s *sema.Sema, id int, want api.Errno) {
	t.Helper()
	if e := s.Drop(id); e != want {
		t.Errorf("Drop(%d) = %d, not %d", id, int(e), int(want))
	}
}

// expires checks who is removed at a tick.
func expires(t *testing.T, s *sema.Sema, now int, want ...int) {
	t.Helper()
	if got, e := s.Expire(now); !slices.Equal(got, want) || e != api.OK {
		t.Errorf("Expire(%d) = %v, %d, not %v", now, got, int(e), want)
	}
}

// expiresNot checks that a tick is refused.
func expiresNot(t *testing.T, s *sema.Sema, now int) {
	t.Helper()
	if got, e := s.Expire(now); len(got) != 0 || e != api.ErrLineTime {
		t.Errorf("Expire(%d) = %v, %d", now, got, int(e))
	}
}

// record is a semaphore as the chapters describe it: the count, its maximum, who waits, as they arrived, and the current tick.
type record struct {
	count, most int
	all         []entry
	now         int
}

func (r *record) here(id int) bool {
	return slices.ContainsFunc(r.all, func(x entry) bool { return x.id == id })
}

func (r *record) wait(x entry) (bool, api.Errno) {
	switch {
	case x.id < 0 || x.id > 65535:
		return false, 140
	case x.prio < 0 || x.prio > 63:
		return false, 143
	case r.here(x.id):
		return false, 141
	case r.count > 0:
		r.count--
		return true, 0
	case x.until == 0:
		return false, 0
	case x.until != -1 && (x.until <= r.now || x.until > 1<<40):
		return false, 144
	}
	r.all = append(r.all, x)
	return false, 0
}

// list is who waits: priority by priority, and as they arrived.
func (r *record) list() []int {
	var l []int
	for prio := 63; prio >= 0; prio-- {
		for _, x := range r.all {
			if x.prio == prio {
				l = append(l, x.id)
			}
		}
	}
	return l
}

// remove removes some, if they are there.
func (r *record) remove(ids ...int) {
	r.all = slices.DeleteFunc(r.all, func(x entry) bool { return slices.Contains(ids, x.id) })
}

func (r *record) signal() (int, bool, api.Errno) {
	if l := r.list(); len(l) > 0 {
		r.remove(l[0])
		return l[0], true, 0
	}
	if r.count == r.most {
		return 0, false, 151
	}
	r.count++
	return 0, false, 0
}

func (r *record) drop(id int) api.Errno {
	if !r.here(id) {
		return 142
	}
	r.remove(id)
	return 0
}

// deadlines is the ticks at which somebody is to be removed, rising.
func (r *record) deadlines() []int {
	var l []int
	for _, x := range r.all {
		if x.until != -1 {
			l = append(l, x.until)
		}
	}
	slices.Sort(l)
	return slices.Compact(l)
}

func (r *record) expire(now int) ([]int, api.Errno) {
	if now < r.now || now > 1<<40 {
		return nil, 144
	}
	r.now = now
	order, until := r.list(), map[int]int{}
	for _, x := range r.all {
		until[x.id] = x.until
	}
	var l []int
	for _, tick := range r.deadlines() {
		for _, id := range order {
			if tick <= now && until[id] == tick {
				l = append(l, id)
			}
		}
	}
	r.remove(l...)
	return l, 0
}

// both is a semaphore and its record, of which each call is made.
type both struct {
	*sema.Sema
	record record
}

// bothOf is a new semaphore, at which some wait, or are let in.
func bothOf(t *testing.T, init, most int, l ...entry) *both {
	t.Helper()
	b := &both{semaOf(t, init, most), record{count: init, most: most}}
	for _, x := range l {
		b.wait(t, x)
	}
	return b
}

// same checks that a semaphore has what its record has.
func (b *both) same(t *testing.T) {
	t.Helper()
	has(t, b.Sema, b.record.count, b.record.list()...)
}

func (b *both) wait(t *testing.T, x entry) {
	t.Helper()
	ok, e := b.record.wait(x)
	waits(t, b.Sema, x, ok, e)
}

func (b *both) signal(t *testing.T) {
	t.Helper()
	want, released, err := b.record.signal()
	if id, ok, e := b.Signal(); id != want || ok != released || e != err {
		t.Errorf("Signal() = %d, %t, %d, not %d, %t, %d", id, ok, int(e), want, released, int(err))
	}
}

func (b *both) drop(t *testing.T, id int) {
	t.Helper()
	drop(t, b.Sema, id, b.record.drop(id))
}

func (b *both) expire(t *testing.T, now int) {
	t.Helper()
	l, e := b.record.expire(now)
	if e != api.OK {
		expiresNot(t, b.Sema, now)
		return
	}
	expires(t, b.Sema, now, l...)
}

// ways is how those who wait leave: each shows something else of them.
var ways = []func(b *both, t *testing.T){
	func(b *both, t *testing.T) {},
	func(b *both, t *testing.T) {
		for _, x := range slices.Clone(b.record.all) {
			b.drop(t, x.id)
			b.same(t)
		}
	},
	func(b *both, t *testing.T) {
		for _, tick := range b.record.deadlines() {
			b.expire(t, tick-1)
			b.same(t)
			b.expire(t, tick)
			b.same(t)
		}
	},
	func(b *both, t *testing.T) {
		b.expire(t, last)
		b.same(t)
	},
}

// ends lets those who wait leave in one of the ways, signals whoever is left then, and goes on up to the maximum and back to 0.
func (b *both) ends(t *testing.T, way int) {
	t.Helper()
	b.same(t)
	ways[way](b, t)
	for range len(b.record.all) {
		b.signal(t)
		b.same(t)
	}
	up := b.record.most - b.record.count
	rises(t, b.Sema, up, b.record.most)
	risesNot(t, b.Sema)
	for range b.record.most {
		waits(t, b.Sema, entry{1, 1, 0}, true, api.OK)
	}
	waits(t, b.Sema, entry{1, 1, 0}, false, api.OK)
	has(t, b.Sema, 0)
}

// The chapter's example.
func TestExample(t *testing.T) {
	s := semaOf(t, 1, 2)
	waits(t, s, entry{7, 5, -1}, true, 0)
	waits(t, s, entry{8, 5, 0}, false, 0)
	has(t, s, 0)
	waits(t, s, entry{8, 5, -1}, false, 0)
	has(t, s, 0, 8)
	waits(t, s, entry{9, 6, 10}, false, 0)
	has(t, s, 0, 9, 8)
	releases(t, s, 9, 8)
	has(t, s, 0)
	rises(t, s, 2, 2)
	if id, ok, e := s.Signal(); id != 0 || ok || e != 151 {
		t.Errorf("Signal() = %d, %t, %d", id, ok, int(e))
	}
	has(t, s, 2)
}

// P15.1

// makes checks whether there is a semaphore with a count and a maximum, and that nobody waits at it.
func makes(t *testing.T, init, most int) {
	t.Helper()
	s, e := sema.New(init, most)
	if most < 1 || most > 255 || init < 0 || init > most {
		if s != nil || e != 150 {
			t.Errorf("New(%d, %d) = %v, %d", init, most, s, int(e))
		}
		return
	}
	if s == nil || e != 0 {
		t.Fatalf("New(%d, %d) = %v, %d", init, most, s, int(e))
	}
	has(t, s, init)
}

// Each count and each maximum, and those around them.
func TestNew(t *testing.T) {
	for most := -3; most < 260; most++ {
		for init := -3; init < 260; init++ {
			makes(t, init, most)
		}
	}
}

// Counts and maximums that are far from right.
func TestNewFar(t *testing.T) {
	numbers := slices.Concat(noMosts, mosts)
	for _, most := range numbers {
		for _, init := range numbers {
			makes(t, init, most)
		}
		for _, init := range []int{-1, 0, most - 1, most, most + 1, most + 256, -most, most + 1<<32} {
			makes(t, init, most)
		}
	}
}

// A semaphore lets in as many as its count says, one behind the other, and nobody else.
func TestCountDown(t *testing.T) {
	for _, most := range mosts {
		for init := range most + 1 {
			s := semaOf(t, init, most)
			for i := range init {
				waits(t, s, entry{i * 7, i % 64, -1}, true, api.OK)
				if got := s.Count(); got != init-1-i {
					t.Errorf("Count() = %d, not %d", got, init-1-i)
				}
			}
			waits(t, s, entry{9, 9, 0}, false, api.OK)
			waits(t, s, entry{9, 9, -1}, false, api.OK)
			has(t, s, 0, 9)
			if t.Failed() {
				t.Fatal(init, most)
			}
		}
	}
}

// A semaphore's count rises from where it is up to its maximum, and no further.
func TestCountUp(t *testing.T) {
	for _, most := range mosts {
		for init := range most + 1 {
			s := semaOf(t, init, most)
			rises(t, s, most-init, most)
			for range 3 {
				risesNot(t, s)
				has(t, s, most)
			}
			waits(t, s, entry{1, 1, -1}, true, api.OK)
			rises(t, s, 1, most)
			risesNot(t, s)
			if t.Failed() {
				t.Fatal(init, most)
			}
		}
	}
}

// A new semaphore: nobody can be dropped or expires, and its tick is 0.
func TestNewHasNobody(t *testing.T) {
	for _, x := range [][2]int{{0, 1}, {1, 1}, {0, 255}, {255, 255}, {3, 8}} {
		s := semaOf(t, x[0], x[1])
		for _, id := range slices.Concat(ids, noIDs) {
			drop(t, s, id, api.ErrLineNone)
		}
		expiresNot(t, s, -1)
		expires(t, s, 0)
		expiresNot(t, s, -1)
		for _, now := range nows {
			expires(t, s, now)
		}
		expires(t, s, last)
		expiresNot(t, s, last-1)
		expiresNot(t, s, last+1)
		has(t, s, x[0])
	}
}

// List is in the order of the line: the greatest priority first, and those of one priority as they arrived.
func TestList(t *testing.T) {
	for _, x := range []struct {
		come []entry
		want []int
	}{
		{[]entry{{0, 0, 1}}, []int{0}},
		{[]entry{{1, 1, -1}, {2, 2, -1}, {3, 3, -1}}, []int{3, 2, 1}},
		{[]entry{{1, 3, -1}, {2, 2, -1}, {3, 1, -1}}, []int{1, 2, 3}},
		{[]entry{{3, 7, -1}, {1, 7, -1}, {2, 7, -1}}, []int{3, 1, 2}},
		{[]entry{{3, 7, 30}, {1, 7, 10}, {2, 7, 20}, {0, 7, -1}}, []int{3, 1, 2, 0}},
		{[]entry{{65535, 63, 1}, {0, 0, 1}, {65534, 0, -1}, {1, 63, last}}, []int{65535, 1, 0, 65534}},
		{[]entry{{4, 1, 5}, {9, 0, 5}, {8, 1, 5}, {7, 0, 5}, {6, 2, 5}}, []int{6, 4, 8, 9, 7}},
	} {
		has(t, full(t, 3, x.come...), 0, x.want...)
		s := full(t, 3, x.come...)
		releases(t, s, x.want...)
		rises(t, s, 3, 3)
	}
}

// Drop removes whoever is asked for, and nobody else; that counts for nothing.
func TestDrop(t *testing.T) {
	all := []entry{{10, 2, 5}, {11, 3, -1}, {12, 2, 5}, {13, 1, 4}, {14, 2, 6}, {0, 3, 6}, {65535, 0, -1}}
	for _, x := range all {
		for way := range ways {
			b := bothOf(t, 0, 2, all...)
			has(t, b.Sema, 0, 11, 0, 10, 12, 14, 13, 65535)
			b.drop(t, x.id)
			for range 2 {
				drop(t, b.Sema, x.id, api.ErrLineNone)
			}
			b.ends(t, way)
		}
	}
}

// Drop of those who aren't there: who never were, who were before, who were let in, who did not wait, and who can't be.
func TestDropNone(t *testing.T) {
	for way := range ways {
		b := bothOf(t, 1, 4, entry{8, 9, 9}, entry{1, 5, 9}, entry{2, 5, 3}, entry{3, 5, -1}, entry{4, 5, 9}, entry{5, 9, -1}, entry{9, 9, 0})
		has(t, b.Sema, 0, 5, 1, 2, 3, 4)
		b.signal(t)
		b.drop(t, 1)
		b.expire(t, 3)
		waits(t, b.Sema, entry{6, 64, -1}, false, api.ErrLinePrio)
		waits(t, b.Sema, entry{7, 5, 3}, false, api.ErrLineTime)
		for _, id := range slices.Concat(noIDs, []int{0, 1, 2, 5, 6, 7, 8, 9, 65535}) {
			drop(t, b.Sema, id, api.ErrLineNone)
		}
		has(t, b.Sema, 0, 3, 4)
		b.ends(t, way)
	}
}

// Expire removes those whose deadline is reached: the earliest first, and those of one deadline in the order.
func TestExpire(t *testing.T) {
	all := []entry{{9, 0, 2}, {8, 63, 3}, {7, 1, 2}, {6, 1, 1}, {5, 62, 3}, {4, 0, 1}, {3, 1, 2}, {2, 9, -1}, {1, 9, last}}
	s := full(t, 2, all...)
	expires(t, s, 3, 6, 4, 7, 3, 9, 8, 5)
	has(t, s, 0, 2, 1)
	s = full(t, 2, all...)
	expires(t, s, 0)
	expires(t, s, 1, 6, 4)
	expires(t, s, 1)
	expiresNot(t, s, 0)
	expires(t, s, 2, 7, 3, 9)
	has(t, s, 0, 8, 5, 2, 1)
	expires(t, s, last-1, 8, 5)
	expires(t, s, last, 1)
	expires(t, s, last)
	has(t, s, 0, 2)
	for _, now := range []int{-1, 0, last - 1, last + 1, 2 * last, math.MinInt, math.MaxInt} {
		expiresNot(t, s, now)
	}
	has(t, s, 0, 2)
}

// P15.2

// Each number and priority waits up to its deadline if the count is 0: from the next tick on to the last one, or for good.
func TestWait(t *testing.T) {
	for _, now := range nows {
		for _, id := range ids {
			for _, prio := range prios {
				for _, until := range untils(now) {
					s := semaOf(t, 0, 1)
					expires(t, s, now)
					waits(t, s, entry{id, prio, until}, false, api.OK)
					has(t, s, 0, id)
					expires(t, s, max(now, until-1))
					has(t, s, 0, id)
					if until == -1 {
						expires(t, s, last)
						releases(t, s, id)
					} else {
						expires(t, s, until, id)
					}
					has(t, s, 0)
				}
			}
		}
	}
}

// If the count is greater than 0, each one is let in at once, whatever its deadline; it waits nowhere, and its deadline is never reached.
func TestLetIn(t *testing.T) {
	for _, now := range append(slices.Clone(nows), last) {
		for _, id := range ids {
			for _, until := range anyUntils(now) {
				s := semaOf(t, 3, 3)
				expires(t, s, now)
				for count, prio := range []int{0, 5, 63} {
					waits(t, s, entry{id, prio, until}, true, api.OK)
					has(t, s, 2-count)
				}
				drop(t, s, id, api.ErrLineNone)
				expires(t, s, last)
				has(t, s, 0)
				rises(t, s, 3, 3)
			}
		}
	}
}

// 0 waits for nobody: neither the count nor the line changes, at any tick.
func TestWaitNotAtAll(t *testing.T) {
	for _, now := range append(slices.Clone(nows), last) {
		for _, l := range [][]entry{nil, {{77, 5, -1}}, {{77, 5, last}, {78, 0, -1}, {79, 63, -1}}} {
			b := bothOf(t, 0, 2)
			b.expire(t, now)
			for _, x := range l {
				b.wait(t, x)
			}
			for _, id := range ids {
				for _, prio := range prios {
					waits(t, b.Sema, entry{id, prio, 0}, false, api.OK)
				}
				drop(t, b.Sema, id, api.ErrLineNone)
			}
			b.ends(t, 0)
		}
	}
}

// Whoever did not wait at first may do so behind that, and comes behind those who came meanwhile.
func TestWaitNotAndThenWait(t *testing.T) {
	s := full(t, 1, entry{1, 5, -1})
	waits(t, s, entry{2, 5, 0}, false, api.OK)
	waits(t, s, entry{3, 5, 9}, false, api.OK)
	waits(t, s, entry{2, 5, 0}, false, api.OK)
	waits(t, s, entry{2, 5, 9}, false, api.OK)
	waits(t, s, entry{4, 5, 9}, false, api.OK)
	has(t, s, 0, 1, 3, 2, 4)
	waits(t, s, entry{2, 5, 0}, false, api.ErrLineHere)
	expires(t, s, 9, 3, 2, 4)
	releases(t, s, 1)
	rises(t, s, 1, 1)
}

// With the count 0 a deadline must be later than the current tick, and not behind the last one.
func TestWrongDeadlines(t *testing.T) {
	for _, now := range append(slices.Clone(nows), last) {
		for way := range ways {
			b := bothOf(t, 0, 3, entry{3, 3, -1})
			b.expire(t, now)
			for _, until := range noUntils(now) {
				waits(t, b.Sema, entry{4, 3, until}, false, api.ErrLineTime)
				waits(t, b.Sema, entry{5, 63, until}, false, api.ErrLineTime)
				drop(t, b.Sema, 4, api.ErrLineNone)
			}
			has(t, b.Sema, 0, 3)
			if now < last {
				b.wait(t, entry{4, 9, now + 1})
				b.wait(t, entry{5, 3, last})
			}
			b.ends(t, way)
		}
	}
}

// Only Expire changes the current tick: nobody does who waits or not, is let in, released or dropped, or is refused.
func TestCurrentTick(t *testing.T) {
	s := semaOf(t, 1, 1)
	for _, now := range nows {
		expires(t, s, now)
		waits(t, s, entry{1, 1, last}, true, api.OK)
		waits(t, s, entry{1, 1, 0}, false, api.OK)
		waits(t, s, entry{2, 1, -1}, false, api.OK)
		waits(t, s, entry{3, 1, last}, false, api.OK)
		waits(t, s, entry{4, 1, last + 1}, false, api.ErrLineTime)
		releases(t, s, 2)
		drop(t, s, 3, api.OK)
		// As at first: the current tick is no deadline, the next one is.
		expiresNot(t, s, now-1)
		expiresNot(t, s, last+1)
		if now > 0 {
			waits(t, s, entry{4, 1, now}, false, api.ErrLineTime)
		}
		waits(t, s, entry{4, 1, now + 1}, false, api.OK)
		expires(t, s, now)
		drop(t, s, 4, api.OK)
		rises(t, s, 1, 1)
	}
}

// Numbers and priorities that there are not, whatever the count and the deadline.
func TestWaitRefused(t *testing.T) {
	for _, now := range []int{0, 5, last} {
		for count := range 3 {
			b := bothOf(t, count, 4)
			b.expire(t, now)
			for _, until := range anyUntils(now) {
				for _, id := range noIDs {
					for _, prio := range []int{0, 3, 63} {
						waits(t, b.Sema, entry{id, prio, until}, false, api.ErrLineID)
					}
				}
				for _, prio := range noPrios {
					for _, id := range []int{0, 3, 65535} {
						waits(t, b.Sema, entry{id, prio, until}, false, api.ErrLinePrio)
					}
				}
			}
			b.ends(t, 0)
		}
	}
}

// Where several errors apply, the number's comes first, and then the priority's, that of one who waits already, and the deadline's.
func TestWhichErrorFirst(t *testing.T) {
	for _, now := range []int{0, 5, last} {
		s := full(t, 9, entry{1, 1, -1}, entry{65535, 63, -1})
		expires(t, s, now)
		for _, id := range slices.Concat(noIDs, []int{0, 1, 2, 65535}) {
			for _, prio := range slices.Concat(noPrios, prios) {
				for _, until := range anyUntils(now) {
					want := api.OK
					if slices.Contains(noUntils(now), until) {
						want = api.ErrLineTime
					}
					if id == 1 || id == 65535 {
						want = api.ErrLineHere
					}
					if slices.Contains(noPrios, prio) {
						want = api.ErrLinePrio
					}
					if slices.Contains(noIDs, id) {
						want = api.ErrLineID
					}
					if want != api.OK || until == 0 {
						waits(t, s, entry{id, prio, until}, false, want)
					}
				}
			}
		}
		has(t, s, 0, 65535, 1)
	}
}

// One who waits already is refused, whatever its priority and its deadline were to be, and stays as it was at first.
func TestHere(t *testing.T) {
	for way := range ways {
		b := bothOf(t, 0, 3, entry{2, 4, 10}, entry{3, 4, -1}, entry{4, 4, 8}, entry{0, 4, 9})
		for _, now := range []int{0, 3, 7} {
			b.expire(t, now)
			for _, id := range []int{2, 3, 4, 0} {
				for _, prio := range prios {
					for _, until := range anyUntils(now) {
						waits(t, b.Sema, entry{id, prio, until}, false, api.ErrLineHere)
					}
				}
			}
			has(t, b.Sema, 0, 2, 3, 4, 0)
		}
		b.ends(t, way)
	}
}

// Whoever waited before, or was let in, isn't in the line any more: it is let in while the count is greater than 0, and waits then as the last one.
func TestAgain(t *testing.T) {
	gone := []func(s *sema.Sema){
		func(s *sema.Sema) { releases(t, s, 1) },
		func(s *sema.Sema) { drop(t, s, 1, api.OK) },
		func(s *sema.Sema) { expires(t, s, 5, 1) },
	}
	for i, leave := range gone {
		for _, prio := range []int{2, 3, 4} {
			for _, until := range []int{-1, 6, 7, 30} {
				s := full(t, 2, entry{1, 3, 5}, entry{2, 3, -1}, entry{3, 3, 9})
				leave(s)
				has(t, s, 0, 2, 3)
				waits(t, s, entry{1, prio, 0}, false, api.OK)
				waits(t, s, entry{1, prio, until}, false, api.OK)
				waits(t, s, entry{1, prio, until}, false, api.ErrLineHere)
				want := map[int][]int{2: {2, 3, 1}, 3: {2, 3, 1}, 4: {1, 2, 3}}[prio]
				has(t, s, 0, want...)
				expires(t, s, 5) // its first deadline is no more
				expires(t, s, 8, map[int][]int{6: {1}, 7: {1}}[until]...)
				if t.Failed() {
					t.Fatal(i, prio, until)
				}
			}
			s := full(t, 2, entry{1, 3, 5})
			leave(s)
			rises(t, s, 2, 2)
			waits(t, s, entry{1, prio, 5}, true, api.OK)
			waits(t, s, entry{1, prio, 9}, true, api.OK)
			waits(t, s, entry{1, prio, 9}, false, api.OK)
			has(t, s, 0, 1)
		}
	}
}

// P15.3

// Nobody waits: the count rises, and at its maximum the signal is refused, again and again.
func TestSignalNobody(t *testing.T) {
	for _, most := range mosts {
		s := semaOf(t, most-1, most)
		rises(t, s, 1, most)
		for range 300 {
			risesNot(t, s)
		}
		has(t, s, most)
		waits(t, s, entry{1, 1, -1}, true, api.OK)
		has(t, s, most-1)
		rises(t, s, 1, most)
		risesNot(t, s)
	}
}

// One waits: it is released, and the count stays 0, whatever the maximum is; the next signal raises it.
func TestSignalOne(t *testing.T) {
	for _, most := range mosts {
		for _, id := range ids {
			for _, until := range untils(0) {
				s := full(t, most, entry{id, 7, until})
				releases(t, s, id)
				has(t, s, 0)
				drop(t, s, id, api.ErrLineNone)
				expires(t, s, last)
				rises(t, s, most, most)
				risesNot(t, s)
			}
		}
	}
}

// More wait than the maximum: each signal releases one, and none is refused.
func TestSignalMany(t *testing.T) {
	for _, most := range mosts {
		for _, prios := range []int{1, 2, 5, 64} {
			b := bothOf(t, 0, most)
			for i := range most + 20 {
				b.wait(t, entry{i * 331 % 65536, i * 27 % prios, []int{-1, 5, last}[i%3]})
			}
			if got := len(b.List()); got != most+20 {
				t.Errorf("%d wait", got)
			}
			b.ends(t, 0)
			if t.Failed() {
				t.Fatal(most, prios)
			}
		}
	}
}

// Whoever comes with the greatest priority is released first, also if it came last, and others with less come behind those who wait already.
func TestSignalOrder(t *testing.T) {
	s := full(t, 1, entry{5, 5, -1}, entry{6, 5, 30}, entry{7, 4, 20})
	waits(t, s, entry{8, 6, -1}, false, api.OK)
	waits(t, s, entry{9, 5, 10}, false, api.OK)
	has(t, s, 0, 8, 5, 6, 9, 7)
	releases(t, s, 8, 5)
	waits(t, s, entry{8, 5, -1}, false, api.OK)
	waits(t, s, entry{5, 63, -1}, false, api.OK)
	waits(t, s, entry{0, 0, -1}, false, api.OK)
	has(t, s, 0, 5, 6, 9, 8, 7, 0)
	releases(t, s, 5, 6, 9, 8, 7, 0)
	rises(t, s, 1, 1)
	risesNot(t, s)
}

// Who was dropped or has expired is released by no signal.
func TestSignalBehindOthers(t *testing.T) {
	all := []entry{{1, 5, 3}, {2, 9, 4}, {3, 5, -1}, {4, 9, 3}, {5, 1, 4}}
	s := full(t, 2, all...)
	drop(t, s, 2, api.OK)
	expires(t, s, 3, 4, 1)
	releases(t, s, 3, 5)
	rises(t, s, 2, 2)

	s = full(t, 2, all...)
	expires(t, s, 4, 4, 1, 2, 5)
	drop(t, s, 3, api.OK)
	rises(t, s, 2, 2)
	risesNot(t, s)
	has(t, s, 2)

	s = full(t, 1, all...)
	for _, x := range all {
		drop(t, s, x.id, api.OK)
	}
	rises(t, s, 1, 1)
	risesNot(t, s)
}

// A call that is refused changes nothing: neither who waits, nor how, nor the count, nor the current tick.
func TestRefused(t *testing.T) {
	for _, l := range [][]entry{
		nil,
		{{1, 1, -1}},
		{{1, 1, 7}, {2, 1, 6}},
		{{2, 3, 9}, {1, 3, 9}, {3, 4, 6}, {4, 0, 9}, {0, 4, -1}, {65535, 3, last}},
	} {
		for _, now := range []int{0, 5} {
			for _, x := range [][2]int{{0, 1}, {0, 7}, {1, 1}, {4, 8}, {8, 8}} {
				for way := range ways {
					b := bothOf(t, x[0], x[1], l...)
					b.expire(t, now)
					refused(t, b)
					b.ends(t, way)
					if t.Failed() {
						t.Fatal(l, now, x, way)
					}
				}
			}
		}
	}
}

// refused makes calls that are refused, of each kind.
func refused(t *testing.T, b *both) {
	now := b.record.now
	for _, id := range noIDs {
		waits(t, b.Sema, entry{id, 2, -1}, false, api.ErrLineID)
		waits(t, b.Sema, entry{id, 2, 0}, false, api.ErrLineID)
		drop(t, b.Sema, id, api.ErrLineNone)
	}
	for _, prio := range noPrios {
		waits(t, b.Sema, entry{9, prio, -1}, false, api.ErrLinePrio)
		waits(t, b.Sema, entry{9, prio, now + 1}, false, api.ErrLinePrio)
	}
	if b.record.count == 0 {
		for _, until := range noUntils(now) {
			waits(t, b.Sema, entry{9, 2, until}, false, api.ErrLineTime)
		}
	}
	for _, x := range b.record.all {
		waits(t, b.Sema, entry{x.id, 63 - x.prio, -1}, false, api.ErrLineHere)
		waits(t, b.Sema, entry{x.id, x.prio, now + 1}, false, api.ErrLineHere)
	}
	if b.record.count == b.record.most {
		risesNot(t, b.Sema)
		risesNot(t, b.Sema)
	}
	drop(t, b.Sema, 9, api.ErrLineNone)
	for _, tick := range []int{now - 1, -1, math.MinInt, last + 1, math.MaxInt} {
		expiresNot(t, b.Sema, tick)
	}
	b.same(t)
}

// P15.4

// Each sequence of a few calls, among few waiters and ticks, from several counts.
func TestAllSequences(t *testing.T) {
	calls := []func(b *both){
		func(b *both) { b.wait(t, entry{0, 1, -1}) },
		func(b *both) { b.wait(t, entry{0, 2, 0}) },
		func(b *both) { b.wait(t, entry{1, 1, 1}) },
		func(b *both) { b.wait(t, entry{1, 2, -1}) },
		func(b *both) { b.wait(t, entry{2, 2, 2}) },
		func(b *both) { b.signal(t) },
		func(b *both) { b.drop(t, 0) },
		func(b *both) { b.drop(t, 1) },
		func(b *both) { b.expire(t, 1) },
		func(b *both) { b.expire(t, 2) },
	}
	const long = 5
	all := 1
	for range long {
		all *= len(calls)
	}
	for _, x := range [][2]int{{0, 1}, {1, 1}, {1, 2}} {
		for number := range all {
			b := bothOf(t, x[0], x[1])
			for n, i := number, 0; i < long; n, i = n/len(calls), i+1 {
				calls[n%len(calls)](b)
			}
			b.ends(t, number%len(ways))
			if t.Failed() {
				t.Fatal(x, number)
			}
		}
	}
}

// source is a row of numbers that look drawn, and are the same each time.
type source uint32

// under is the next number, below n.
func (s *source) under(n int) int {
	*s = *s*1664525 + 1013904223
	return int(*s>>8) % n
}

// of is one of some numbers.
func (s *source) of(l ...int) int { return l[s.under(len(l))] }

// world is from what many sequences draw: the semaphore's count and maximum, how many waiters and priorities there are, how far ahead deadlines are, how fast ticks pass, and how many of a hundred calls are signals.
type world struct{ init, most, waiters, prios, ahead, pace, signals int }

func (s *source) world() world {
	most := s.of(1, 2, 3, 10, 255)
	return world{s.under(most + 1), most, 1 + s.under(s.of(2, 5, 20, 60)), s.of(1, 2, 3, 64), s.of(1, 2, 5, 30, 1<<20), s.of(1, 2, 3, 10), s.of(15, 30, 45, 60)}
}

// one is one who wants to be let in, or whom the semaphore refuses now and then.
func (s *source) one(w world, now int) entry {
	x := entry{s.under(w.waiters), s.under(w.prios), now + 1 + s.under(w.ahead)}
	switch s.under(6) {
	case 0:
		x.until = -1
	case 1:
		x.until = 0
	}
	switch s.under(30) {
	case 0:
		x.id = s.of(append(noIDs, 65535)...)
	case 1:
		x.prio = s.of(append(noPrios, 63)...)
	case 2, 3:
		x.until = s.of(append(noUntils(now), last)...)
	}
	return x
}

// Many sequences of calls: a semaphore does what its record does.
func TestManySequences(t *testing.T) {
	for seed := range 1500 {
		s := source(seed)
		w := s.world()
		b := bothOf(t, w.init, w.most)
		for range 20 + s.under(150) {
			now := b.record.now
			switch n := s.under(100); {
			case n < w.signals:
				b.signal(t)
			case n < w.signals+5:
				b.drop(t, s.of(s.under(w.waiters), s.under(w.waiters), s.one(w, 0).id))
			case n < w.signals+15:
				b.expire(t, s.of(now, now+1, now+s.under(w.pace), now+s.under(w.ahead), now-1-s.under(3)))
			default:
				b.wait(t, s.one(w, now))
			}
			b.same(t)
		}
		if s.under(5) == 0 {
			b.expire(t, last-s.under(3))
			b.wait(t, s.one(w, b.record.now))
		}
		b.ends(t, s.under(len(ways)))
		if t.Failed() {
			t.Fatalf("sequence %d: %+v", seed, w)
		}
	}
}

// books is a semaphore of which only that is kept what it says itself: how many it has let in, by a wait or by a signal, and how many signals it has not refused.
type books struct {
	*sema.Sema
	init, in, signals int
}

func (b *books) wait(x entry) {
	if ok, _ := b.Wait(x.id, x.prio, x.until); ok {
		b.in++
	}
}

func (b *books) signal() {
	_, ok, e := b.Signal()
	if ok {
		b.in++
	}
	if e == api.OK {
		b.signals++
	}
}

// balance checks that nobody waits while the count is greater than 0, and that no unit is lost or made.
func (b *books) balance(t *testing.T, most int) {
	t.Helper()
	count, list := b.Count(), b.List()
	if len(list) > 0 && count != 0 {
		t.Errorf("%v wait, and the count is %d", list, count)
	}
	if count < 0 || count > most {
		t.Errorf("Count() = %d of at most %d", count, most)
	}
	if b.in+count != b.init+b.signals {
		t.Errorf("%d are in and the count is %d: there were %d, and %d signals", b.in, count, b.init, b.signals)
	}
}

// While somebody waits the count is 0, and those let in and the count together are the initial count and the successful signals, after each call of many sequences.
func TestBalance(t *testing.T) {
	for seed := range 2000 {
		s := source(seed + 1<<20)
		w, now := s.world(), 0
		b := &books{Sema: semaOf(t, w.init, w.most), init: w.init}
		b.balance(t, w.most)
		for range 200 {
			switch n := s.under(100); {
			case n < w.signals:
				b.signal()
			case n < w.signals+8:
				b.Drop(s.under(w.waiters))
			case n < w.signals+16:
				if tick := now + s.under(w.pace+1) - s.under(2); tick >= now {
					now = tick
				}
				b.Expire(now)
			default:
				b.wait(s.one(w, now))
			}
			b.balance(t, w.most)
		}
		for range len(b.List()) + w.most + 3 {
			b.signal()
			b.balance(t, w.most)
		}
		if b.Count() != w.most || len(b.List()) != 0 {
			t.Errorf("at the end the count is %d, and %v wait", b.Count(), b.List())
		}
		if t.Failed() {
			t.Fatalf("sequence %d: %+v", seed, w)
		}
	}
}

// P1, and the document's rules

// All numbers there are wait at once, and are released one behind the other.
func TestAllWaiters(t *testing.T) {
	const all = api.MaxID + 1
	s := semaOf(t, 0, 255)
	var want []int
	for i := range all {
		id := i * 40503 % all
		waits(t, s, entry{id, i / 256 % 2, []int{-1, 9}[i%2]}, false, api.OK)
		if i/256%2 == 1 {
			want = append(want, id)
		}
	}
	for i := range all {
		if i/256%2 == 0 {
			want = append(want, i*40503%all)
		}
	}
	has(t, s, 0, want...)
	waits(t, s, entry{0, 1, 0}, false, api.ErrLineHere)
	waits(t, s, entry{65535, 0, -1}, false, api.ErrLineHere)
	releases(t, s, want[:1000]...)
	if due, e := s.Expire(9); len(due) != (all-1000)/2 || e != api.OK {
		t.Errorf("%d have left, %d", len(due), int(e))
	}
	for i := 1000; i < all; i += 2 { // those without a deadline
		releases(t, s, want[i])
	}
	rises(t, s, 255, 255)
	risesNot(t, s)
}

// The same few come again and again, more often than there are numbers: none is forgotten or overtaken.
func TestAgainAndAgain(t *testing.T) {
	s := full(t, 1, entry{0, 5, -1}, entry{1, 5, -1}, entry{2, 4, -1})
	for i := range 100000 {
		id, ok, e := s.Signal()
		if !ok || id != i%2 || e != api.OK {
			t.Fatalf("turn %d: Signal() = %d, %t, %d", i, id, ok, int(e))
		}
		waits(t, s, entry{id, 5, 0}, false, api.OK)
		waits(t, s, entry{id, 5, -1}, false, api.OK)
	}
	has(t, s, 0, 0, 1, 2)
}

// What a semaphore returns is the caller's: it isn't changed by the semaphore later on, and the semaphore isn't changed by it.
func TestResultsAreNew(t *testing.T) {
	s := full(t, 2, entry{1, 5, 3}, entry{2, 6, -1}, entry{3, 5, 3}, entry{4, 4, 9}, entry{5, 5, -1})
	one, two := s.List(), s.List()
	for i := range one {
		one[i] = 77
	}
	_ = append(one[:2], 66, 66)
	_ = append(two, 55)
	has(t, s, 0, 2, 1, 3, 5, 4)
	due, _ := s.Expire(3)
	if !slices.Equal(due, []int{1, 3}) {
		t.Fatalf("Expire(3) = %v", due)
	}
	waits(t, s, entry{7, 5, 4}, false, api.OK)
	waits(t, s, entry{8, 9, 4}, false, api.OK)
	expires(t, s, 4, 8, 7)
	releases(t, s, 2)
	if !slices.Equal(due, []int{1, 3}) || !slices.Equal(two, []int{2, 1, 3, 5, 4}) {
		t.Errorf("results have become %v, %v", due, two)
	}
	for i := range due {
		due[i] = 88
	}
	_ = append(due, 44, 44, 44)
	has(t, s, 0, 5, 4)
	expires(t, s, 9, 4)
	releases(t, s, 5)
	rises(t, s, 2, 2)
}

// Semaphores are apart from each other: each has a count, a line and a tick of its own.
func TestApart(t *testing.T) {
	a, b, c := semaOf(t, 1, 2), semaOf(t, 0, 2), semaOf(t, 2, 2)
	waits(t, a, entry{1, 1, 5}, true, api.OK)
	waits(t, a, entry{1, 1, 5}, false, api.OK)
	waits(t, b, entry{1, 2, 9}, false, api.OK)
	waits(t, b, entry{2, 3, 6}, false, api.OK)
	expires(t, a, 7, 1)
	has(t, a, 0)
	has(t, b, 0, 2, 1)
	has(t, c, 2)
	rises(t, a, 1, 1)
	has(t, b, 0, 2, 1)
	releases(t, b, 2)
	expires(t, b, 6)
	has(t, b, 0, 1)
	waits(t, c, entry{1, 1, 1}, true, api.OK)
	has(t, a, 1)
	has(t, c, 1)
	drop(t, b, 1, api.OK)
	rises(t, b, 2, 2)
	risesNot(t, b)
	has(t, a, 1)
	has(t, c, 1)
}

// Any arguments, one call behind the other: no call panics, and each does what its record does.
func TestAnyArguments(t *testing.T) {
	numbers := slices.Concat(ids, noIDs, []int{63, 64, 65, last - 1, last, last + 1, last + 2, -last})
	for _, x := range [][2]int{{0, 255}, {255, 255}} {
		b := bothOf(t, x[0], x[1])
		for i, x := range numbers {
			for j, y := range numbers {
				for _, z := range numbers {
					b.wait(t, entry{x, y, z})
				}
				b.drop(t, numbers[(i+j)%len(numbers)])
				if (i+j)%5 == 0 {
					b.signal(t)
				}
			}
			b.same(t)
		}
		for _, now := range slices.Sorted(slices.Values(numbers)) {
			b.expire(t, now)
			b.expire(t, -now)
			for _, y := range numbers {
				for _, z := range numbers {
					b.wait(t, entry{now, y, z})
				}
			}
			b.same(t)
		}
		b.ends(t, 1)
	}
}

// The results depend on nothing but the calls: the same ones again have the same results.
func TestSameAgain(t *testing.T) {
	play := func() []int {
		s := source(11)
		m := semaOf(t, 2, 3)
		var seen []int
		for i := range 400 {
			m.Wait(s.under(20), s.under(3), s.of(-1, 0, i/4+1+s.under(9)))
			seen = append(seen, m.Count())
			seen = append(seen, m.List()...)
			if s.under(3) == 0 {
				id, _, e := m.Signal()
				seen = append(seen, id, int(e))
			}
			due, _ := m.Expire(i / 4)
			seen = append(seen, due...)
		}
		return seen
	}
	want := play()
	for range 5 {
		if got := play(); !slices.Equal(got, want) {
			t.Errorf("%v, not %v", got, want)
		}
	}
}
