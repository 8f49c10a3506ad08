package event_test

import (
	"math"
	"slices"
	"testing"

	"purlin/api"
	"purlin/event"
)

// The calls are as the chapter has them.
var (
	_ func(bool) *event.Event                             = event.New
	_ func(*event.Event, int, int, int) (bool, api.Errno) = (*event.Event).Wait
	_ func(*event.Event) []int                            = (*event.Event).Set
	_ func(*event.Event)                                  = (*event.Event).Reset
	_ func(*event.Event) bool                             = (*event.Event).Up
	_ func(*event.Event, int) api.Errno                   = (*event.Event).Drop
	_ func(*event.Event, int) ([]int, api.Errno)          = (*event.Event).Expire
	_ func(*event.Event) []int                            = (*event.Event).List
)

// last is the last tick that there is.
const last = api.MaxTick

var (
	ids     = []int{0, 1, 2, 255, 256, 32767, 32768, api.MaxID - 1, api.MaxID}
	noIDs   = []int{-1, -2, -256, -65536, math.MinInt32, -1 << 32, math.MinInt + 1, math.MinInt, api.MaxID + 1, api.MaxID + 2, 1<<17 + 1, math.MaxInt32, 1 << 32, 1<<32 + 1, math.MaxInt - 1, math.MaxInt}
	prios   = []int{0, 1, 2, 31, 32, api.MaxPrio - 1, api.MaxPrio}
	noPrios = []int{-1, -2, -63, -64, -256, math.MinInt32, -1 << 32, math.MinInt, api.MaxPrio + 1, api.MaxPrio + 2, 127, 128, 255, 256, 257, 65536, math.MaxInt32, 1<<32 + 1, math.MaxInt}
	// nows are ticks that an event has been told last.
	nows = []int{0, 1, 2, 9, 10, 65535, 65536, math.MaxInt32, 1 << 31, 1 << 32, 1<<32 + 1, last - 2, last - 1}
)

// untils is deadlines that a waiter may have at a tick ahead of the last one, or none.
func untils(now int) []int {
	return []int{-1, now + 1, (now + last + 1) / 2, max(now+1, last-1), last}
}

// noUntils is deadlines that a waiter may not have at a tick; 0, which is no deadline at all, is not among them.
func noUntils(now int) []int {
	l := []int{
		now, max(now-1, 0), (now + 1) / 2, now / 3, min(now, 1),
		-2, -3, -now - 2, -65536, -last, math.MinInt32, -1 << 32, math.MinInt + 1, math.MinInt,
		last + 1, last + 2, last + now + 1, 2 * last, 2*last + 1, math.MaxInt - 1, math.MaxInt,
	}
	return slices.DeleteFunc(l, func(until int) bool { return until == 0 })
}

// anyUntils is deadlines of each kind: right ones, wrong ones, none, and 0.
func anyUntils(now int) []int { return slices.Concat(untils(now), noUntils(now), []int{0}) }

// entry is one who is to go on, or to wait.
type entry struct{ id, prio, until int }

// waits checks what a wait returns.
func waits(t *testing.T, v *event.Event, x entry, want bool, err api.Errno) {
	t.Helper()
	if ok, e := v.Wait(x.id, x.prio, x.until); ok != want || e != err {
		t.Errorf("Wait(%d, %d, %d) = %t, %d, not %t, %d", x.id, x.prio, x.until, ok, int(e), want, int(err))
	}
}

// eventOf is a new event.
func eventOf(t *testing.T, up bool) *event.Event {
	t.Helper()
	v := event.New(up)
	if v == nil {
		t.Fatalf("New(%t) is nil", up)
	}
	return v
}

// down is a new event that is down, at which some wait.
func down(t *testing.T, l ...entry) *event.Event {
	t.Helper()
	v := eventOf(t, false)
	for _, x := range l {
		waits(t, v, x, false, api.OK)
	}
	return v
}

// has checks whether an event is up, and all who wait in order, also when it is asked again.
func has(t *testing.T, v *event.Event, up bool, want ...int) {
	t.Helper()
	for range 2 {
		if got := v.Up(); got != up {
			t.Errorf("Up() = %t", got)
		}
		if got := v.List(); !slices.Equal(got, want) {
			t.Errorf("List() = %v, not %v", got, want)
		}
	}
}

// sets checks who is released by a set, and that the event is up then and nobody waits.
func sets(t *testing.T, v *event.Event, want ...int) {
	t.Helper()
	if got := v.Set(); !slices.Equal(got, want) {
		t.Errorf("Set() = %v, not %v", got, want)
	}
	has(t, v, true)
}

// resets checks that an event is down behind a reset, and that those wait who waited.
func resets(t *testing.T, v *event.Event, want ...int) {
	t.Helper()
	v.Reset()
	has(t, v, false, want...)
}

// drop checks what a drop returns.
func drop(t *testing.T, v *event.Event, id int, want api.Errno) {
	t.Helper()
	if e := v.Drop(id); e != want {
		t.Errorf("Drop(%d) = %d, not %d", id, int(e), int(want))
	}
}

// expires checks who is removed at a tick.
func expires(t *testing.T, v *event.Event, now int, want ...int) {
	t.Helper()
	if got, e := v.Expire(now); !slices.Equal(got, want) || e != api.OK {
		t.Errorf("Expire(%d) = %v, %d, not %v", now, got, int(e), want)
	}
}

// expiresNot checks that a tick is refused.
func expiresNot(t *testing.T, v *event.Event, now int) {
	t.Helper()
	if got, e := v.Expire(now); len(got) != 0 || e != api.ErrLineTime {
		t.Errorf("Expire(%d) = %v, %d", now, got, int(e))
	}
}

// record is an event as the chapters describe it: whether it is up, who waits, as they arrived, and the current tick.
type record struct {
	up  bool
	all []entry
	now int
}

func (r *record) here(id int) bool {
	return slices.ContainsFunc(r.all, func(x entry) bool { return x.id == id })
}

func (r *record) wait(x entry) (bool, api.Errno) {
	switch {
	case x.id < 0 || x.id > 65535:
		return false, 140
	case x.prio < 0 || x.prio > 63:
		return false, 143
	case r.here(x.id):
		return false, 141
	case r.up:
		return true, 0
	case x.until == 0:
		return false, 0
	case x.until != -1 && (x.until <= r.now || x.until > 1<<40):
		return false, 144
	}
	r.all = append(r.all, x)
	return false, 0
}

// list is who waits: priority by priority, and as they arrived.
func (r *record) list() []int {
	var l []int
	for prio := 63; prio >= 0; prio-- {
		for _, x := range r.all {
			if x.prio == prio {
				l = append(l, x.id)
			}
		}
	}
	return l
}

// remove removes some, if they are there.
func (r *record) remove(ids ...int) {
	r.all = slices.DeleteFunc(r.all, func(x entry) bool { return slices.Contains(ids, x.id) })
}

func (r *record) set() []int {
	l := r.list()
	r.up, r.all = true, nil
	return l
}

func (r *record) drop(id int) api.Errno {
	if !r.here(id) {
		return 142
	}
	r.remove(id)
	return 0
}

// deadlines is the ticks at which somebody is to be removed, rising.
func (r *record) deadlines() []int {
	var l []int
	for _, x := range r.all {
		if x.until != -1 {
			l = append(l, x.until)
		}
	}
	slices.Sort(l)
	return slices.Compact(l)
}

func (r *record) expire(now int) ([]int, api.Errno) {
	if now < r.now || now > 1<<40 {
		return nil, 144
	}
	r.now = now
	order, until := r.list(), map[int]int{}
	for _, x := range r.all {
		until[x.id] = x.until
	}
	var l []int
	for _, tick := range r.deadlines() {
		for _, id := range order {
			if tick <= now && until[id] == tick {
				l = append(l, id)
			}
		}
	}
	r.remove(l...)
	return l, 0
}

// both is an event and its record, of which each call is made.
type both struct {
	*event.Event
	record record
}

// bothOf is a new event, for which some wait, or which lets them go on.
func bothOf(t *testing.T, up bool, l ...entry) *both {
	t.Helper()
	b := &both{eventOf(t, up), record{up: up}}
	for _, x := range l {
		b.wait(t, x)
	}
	return b
}

// same checks that an event has what its record has.
func (b *both) same(t *testing.T) {
	t.Helper()
	has(t, b.Event, b.record.up, b.record.list()...)
}

func (b *both) wait(t *testing.T, x entry) {
	t.Helper()
	ok, e := b.record.wait(x)
	waits(t, b.Event, x, ok, e)
}

func (b *both) set(t *testing.T) {
	t.Helper()
	sets(t, b.Event, b.record.set()...)
}

func (b *both) reset(t *testing.T) {
	t.Helper()
	b.record.up = false
	resets(t, b.Event, b.record.list()...)
}

func (b *both) drop(t *testing.T, id int) {
	t.Helper()
	drop(t, b.Event, id, b.record.drop(id))
}

func (b *both) expire(t *testing.T, now int) {
	t.Helper()
	l, e := b.record.expire(now)
	if e != api.OK {
		expiresNot(t, b.Event, now)
		return
	}
	expires(t, b.Event, now, l...)
}

// ways is how those who wait leave: each shows something else of them.
var ways = []func(b *both, t *testing.T){
	func(b *both, t *testing.T) {},
	func(b *both, t *testing.T) {
		for _, x := range slices.Clone(b.record.all) {
			b.drop(t, x.id)
			b.same(t)
		}
	},
	func(b *both, t *testing.T) {
		for _, tick := range b.record.deadlines() {
			b.expire(t, tick-1)
			b.same(t)
			b.expire(t, tick)
			b.same(t)
		}
	},
	func(b *both, t *testing.T) {
		b.expire(t, last)
		b.same(t)
	},
}

// ends lets those who wait leave in one of the ways, sets the event for whoever is left then, and resets and sets it once more. The current tick is the last one then.
func (b *both) ends(t *testing.T, way int) {
	t.Helper()
	b.same(t)
	ways[way](b, t)
	b.set(t)
	b.wait(t, entry{1, 1, 0})
	b.expire(t, b.record.now-1)
	b.reset(t)
	b.wait(t, entry{1, 1, 0})
	b.wait(t, entry{2, 1, b.record.now + 1})
	b.wait(t, entry{3, 2, -1})
	b.same(t)
	b.expire(t, last)
	b.set(t)
	b.set(t)
}

// The chapter's example.
func TestExample(t *testing.T) {
	v := eventOf(t, false)
	waits(t, v, entry{1, 5, -1}, false, 0)
	waits(t, v, entry{2, 9, -1}, false, 0)
	if got := v.Set(); !slices.Equal(got, []int{2, 1}) {
		t.Errorf("Set() = %v", got)
	}
	waits(t, v, entry{3, 1, 0}, true, 0)
	v.Reset()
	waits(t, v, entry{3, 1, 0}, false, 0)
	if got := v.List(); len(got) != 0 {
		t.Errorf("%v wait", got)
	}
}

// P16.1

// A new event is up or down, and nobody waits: nobody can be dropped or expires, and its tick is 0.
func TestNew(t *testing.T) {
	for _, up := range []bool{false, true} {
		v := eventOf(t, up)
		has(t, v, up)
		for _, id := range slices.Concat(ids, noIDs) {
			drop(t, v, id, api.ErrLineNone)
		}
		expiresNot(t, v, -1)
		expires(t, v, 0)
		expiresNot(t, v, -1)
		for _, now := range nows {
			expires(t, v, now)
		}
		expires(t, v, last)
		expiresNot(t, v, last-1)
		expiresNot(t, v, last+1)
		has(t, v, up)
		sets(t, v)
	}
}

// Up is what was said last: by New, Set or Reset, and by nothing else.
func TestUp(t *testing.T) {
	for _, up := range []bool{false, true} {
		v := eventOf(t, up)
		for range 3 {
			has(t, v, up)
			v.Wait(1, 5, -1)
			v.Wait(2, 5, 0)
			v.Wait(3, 5, -2)
			v.Wait(-1, 5, 9)
			v.List()
			v.Drop(1)
			v.Drop(2)
			v.Expire(4)
			v.Expire(-4)
			has(t, v, up)
		}
	}
	v := eventOf(t, true)
	for range 3 {
		resets(t, v)
		resets(t, v)
		sets(t, v)
		sets(t, v)
	}
}

// List is in the order of the line: the greatest priority first, and those of one priority as they arrived.
func TestList(t *testing.T) {
	for _, x := range []struct {
		come []entry
		want []int
	}{
		{[]entry{{0, 0, 1}}, []int{0}},
		{[]entry{{1, 1, -1}, {2, 2, -1}, {3, 3, -1}}, []int{3, 2, 1}},
		{[]entry{{1, 3, -1}, {2, 2, -1}, {3, 1, -1}}, []int{1, 2, 3}},
		{[]entry{{3, 7, -1}, {1, 7, -1}, {2, 7, -1}}, []int{3, 1, 2}},
		{[]entry{{3, 7, 30}, {1, 7, 10}, {2, 7, 20}, {0, 7, -1}}, []int{3, 1, 2, 0}},
		{[]entry{{65535, 63, 1}, {0, 0, 1}, {65534, 0, -1}, {1, 63, last}}, []int{65535, 1, 0, 65534}},
		{[]entry{{4, 1, 5}, {9, 0, 5}, {8, 1, 5}, {7, 0, 5}, {6, 2, 5}}, []int{6, 4, 8, 9, 7}},
	} {
		v := down(t, x.come...)
		has(t, v, false, x.want...)
		sets(t, v, x.want...)
		sets(t, v)
	}
}

// Drop removes whoever is asked for, and nobody else.
func TestDrop(t *testing.T) {
	all := []entry{{10, 2, 5}, {11, 3, -1}, {12, 2, 5}, {13, 1, 4}, {14, 2, 6}, {0, 3, 6}, {65535, 0, -1}}
	for _, x := range all {
		for way := range ways {
			b := bothOf(t, false, all...)
			has(t, b.Event, false, 11, 0, 10, 12, 14, 13, 65535)
			b.drop(t, x.id)
			for range 2 {
				drop(t, b.Event, x.id, api.ErrLineNone)
			}
			b.ends(t, way)
		}
	}
}

// Drop of those who aren't there: who never were, who were before, who went on at once, who did not wait, and who can't be.
func TestDropNone(t *testing.T) {
	for way := range ways {
		b := bothOf(t, true, entry{8, 9, 9}, entry{9, 9, 0})
		b.reset(t)
		b.wait(t, entry{5, 9, -1})
		b.set(t)
		b.reset(t)
		for _, x := range []entry{{1, 5, 9}, {2, 5, 3}, {3, 5, -1}, {4, 5, 9}, {10, 9, 0}} {
			b.wait(t, x)
		}
		has(t, b.Event, false, 1, 2, 3, 4)
		b.drop(t, 1)
		b.expire(t, 3)
		waits(t, b.Event, entry{6, 64, -1}, false, api.ErrLinePrio)
		waits(t, b.Event, entry{7, 5, 3}, false, api.ErrLineTime)
		for _, id := range slices.Concat(noIDs, []int{0, 1, 2, 5, 6, 7, 8, 9, 10, 65535}) {
			drop(t, b.Event, id, api.ErrLineNone)
		}
		has(t, b.Event, false, 3, 4)
		b.ends(t, way)
	}
}

// Expire removes those whose deadline is reached: the earliest first, and those of one deadline in the order.
func TestExpire(t *testing.T) {
	all := []entry{{9, 0, 2}, {8, 63, 3}, {7, 1, 2}, {6, 1, 1}, {5, 62, 3}, {4, 0, 1}, {3, 1, 2}, {2, 9, -1}, {1, 9, last}}
	v := down(t, all...)
	expires(t, v, 3, 6, 4, 7, 3, 9, 8, 5)
	has(t, v, false, 2, 1)
	v = down(t, all...)
	expires(t, v, 0)
	expires(t, v, 1, 6, 4)
	expires(t, v, 1)
	expiresNot(t, v, 0)
	expires(t, v, 2, 7, 3, 9)
	has(t, v, false, 8, 5, 2, 1)
	expires(t, v, last-1, 8, 5)
	expires(t, v, last, 1)
	expires(t, v, last)
	has(t, v, false, 2)
	for _, now := range []int{-1, 0, last - 1, last + 1, 2 * last, math.MinInt, math.MaxInt} {
		expiresNot(t, v, now)
	}
	has(t, v, false, 2)
}

// An event that is up is told the tick as well: nobody expires then, and deadlines are later ones when it is down again.
func TestExpireWhileUp(t *testing.T) {
	for _, up := range []bool{false, true} {
		v := eventOf(t, up)
		sets(t, v)
		for _, now := range []int{0, 4, 4, 7} {
			expires(t, v, now)
			expiresNot(t, v, now-1)
			expiresNot(t, v, last+1)
			has(t, v, true)
		}
		resets(t, v)
		expiresNot(t, v, 6)
		waits(t, v, entry{1, 1, 7}, false, api.ErrLineTime)
		waits(t, v, entry{1, 1, 8}, false, api.OK)
		expires(t, v, 8, 1)
		sets(t, v)
	}
}

// P16.2

// Each number and priority waits up to its deadline if the event is down: from the next tick on to the last one, or for good.
func TestWait(t *testing.T) {
	for _, now := range nows {
		for _, id := range ids {
			for _, prio := range prios {
				for _, until := range untils(now) {
					v := eventOf(t, false)
					expires(t, v, now)
					waits(t, v, entry{id, prio, until}, false, api.OK)
					has(t, v, false, id)
					expires(t, v, max(now, until-1))
					has(t, v, false, id)
					if until == -1 {
						expires(t, v, last)
						sets(t, v, id)
					} else {
						expires(t, v, until, id)
						has(t, v, false)
						sets(t, v)
					}
				}
			}
		}
	}
}

// If the event is up, each one goes on at once, as often as it comes and whatever its deadline; it waits nowhere, and its deadline is never reached.
func TestWaitWhileUp(t *testing.T) {
	for _, now := range append(slices.Clone(nows), last) {
		for _, fresh := range []bool{true, false} {
			for _, id := range ids {
				v := eventOf(t, fresh)
				if !fresh {
					sets(t, v)
				}
				expires(t, v, now)
				for _, until := range anyUntils(now) {
					for _, prio := range prios {
						waits(t, v, entry{id, prio, until}, true, api.OK)
					}
					has(t, v, true)
					drop(t, v, id, api.ErrLineNone)
				}
				resets(t, v)
				expires(t, v, last)
				sets(t, v)
			}
		}
	}
}

// 0 waits for nobody: the line doesn't change, and the event stays down, at any tick.
func TestWaitNotAtAll(t *testing.T) {
	for _, now := range append(slices.Clone(nows), last) {
		for _, l := range [][]entry{nil, {{77, 5, -1}}, {{77, 5, last}, {78, 0, -1}, {79, 63, -1}}} {
			b := bothOf(t, false)
			b.expire(t, now)
			for _, x := range l {
				b.wait(t, x)
			}
			for _, id := range ids {
				for _, prio := range prios {
					waits(t, b.Event, entry{id, prio, 0}, false, api.OK)
				}
				drop(t, b.Event, id, api.ErrLineNone)
			}
			b.ends(t, 0)
		}
	}
}

// Whoever did not wait at first may do so behind that, and comes behind those who came meanwhile.
func TestWaitNotAndThenWait(t *testing.T) {
	v := down(t, entry{1, 5, -1})
	waits(t, v, entry{2, 5, 0}, false, api.OK)
	waits(t, v, entry{3, 5, 9}, false, api.OK)
	waits(t, v, entry{2, 5, 0}, false, api.OK)
	waits(t, v, entry{2, 5, 9}, false, api.OK)
	waits(t, v, entry{4, 5, 9}, false, api.OK)
	has(t, v, false, 1, 3, 2, 4)
	waits(t, v, entry{2, 5, 0}, false, api.ErrLineHere)
	expires(t, v, 9, 3, 2, 4)
	sets(t, v, 1)
}

// While the event is down a deadline must be later than the current tick, and not behind the last one.
func TestWrongDeadlines(t *testing.T) {
	for _, now := range append(slices.Clone(nows), last) {
		for way := range ways {
			b := bothOf(t, false, entry{3, 3, -1})
			b.expire(t, now)
			for _, until := range noUntils(now) {
				waits(t, b.Event, entry{4, 3, until}, false, api.ErrLineTime)
				waits(t, b.Event, entry{5, 63, until}, false, api.ErrLineTime)
				drop(t, b.Event, 4, api.ErrLineNone)
			}
			has(t, b.Event, false, 3)
			if now < last {
				b.wait(t, entry{4, 9, now + 1})
				b.wait(t, entry{5, 3, last})
			}
			b.ends(t, way)
		}
	}
}

// Only Expire changes the current tick: nobody does who waits or not, goes on or is dropped, or is refused, and neither Set nor Reset does.
func TestCurrentTick(t *testing.T) {
	v := eventOf(t, true)
	for _, now := range nows {
		expires(t, v, now)
		waits(t, v, entry{1, 1, last}, true, api.OK)
		resets(t, v)
		waits(t, v, entry{1, 1, 0}, false, api.OK)
		waits(t, v, entry{2, 1, -1}, false, api.OK)
		waits(t, v, entry{3, 1, last}, false, api.OK)
		waits(t, v, entry{4, 1, last + 1}, false, api.ErrLineTime)
		drop(t, v, 3, api.OK)
		sets(t, v, 2)
		resets(t, v)
		// As at first: the current tick is no deadline, the next one is.
		expiresNot(t, v, now-1)
		expiresNot(t, v, last+1)
		if now > 0 {
			waits(t, v, entry{4, 1, now}, false, api.ErrLineTime)
		}
		waits(t, v, entry{4, 1, now + 1}, false, api.OK)
		expires(t, v, now)
		sets(t, v, 4)
	}
}

// Numbers and priorities that there are not, whether the event is up or down, and whatever the deadline.
func TestWaitRefused(t *testing.T) {
	for _, now := range []int{0, 5, last} {
		for _, up := range []bool{false, true} {
			b := bothOf(t, up)
			b.expire(t, now)
			for _, until := range anyUntils(now) {
				for _, id := range noIDs {
					for _, prio := range []int{0, 3, 63} {
						waits(t, b.Event, entry{id, prio, until}, false, api.ErrLineID)
					}
				}
				for _, prio := range noPrios {
					for _, id := range []int{0, 3, 65535} {
						waits(t, b.Event, entry{id, prio, until}, false, api.ErrLinePrio)
					}
				}
			}
			b.ends(t, 0)
		}
	}
}

// Where several errors apply, the number's comes first, and then the priority's, that of one who waits already, and the deadline's.
func TestWhichErrorFirst(t *testing.T) {
	for _, now := range []int{0, 5, last} {
		v := down(t, entry{1, 1, -1}, entry{65535, 63, -1})
		expires(t, v, now)
		for _, id := range slices.Concat(noIDs, []int{0, 1, 2, 65535}) {
			for _, prio := range slices.Concat(noPrios, prios) {
				for _, until := range anyUntils(now) {
					want := api.OK
					if slices.Contains(noUntils(now), until) {
						want = api.ErrLineTime
					}
					if id == 1 || id == 65535 {
						want = api.ErrLineHere
					}
					if slices.Contains(noPrios, prio) {
						want = api.ErrLinePrio
					}
					if slices.Contains(noIDs, id) {
						want = api.ErrLineID
					}
					if want != api.OK || until == 0 {
						waits(t, v, entry{id, prio, until}, false, want)
					}
				}
			}
		}
		has(t, v, false, 65535, 1)
	}
}

// While the event is up the number's error comes ahead of the priority's too, and a deadline has none.
func TestWhichErrorFirstWhileUp(t *testing.T) {
	for _, now := range []int{0, 5, last} {
		v := eventOf(t, true)
		expires(t, v, now)
		for _, until := range anyUntils(now) {
			for _, prio := range slices.Concat(noPrios, prios) {
				for _, id := range noIDs {
					waits(t, v, entry{id, prio, until}, false, api.ErrLineID)
				}
				for _, id := range ids {
					if slices.Contains(noPrios, prio) {
						waits(t, v, entry{id, prio, until}, false, api.ErrLinePrio)
					} else {
						waits(t, v, entry{id, prio, until}, true, api.OK)
					}
				}
			}
		}
		has(t, v, true)
	}
}

// One who waits already is refused, whatever its priority and its deadline were to be, and stays as it was at first.
func TestHere(t *testing.T) {
	for way := range ways {
		b := bothOf(t, false, entry{2, 4, 10}, entry{3, 4, -1}, entry{4, 4, 8}, entry{0, 4, 9})
		for _, now := range []int{0, 3, 7} {
			b.expire(t, now)
			for _, id := range []int{2, 3, 4, 0} {
				for _, prio := range prios {
					for _, until := range anyUntils(now) {
						waits(t, b.Event, entry{id, prio, until}, false, api.ErrLineHere)
					}
				}
			}
			has(t, b.Event, false, 2, 3, 4, 0)
		}
		b.ends(t, way)
	}
}

// Whoever waited before isn't in the line any more: it goes on while the event is up, and waits as the last one that came while it is down.
func TestAgain(t *testing.T) {
	gone := []func(v *event.Event){
		func(v *event.Event) { drop(t, v, 1, api.OK) },
		func(v *event.Event) { expires(t, v, 5, 1) },
		func(v *event.Event) {
			sets(t, v, 1, 2, 3)
			waits(t, v, entry{1, 3, 9}, true, api.OK)
			resets(t, v)
			waits(t, v, entry{2, 3, -1}, false, api.OK)
			waits(t, v, entry{3, 3, 9}, false, api.OK)
		},
	}
	for i, leave := range gone {
		for _, prio := range []int{2, 3, 4} {
			for _, until := range []int{-1, 6, 7, 30} {
				v := down(t, entry{1, 3, 5}, entry{2, 3, -1}, entry{3, 3, 9})
				leave(v)
				has(t, v, false, 2, 3)
				waits(t, v, entry{1, prio, 0}, false, api.OK)
				waits(t, v, entry{1, prio, until}, false, api.OK)
				waits(t, v, entry{1, prio, until}, false, api.ErrLineHere)
				want := map[int][]int{2: {2, 3, 1}, 3: {2, 3, 1}, 4: {1, 2, 3}}[prio]
				has(t, v, false, want...)
				expires(t, v, 5) // its first deadline is no more
				expires(t, v, 8, map[int][]int{6: {1}, 7: {1}}[until]...)
				if t.Failed() {
					t.Fatal(i, prio, until)
				}
			}
		}
	}
}

// Nobody waits: a set releases nobody, and the event is up, whether it was before or not.
func TestSetNobody(t *testing.T) {
	for _, up := range []bool{false, true} {
		for _, now := range append(slices.Clone(nows), last) {
			v := eventOf(t, up)
			expires(t, v, now)
			for range 3 {
				sets(t, v)
			}
			waits(t, v, entry{1, 1, -1}, true, api.OK)
			sets(t, v)
		}
	}
}

// One waits: it is released once.
func TestSetOne(t *testing.T) {
	for _, id := range ids {
		for _, prio := range prios {
			for _, until := range untils(0) {
				v := down(t, entry{id, prio, until})
				sets(t, v, id)
				drop(t, v, id, api.ErrLineNone)
				sets(t, v)
				resets(t, v)
				expires(t, v, last)
				sets(t, v)
			}
		}
	}
}

// Several wait, of one priority and of different ones: all are released at once, in the order.
func TestSetMany(t *testing.T) {
	for _, many := range []int{2, 3, 4, 5, 7, 8, 16, 17, 63, 64, 65, 255, 257} {
		for _, prios := range []int{1, 2, 5, 64} {
			b := bothOf(t, false)
			for i := range many {
				b.wait(t, entry{i * 331 % 65536, i * 27 % prios, []int{-1, 5, last}[i%3]})
			}
			if got := len(b.List()); got != many {
				t.Errorf("%d wait", got)
			}
			b.set(t)
			for i := range many {
				drop(t, b.Event, i*331%65536, api.ErrLineNone)
			}
			b.ends(t, 0)
			if t.Failed() {
				t.Fatal(many, prios)
			}
		}
	}
}

// Whoever comes with the greatest priority is released first, also if it came last, and others with less come behind those who wait already; a set leaves nothing of that for the next one.
func TestSetOrder(t *testing.T) {
	v := down(t, entry{5, 5, -1}, entry{6, 5, 30}, entry{7, 4, 20})
	waits(t, v, entry{8, 6, -1}, false, api.OK)
	waits(t, v, entry{9, 5, 10}, false, api.OK)
	sets(t, v, 8, 5, 6, 9, 7)
	resets(t, v)
	for _, x := range []entry{{7, 5, -1}, {8, 5, -1}, {5, 63, -1}, {0, 0, -1}, {9, 6, 3}, {6, 5, 1}} {
		waits(t, v, x, false, api.OK)
	}
	has(t, v, false, 5, 9, 7, 8, 6, 0)
	sets(t, v, 5, 9, 7, 8, 6, 0)
	resets(t, v)
	sets(t, v)
}

// Who was dropped or has expired is released by no set.
func TestSetBehindOthers(t *testing.T) {
	all := []entry{{1, 5, 3}, {2, 9, 4}, {3, 5, -1}, {4, 9, 3}, {5, 1, 4}}
	v := down(t, all...)
	drop(t, v, 2, api.OK)
	expires(t, v, 3, 4, 1)
	sets(t, v, 3, 5)
	v = down(t, all...)
	expires(t, v, last, 4, 1, 2, 5)
	sets(t, v, 3)
	v = down(t, all...)
	for _, x := range all {
		drop(t, v, x.id, api.OK)
	}
	sets(t, v)
	v = down(t, all...)
	expires(t, v, 2)
	sets(t, v, 2, 4, 1, 3, 5)
	expires(t, v, 3) // nobody: they went on ahead of that
	expires(t, v, last)
	sets(t, v)
}

// A set while the event is up changes nothing: it releases nobody, and one reset is enough.
func TestSetWhileUp(t *testing.T) {
	for more := range 5 {
		v := down(t, entry{1, 5, -1}, entry{2, 6, 9})
		if got := v.Set(); !slices.Equal(got, []int{2, 1}) {
			t.Errorf("Set() = %v", got)
		}
		for range more {
			if got := v.Set(); len(got) != 0 {
				t.Errorf("Set() = %v while it is up", got)
			}
			waits(t, v, entry{1, 5, -1}, true, api.OK)
			has(t, v, true)
		}
		resets(t, v)
		waits(t, v, entry{1, 5, 9}, false, api.OK)
		has(t, v, false, 1)
	}
}

// A reset while the event is up: who comes now waits again.
func TestResetWhileUp(t *testing.T) {
	for _, fresh := range []bool{true, false} {
		v := eventOf(t, fresh)
		if !fresh {
			waits(t, v, entry{7, 5, -1}, false, api.OK)
			sets(t, v, 7)
		}
		waits(t, v, entry{1, 1, 5}, true, api.OK)
		resets(t, v)
		waits(t, v, entry{1, 1, 0}, false, api.OK)
		waits(t, v, entry{1, 1, 5}, false, api.OK)
		waits(t, v, entry{7, 1, -1}, false, api.OK)
		has(t, v, false, 1, 7)
		expires(t, v, 5, 1)
		sets(t, v, 7)
		waits(t, v, entry{1, 1, 5}, true, api.OK)
	}
}

// A reset while the event is down changes nothing: those who wait go on waiting as they are, and one set is enough.
func TestResetWhileDown(t *testing.T) {
	for more := range 5 {
		for way := range ways {
			b := bothOf(t, false, entry{1, 5, 4}, entry{2, 6, 5}, entry{3, 5, -1}, entry{4, 5, 4})
			b.expire(t, 3)
			for range more {
				b.reset(t)
				has(t, b.Event, false, 2, 1, 3, 4)
			}
			b.expire(t, 2)
			b.wait(t, entry{5, 5, 3})
			b.wait(t, entry{5, 5, 4})
			b.ends(t, way)
		}
	}
}

// A call that is refused changes nothing: neither who waits, nor how, nor whether the event is up, nor the current tick.
func TestRefused(t *testing.T) {
	for _, l := range [][]entry{
		nil,
		{{1, 1, -1}},
		{{1, 1, 7}, {2, 1, 6}},
		{{2, 3, 9}, {1, 3, 9}, {3, 4, 6}, {4, 0, 9}, {0, 4, -1}, {65535, 3, last}},
	} {
		for _, now := range []int{0, 5} {
			for _, up := range []bool{false, true} {
				for way := range ways {
					b := bothOf(t, up, l...)
					b.expire(t, now)
					refused(t, b)
					b.ends(t, way)
					if t.Failed() {
						t.Fatal(l, now, up, way)
					}
				}
			}
		}
	}
}

// refused makes calls that are refused, of each kind.
func refused(t *testing.T, b *both) {
	now := b.record.now
	for _, id := range noIDs {
		waits(t, b.Event, entry{id, 2, -1}, false, api.ErrLineID)
		waits(t, b.Event, entry{id, 2, 0}, false, api.ErrLineID)
		drop(t, b.Event, id, api.ErrLineNone)
	}
	for _, prio := range noPrios {
		waits(t, b.Event, entry{9, prio, -1}, false, api.ErrLinePrio)
		waits(t, b.Event, entry{9, prio, now + 1}, false, api.ErrLinePrio)
	}
	if !b.record.up {
		for _, until := range noUntils(now) {
			waits(t, b.Event, entry{9, 2, until}, false, api.ErrLineTime)
		}
	}
	for _, x := range b.record.all {
		waits(t, b.Event, entry{x.id, 63 - x.prio, -1}, false, api.ErrLineHere)
		waits(t, b.Event, entry{x.id, x.prio, now + 1}, false, api.ErrLineHere)
	}
	drop(t, b.Event, 9, api.ErrLineNone)
	for _, tick := range []int{now - 1, -1, math.MinInt, last + 1, math.MaxInt} {
		expiresNot(t, b.Event, tick)
	}
	b.same(t)
}

// P16.3

// Each sequence of a few calls, among few waiters and ticks, from both beginnings.
func TestAllSequences(t *testing.T) {
	calls := []func(b *both){
		func(b *both) { b.wait(t, entry{0, 1, -1}) },
		func(b *both) { b.wait(t, entry{0, 2, 0}) },
		func(b *both) { b.wait(t, entry{1, 1, 1}) },
		func(b *both) { b.wait(t, entry{1, 2, -1}) },
		func(b *both) { b.wait(t, entry{2, 2, 2}) },
		func(b *both) { b.set(t) },
		func(b *both) { b.reset(t) },
		func(b *both) { b.drop(t, 0) },
		func(b *both) { b.expire(t, 1) },
		func(b *both) { b.expire(t, 2) },
	}
	const long = 5
	all := 1
	for range long {
		all *= len(calls)
	}
	for _, up := range []bool{false, true} {
		for number := range all {
			b := bothOf(t, up)
			for n, i := number, 0; i < long; n, i = n/len(calls), i+1 {
				calls[n%len(calls)](b)
			}
			b.ends(t, number%len(ways))
			if t.Failed() {
				t.Fatal(up, number)
			}
		}
	}
}

// source is a row of numbers that look drawn, and are the same each time.
type source uint32

// under is the next number, below n.
func (s *source) under(n int) int {
	*s = *s*1664525 + 1013904223
	return int(*s>>8) % n
}

// of is one of some numbers.
func (s *source) of(l ...int) int { return l[s.under(len(l))] }

// world is from what many sequences draw: how many waiters and priorities there are, how far ahead deadlines are, how fast ticks pass, and how many of a hundred calls are sets and resets.
type world struct{ waiters, prios, ahead, pace, sets, resets int }

func (s *source) world() world {
	return world{1 + s.under(s.of(2, 5, 20, 60)), s.of(1, 2, 3, 64), s.of(1, 2, 5, 30, 1<<20), s.of(1, 2, 3, 10), s.of(3, 10, 25), s.of(10, 25, 40)}
}

// one is one who wants to go on, or whom the event refuses now and then.
func (s *source) one(w world, now int) entry {
	x := entry{s.under(w.waiters), s.under(w.prios), now + 1 + s.under(w.ahead)}
	switch s.under(6) {
	case 0:
		x.until = -1
	case 1:
		x.until = 0
	}
	switch s.under(30) {
	case 0:
		x.id = s.of(append(noIDs, 65535)...)
	case 1:
		x.prio = s.of(append(noPrios, 63)...)
	case 2, 3:
		x.until = s.of(append(noUntils(now), last)...)
	}
	return x
}

// Many sequences of calls: an event does what its record does.
func TestManySequences(t *testing.T) {
	for seed := range 1500 {
		s := source(seed)
		w := s.world()
		b := bothOf(t, s.under(2) == 0)
		for range 20 + s.under(150) {
			now := b.record.now
			switch n := s.under(100); {
			case n < w.sets:
				b.set(t)
			case n < w.sets+w.resets:
				b.reset(t)
			case n < w.sets+w.resets+5:
				b.drop(t, s.of(s.under(w.waiters), s.under(w.waiters), s.one(w, 0).id))
			case n < w.sets+w.resets+13:
				b.expire(t, s.of(now, now+1, now+s.under(w.pace), now+s.under(w.ahead), now-1-s.under(3)))
			default:
				b.wait(t, s.one(w, now))
			}
			b.same(t)
		}
		if s.under(5) == 0 {
			b.expire(t, last-s.under(3))
			b.wait(t, s.one(w, b.record.now))
		}
		b.ends(t, s.under(len(ways)))
		if t.Failed() {
			t.Fatalf("sequence %d: %+v", seed, w)
		}
	}
}

// books is an event of which only that is kept what those learn who call it: who has begun to wait, until when, and was not dropped since, and the tick that was told last.
type books struct {
	*event.Event
	until map[int]int
	now   int
}

func (b *books) wait(x entry) {
	if ok, e := b.Wait(x.id, x.prio, x.until); !ok && e == api.OK && x.until != 0 {
		b.until[x.id] = x.until
	}
}

func (b *books) drop(id int) {
	if b.Drop(id) == api.OK {
		delete(b.until, id)
	}
}

func (b *books) expire(now int) {
	if _, e := b.Expire(now); e == api.OK {
		b.now = now
	}
}

// due is who is to be released next: those of the books whose deadline has not been reached.
func (b *books) due() []int {
	var l []int
	for id, until := range b.until {
		if until == -1 || until > b.now {
			l = append(l, id)
		}
	}
	slices.Sort(l)
	return l
}

// set checks that exactly those are released who are to be.
func (b *books) set(t *testing.T) {
	t.Helper()
	want, got := b.due(), b.Set()
	slices.Sort(got)
	if !slices.Equal(got, want) {
		t.Errorf("Set() has released %v, not %v", got, want)
	}
	clear(b.until)
}

// idle checks that nobody waits while the event is up.
func (b *books) idle(t *testing.T) {
	t.Helper()
	if l := b.List(); b.Up() && len(l) > 0 {
		t.Errorf("%v wait, and the event is up", l)
	}
}

// While the event is up nobody waits, and each set releases those who began to wait and were neither dropped nor reached their deadline, after each call of many sequences.
func TestReleased(t *testing.T) {
	for seed := range 2000 {
		s := source(seed + 1<<20)
		w := s.world()
		b := &books{Event: eventOf(t, s.under(2) == 0), until: map[int]int{}}
		b.idle(t)
		for range 200 {
			switch n := s.under(100); {
			case n < w.sets:
				b.set(t)
			case n < w.sets+w.resets:
				b.Reset()
			case n < w.sets+w.resets+7:
				b.drop(s.under(w.waiters))
			case n < w.sets+w.resets+15:
				b.expire(b.now + s.under(w.pace+1) - s.under(2))
			default:
				b.wait(s.one(w, b.now))
			}
			b.idle(t)
		}
		b.set(t)
		b.idle(t)
		b.set(t)
		if t.Failed() {
			t.Fatalf("sequence %d: %+v", seed, w)
		}
	}
}

// P1, and the document's rules

// All numbers there are wait at once, and are released at once.
func TestAllWaiters(t *testing.T) {
	const all = api.MaxID + 1
	v := eventOf(t, false)
	for range 2 {
		var want []int
		for i := range all {
			id := i * 40503 % all
			waits(t, v, entry{id, i / 256 % 2, []int{-1, 9}[i%2]}, false, api.OK)
			if i/256%2 == 1 {
				want = append(want, id)
			}
		}
		for i := range all {
			if i/256%2 == 0 {
				want = append(want, i*40503%all)
			}
		}
		if got := v.List(); !slices.Equal(got, want) {
			t.Errorf("%d wait, or not in the order", len(got))
		}
		waits(t, v, entry{0, 1, 0}, false, api.ErrLineHere)
		waits(t, v, entry{65535, 0, -1}, false, api.ErrLineHere)
		for _, id := range want[:1000] {
			drop(t, v, id, api.OK)
		}
		if got := v.Set(); !slices.Equal(got, want[1000:]) {
			t.Errorf("%d are released, or not in the order", len(got))
		}
		has(t, v, true)
		waits(t, v, entry{want[1000], 1, 0}, true, api.OK)
		resets(t, v)
	}
	expires(t, v, 9)
}

// The same few come again and again, more often than there are numbers: none is forgotten or overtaken.
func TestAgainAndAgain(t *testing.T) {
	v := eventOf(t, false)
	for i := range 40000 {
		first, second := i%3, (i+1)%3
		for _, x := range []entry{{first, 5, -1}, {second, 5, 9}, {7, 6, -1}} {
			waits(t, v, entry{x.id, x.prio, 0}, false, api.OK)
			waits(t, v, x, false, api.OK)
		}
		sets(t, v, 7, first, second)
		waits(t, v, entry{first, 5, -1}, true, api.OK)
		resets(t, v)
		if t.Failed() {
			t.Fatal(i)
		}
	}
}

// What an event returns is the caller's: it isn't changed by the event later on, and the event isn't changed by it.
func TestResultsAreNew(t *testing.T) {
	v := down(t, entry{1, 5, 3}, entry{2, 6, -1}, entry{3, 5, 3}, entry{4, 4, 9}, entry{5, 5, -1})
	one, two := v.List(), v.List()
	for i := range one {
		one[i] = 77
	}
	_ = append(one[:2], 66, 66)
	_ = append(two, 55)
	has(t, v, false, 2, 1, 3, 5, 4)
	due, _ := v.Expire(3)
	released := v.Set()
	if !slices.Equal(due, []int{1, 3}) || !slices.Equal(released, []int{2, 5, 4}) {
		t.Fatalf("Expire(3) = %v, Set() = %v", due, released)
	}
	resets(t, v)
	come := []entry{{7, 5, 4}, {8, 9, 4}, {9, 9, 5}, {10, 5, -1}}
	for _, x := range come {
		waits(t, v, x, false, api.OK)
	}
	expires(t, v, 4, 8, 7)
	if !slices.Equal(due, []int{1, 3}) || !slices.Equal(released, []int{2, 5, 4}) || !slices.Equal(two, []int{2, 1, 3, 5, 4}) {
		t.Errorf("results have become %v, %v, %v", due, released, two)
	}
	for _, l := range [][]int{due, released} {
		for i := range l {
			l[i] = 88
		}
		_ = append(l[:1], 44, 44, 44)
		_ = append(l, 33, 33, 33)
	}
	has(t, v, false, 9, 10)
	expires(t, v, 5, 9)
	sets(t, v, 10)
}

// The list of a set is the caller's also if it is changed at once, or while the event is up, and two sets' lists are apart.
func TestSetIsNew(t *testing.T) {
	v := down(t, entry{1, 5, -1}, entry{2, 5, -1}, entry{3, 5, -1})
	first := v.Set()
	_ = append(first[:0], 9, 9)
	has(t, v, true)
	sets(t, v)
	resets(t, v)
	for _, x := range []entry{{4, 5, -1}, {5, 5, -1}, {6, 5, -1}} {
		waits(t, v, x, false, api.OK)
	}
	if !slices.Equal(first, []int{9, 9, 3}) {
		t.Errorf("the first list has become %v", first)
	}
	first[0], first[2] = 1, 1
	has(t, v, false, 4, 5, 6)
	second := v.Set()
	second[1] = 1
	if !slices.Equal(first, []int{1, 9, 1}) || !slices.Equal(second, []int{4, 1, 6}) {
		t.Errorf("the lists have become %v, %v", first, second)
	}
	sets(t, v)
}

// Events are apart from each other: each has a flag, a line and a tick of its own.
func TestApart(t *testing.T) {
	a, b, c := eventOf(t, false), eventOf(t, false), eventOf(t, true)
	waits(t, a, entry{1, 1, 5}, false, api.OK)
	waits(t, b, entry{1, 2, 9}, false, api.OK)
	waits(t, b, entry{2, 3, 6}, false, api.OK)
	waits(t, c, entry{1, 1, 1}, true, api.OK)
	expires(t, a, 7, 1)
	has(t, a, false)
	has(t, b, false, 2, 1)
	has(t, c, true)
	sets(t, a)
	has(t, b, false, 2, 1)
	resets(t, c)
	has(t, a, true)
	drop(t, a, 1, api.ErrLineNone)
	drop(t, c, 2, api.ErrLineNone)
	expires(t, b, 6, 2)
	waits(t, c, entry{1, 1, 1}, false, api.OK)
	waits(t, a, entry{2, 1, 7}, true, api.OK)
	sets(t, b, 1)
	has(t, c, false, 1)
	resets(t, a)
	waits(t, a, entry{2, 1, 7}, false, api.ErrLineTime)
	waits(t, a, entry{2, 1, 8}, false, api.OK)
	has(t, b, true)
	sets(t, c, 1)
	has(t, a, false, 2)
}

// Any arguments, one call behind the other: no call panics, and each does what its record does.
func TestAnyArguments(t *testing.T) {
	numbers := slices.Concat(ids, noIDs, []int{63, 64, 65, last - 1, last, last + 1, last + 2, -last})
	for _, up := range []bool{false, true} {
		b := bothOf(t, up)
		for i, x := range numbers {
			for j, y := range numbers {
				for _, z := range numbers {
					b.wait(t, entry{x, y, z})
				}
				b.drop(t, numbers[(i+j)%len(numbers)])
				switch (i + j) % 10 {
				case 4:
					b.set(t)
				case 5, 9:
					b.reset(t)
				}
			}
			b.same(t)
		}
		for _, now := range slices.Sorted(slices.Values(numbers)) {
			b.expire(t, now)
			b.expire(t, -now)
			for _, y := range numbers {
				for _, z := range numbers {
					b.wait(t, entry{now, y, z})
				}
			}
			b.same(t)
		}
		b.ends(t, 1)
	}
}

// The results depend on nothing but the calls: the same ones again have the same results.
func TestSameAgain(t *testing.T) {
	play := func() []int {
		s := source(11)
		v := eventOf(t, false)
		var seen []int
		for i := range 400 {
			v.Wait(s.under(20), s.under(3), s.of(-1, 0, i/4+1+s.under(9)))
			seen = append(seen, v.List()...)
			switch s.under(10) {
			case 0:
				seen = append(append(seen, -1), v.Set()...)
			case 1, 2:
				v.Reset()
			}
			due, _ := v.Expire(i / 4)
			seen = append(append(seen, -2), due...)
		}
		return seen
	}
	want := play()
	for range 5 {
		if got := play(); !slices.Equal(got, want) {
			t.Errorf("%v, not %v", got, want)
		}
	}
}
