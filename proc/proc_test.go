package proc_test

import (
	"math"
	"slices"
	"strconv"
	"testing"

	"purlin/api"
	"purlin/proc"
)

// The calls are as the chapter has them.
var (
	_ func([]uint8) (*proc.Table, api.Errno)        = proc.New
	_ func(*proc.Table, int) api.Errno              = (*proc.Table).Start
	_ func(*proc.Table, int) api.Errno              = (*proc.Table).Stop
	_ func(*proc.Table, int) api.Errno              = (*proc.Table).Block
	_ func(*proc.Table, int) api.Errno              = (*proc.Table).Wake
	_ func(*proc.Table, int) api.Errno              = (*proc.Table).Suspend
	_ func(*proc.Table, int) api.Errno              = (*proc.Table).Resume
	_ func(*proc.Table, int, int) api.Errno         = (*proc.Table).Raise
	_ func(*proc.Table, int) api.Errno              = (*proc.Table).Yield
	_ func(*proc.Table) []int                       = (*proc.Table).Order
	_ func(*proc.Table) (int, bool)                 = (*proc.Table).Running
	_ func(*proc.Table, int) (api.State, bool, int) = (*proc.Table).State
	_ func(*proc.Table)                             = (*proc.Table).Reset
	_ func(*proc.Table) int                         = (*proc.Table).Len
)

// most is how many processes a table has at most.
const most = api.MaxProcs

var (
	// prios is priorities that there are, and noPrios such that there aren't.
	prios   = []int{0, 1, 2, 31, 32, api.MaxPrio - 1, api.MaxPrio}
	noPrios = []int{
		-1, -2, -63, -64, -192, -255, -256, math.MinInt32, -1 << 32, math.MinInt + 1, math.MinInt,
		api.MaxPrio + 1, api.MaxPrio + 2, 127, 128, 255, 256, 257, 319, 65536, math.MaxInt32, 1 << 32, 1<<32 + 1, math.MaxInt - 1, math.MaxInt,
	}
)

// noProcs is numbers that none of n processes has.
func noProcs(n int) []int {
	return []int{
		-1, -2, -n, -n - 1, -most, -256, -256 + n - 1, math.MinInt32, -1 << 32, math.MinInt + 1, math.MinInt,
		n, n + 1, 2 * n, most, most + 1, most + n, 64, 256, 256 + n - 1, 65536, math.MaxInt32, 1 << 32, 1<<32 + n - 1, math.MaxInt - 1, math.MaxInt,
	}
}

// call is a call for a process; prio is for Raise alone.
type call struct {
	name    string
	i, prio int
}

// The names of the calls that take a process.
const (
	starts   = "Start"
	stops    = "Stop"
	blocks   = "Block"
	wakes    = "Wake"
	suspends = "Suspend"
	resumes  = "Resume"
	raises   = "Raise"
	yields   = "Yield"
)

var names = []string{starts, stops, blocks, wakes, suspends, resumes, raises, yields}

func (c call) String() string {
	s := c.name + "(" + strconv.Itoa(c.i)
	if c.name == raises {
		s += ", " + strconv.Itoa(c.prio)
	}
	return s + ")"
}

// of makes the call.
func (c call) of(p *proc.Table) api.Errno {
	switch c.name {
	case starts:
		return p.Start(c.i)
	case stops:
		return p.Stop(c.i)
	case blocks:
		return p.Block(c.i)
	case wakes:
		return p.Wake(c.i)
	case suspends:
		return p.Suspend(c.i)
	case resumes:
		return p.Resume(c.i)
	case raises:
		return p.Raise(c.i, c.prio)
	case yields:
		return p.Yield(c.i)
	}
	panic("no call: " + c.name)
}

// calls is each call for a process, with some priorities.
func calls(i int, prios ...int) []call {
	var l []call
	for _, name := range names {
		if name != raises {
			l = append(l, call{name, i, 0})
		}
	}
	for _, prio := range prios {
		l = append(l, call{raises, i, prio})
	}
	return l
}

// view is what State tells of a process.
type view struct {
	state api.State
	held  bool
	prio  int
}

func viewOf(p *proc.Table, i int) view {
	state, held, prio := p.State(i)
	return view{state, held, prio}
}

// tableOf is a new table.
func tableOf(t *testing.T, prios ...uint8) *proc.Table {
	t.Helper()
	p, e := proc.New(prios)
	if p == nil || e != api.OK {
		t.Fatalf("New(%v) = %v, %d", prios, p, int(e))
	}
	return p
}

// does makes calls, all of which are to be made.
func does(t *testing.T, p *proc.Table, l ...call) {
	t.Helper()
	for _, c := range l {
		returns(t, p, c, api.OK)
	}
}

// returns checks what a call returns.
func returns(t *testing.T, p *proc.Table, c call, want api.Errno) {
	t.Helper()
	if e := c.of(p); e != want {
		t.Errorf("%v = %d, not %d", c, int(e), int(want))
	}
}

// is checks what State tells of a process.
func is(t *testing.T, p *proc.Table, i int, want view) {
	t.Helper()
	if got := viewOf(p, i); got != want {
		t.Errorf("State(%d) = %v, not %v", i, got, want)
	}
}

// order checks which processes are runnable, and who runs, also when that is asked again.
func order(t *testing.T, p *proc.Table, want ...int) {
	t.Helper()
	for range 2 {
		if got := p.Order(); !slices.Equal(got, want) {
			t.Errorf("Order() = %v, not %v", got, want)
		}
		first := 0
		if len(want) > 0 {
			first = want[0]
		}
		if i, ok := p.Running(); i != first || ok != (len(want) > 0) {
			t.Errorf("Running() = %d, %t; %v are runnable", i, ok, want)
		}
	}
}

// has checks how many processes there are, and what each one is.
func has(t *testing.T, p *proc.Table, want ...view) {
	t.Helper()
	if n := p.Len(); n != len(want) {
		t.Errorf("Len() = %d, not %d", n, len(want))
	}
	for i, v := range want {
		is(t, p, i, v)
	}
	for _, i := range noProcs(len(want)) {
		is(t, p, i, view{})
	}
}

// record is a table as the chapter describes it.
type record struct {
	first []int  // the initial priorities
	all   []view // the processes
	back  []int  // all processes, as they went to the back: the last one is at the end
}

func recordOf(prios ...uint8) record {
	var r record
	for i, prio := range prios {
		r.first = append(r.first, int(prio))
		r.back = append(r.back, i)
	}
	r.all = make([]view, len(prios))
	r.reset()
	return r
}

func (r *record) reset() {
	for i := range r.all {
		r.dormant(i)
	}
}

func (r *record) dormant(i int) { r.all[i] = view{0, false, r.first[i]} }

func (r *record) toBack(i int) {
	at := slices.Index(r.back, i)
	r.back = append(slices.Delete(r.back, at, at+1), i)
}

// may is whether a process is in the state that a call requires.
func (r *record) may(name string, v view) bool {
	switch name {
	case starts:
		return v.state == 0
	case stops, raises:
		return v.state != 0
	case blocks, yields:
		return v.state == 1 && !v.held
	case wakes:
		return v.state == 2
	case suspends:
		return v.state != 0 && !v.held
	}
	return v.held
}

// call makes a call of the record.
func (r *record) call(c call) api.Errno {
	switch {
	case c.i < 0 || c.i >= len(r.all):
		return 170
	case c.name == raises && (c.prio < 0 || c.prio > 63):
		return 172
	case !r.may(c.name, r.all[c.i]):
		return 171
	}
	switch v := &r.all[c.i]; c.name {
	case starts:
		v.state = 1
		r.toBack(c.i)
	case stops:
		r.dormant(c.i)
	case blocks:
		v.state = 2
	case wakes:
		v.state = 1
		r.toBack(c.i)
	case suspends:
		v.held = true
	case resumes:
		v.held = false
		r.toBack(c.i)
	case raises:
		v.prio = c.prio
		r.toBack(c.i)
	case yields:
		r.toBack(c.i)
	}
	return 0
}

// order is the runnable processes: priority by priority, and as they went to the back.
func (r *record) order() []int {
	var l []int
	for prio := 63; prio >= 0; prio-- {
		for _, i := range r.back {
			if v := r.all[i]; v.prio == prio && v.state == 1 && !v.held {
				l = append(l, i)
			}
		}
	}
	return l
}

// both is a table and its record, of which each call is made.
type both struct {
	*proc.Table
	record record
}

// bothOf is a new table, of which some calls have been made.
func bothOf(t *testing.T, prios []uint8, l ...call) *both {
	t.Helper()
	b := &both{tableOf(t, prios...), recordOf(prios...)}
	b.calls(t, l...)
	return b
}

// same checks that a table has what its record has.
func (b *both) same(t *testing.T) {
	t.Helper()
	order(t, b.Table, b.record.order()...)
	has(t, b.Table, b.record.all...)
}

func (b *both) call(t *testing.T, c call) {
	t.Helper()
	returns(t, b.Table, c, b.record.call(c))
}

func (b *both) calls(t *testing.T, l ...call) {
	t.Helper()
	for _, c := range l {
		b.call(t, c)
	}
}

func (b *both) reset(t *testing.T) {
	t.Helper()
	b.Reset()
	b.record.reset()
	b.same(t)
}

// frees lets all processes be runnable, one behind the other, which shows what they were kept from.
func (b *both) frees(t *testing.T) {
	t.Helper()
	for i := range b.Len() {
		for _, name := range []string{starts, wakes, resumes} {
			b.call(t, call{name, i, 0})
			b.same(t)
		}
	}
}

// ends lets all processes be runnable, stop, and start again in reverse, which shows their initial priorities.
func (b *both) ends(t *testing.T) {
	t.Helper()
	b.frees(t)
	for i := range b.Len() {
		b.call(t, call{stops, i, 0})
		b.same(t)
	}
	for i := b.Len() - 1; i >= 0; i-- {
		b.call(t, call{starts, i, 0})
		b.same(t)
	}
}

// kinds is what a process may be, and the calls that let a dormant process, number 0, be so.
var kinds = []struct {
	name  string
	by    []string
	state api.State
	held  bool
}{
	{"dormant", nil, api.Dormant, false},
	{"ready", []string{starts}, api.Ready, false},
	{"ready and suspended", []string{starts, suspends}, api.Ready, true},
	{"waiting", []string{starts, blocks}, api.Waiting, false},
	{"waiting and suspended", []string{starts, blocks, suspends}, api.Waiting, true},
}

// leads is the calls that let a dormant process be of a kind.
func leads(kind, i int) []call {
	var l []call
	for _, name := range kinds[kind].by {
		l = append(l, call{name, i, 0})
	}
	return l
}

// The chapter's example.
func TestExample(t *testing.T) {
	p := tableOf(t, 5, 5, 9)
	for _, x := range []struct {
		name    string
		i, runs int
	}{
		{starts, 0, 0}, {starts, 1, 0}, {starts, 2, 2}, {blocks, 2, 0}, {yields, 0, 1}, {wakes, 2, 2}, {stops, 2, 1}, {suspends, 1, 0},
	} {
		does(t, p, call{x.name, x.i, 0})
		if i, ok := p.Running(); i != x.runs || !ok {
			t.Errorf("%s(%d): %d runs (%t), not %d", x.name, x.i, i, ok, x.runs)
		}
	}
	returns(t, p, call{wakes, 0, 0}, 171)
	order(t, p, 0)
}

// P17.1

// A new table has 1 to 16 processes of priorities from 0 to 63, all of them dormant.
func TestNew(t *testing.T) {
	for n := 1; n <= most; n++ {
		for _, prio := range prios {
			l := slices.Repeat([]uint8{uint8(prio)}, n)
			p := tableOf(t, l...)
			order(t, p)
			has(t, p, slices.Repeat([]view{{0, false, prio}}, n)...)
			bothOf(t, l).ends(t)
		}
	}
	p := tableOf(t, 7, 0, 63, 62, 7)
	order(t, p)
	has(t, p, view{0, false, 7}, view{0, false, 0}, view{0, false, 63}, view{0, false, 62}, view{0, false, 7})
	bothOf(t, []uint8{7, 0, 63, 62, 7}).ends(t)
}

// newNot checks that there is no such table.
func newNot(t *testing.T, prios []uint8, want api.Errno) {
	t.Helper()
	if p, e := proc.New(prios); p != nil || e != want {
		t.Errorf("New(%v) = %v, %d, not %d", prios, p, int(e), int(want))
	}
}

// There is no table of no process, or of more than 16.
func TestNewMany(t *testing.T) {
	newNot(t, nil, api.ErrProcMany)
	newNot(t, []uint8{}, api.ErrProcMany)
	newNot(t, make([]uint8, 0, 5), api.ErrProcMany)
	newNot(t, []uint8{5}[:0], api.ErrProcMany)
	for _, n := range []int{most + 1, most + 2, 2 * most, 255, 256, 257, 256 + most, 65537, 1 << 20} {
		for _, prio := range prios {
			newNot(t, slices.Repeat([]uint8{uint8(prio)}, n), api.ErrProcMany)
		}
	}
}

// There is no table with a priority that is greater than 63, wherever it is.
func TestNewPrio(t *testing.T) {
	for _, prio := range []uint8{64, 65, 100, 127, 128, 192, 254, 255} {
		for n := 1; n <= most; n++ {
			for at := range n {
				for _, other := range []uint8{0, 5, 63, prio} {
					l := slices.Repeat([]uint8{other}, n)
					l[at] = prio
					newNot(t, l, api.ErrProcPrio)
				}
			}
		}
	}
}

// If there are too many processes, and there is a priority that is too great, the first error is the one about the processes.
func TestNewWhichErrorFirst(t *testing.T) {
	for _, n := range []int{most + 1, 2 * most, 300} {
		for at := range n {
			l := make([]uint8, n)
			l[at] = 64
			newNot(t, l, api.ErrProcMany)
		}
		newNot(t, slices.Repeat([]uint8{255}, n), api.ErrProcMany)
	}
}

// The capacity of the priorities doesn't count.
func TestNewCapacity(t *testing.T) {
	l := slices.Repeat([]uint8{255}, 3*most)
	copy(l, []uint8{3, 4, 5})
	p := tableOf(t, l[:3]...)
	has(t, p, view{0, false, 3}, view{0, false, 4}, view{0, false, 5})
	newNot(t, l[:0], api.ErrProcMany)
	newNot(t, l[:4], api.ErrProcPrio)
}

// Len is the number of processes at any time.
func TestLen(t *testing.T) {
	for n := 1; n <= most; n++ {
		p := tableOf(t, make([]uint8, n)...)
		for range 2 {
			for i := range n {
				for _, c := range slices.Concat(calls(i, 4), calls(i-n, 4), calls(i+n, 4)) {
					c.of(p)
					if got := p.Len(); got != n {
						t.Fatalf("%v: Len() = %d, not %d", c, got, n)
					}
				}
			}
			p.Reset()
			if got := p.Len(); got != n {
				t.Fatalf("Reset(): Len() = %d, not %d", got, n)
			}
		}
	}
}

// All calls for a process that does not exist are refused, whatever the others are, and change nothing.
func TestNoProcess(t *testing.T) {
	for n := 1; n <= most; n++ {
		for kind := range kinds {
			b := bothOf(t, slices.Repeat([]uint8{9}, n))
			for i := range n {
				b.calls(t, leads((kind+i)%len(kinds), i)...)
			}
			for _, i := range noProcs(n) {
				for _, c := range calls(i, 0, 9, 63) {
					returns(t, b.Table, c, api.ErrProcID)
				}
				is(t, b.Table, i, view{})
			}
			b.same(t)
			b.ends(t)
		}
	}
}

// Reset makes all processes dormant, with their initial priorities, whatever they were.
func TestReset(t *testing.T) {
	initial := []uint8{4, 9, 4, 0, 63}
	for kind := range kinds {
		for step := range kinds {
			b := bothOf(t, initial)
			for i := range initial {
				b.calls(t, leads((kind+i*step)%len(kinds), i)...)
				b.call(t, call{raises, i, 7 + i%2})
			}
			for range 2 {
				b.Reset()
				b.record.reset()
				order(t, b.Table)
				has(t, b.Table, view{0, false, 4}, view{0, false, 9}, view{0, false, 4}, view{0, false, 0}, view{0, false, 63})
			}
			b.ends(t)
			b.reset(t)
			b.ends(t)
		}
	}
}

// Behind Reset a process can be started, and all else is refused, as of a new table.
func TestCallsBehindReset(t *testing.T) {
	for kind := range kinds {
		for other := range kinds {
			for _, raised := range []int{3, 5, 63} {
				for _, c := range calls(0, 0, 5, 63) {
					b := bothOf(t, []uint8{5, 5}, slices.Concat(leads(kind, 0), leads(other, 1))...)
					b.calls(t, call{raises, 0, raised}, call{raises, 1, raised})
					b.reset(t)
					if c.name == starts {
						returns(t, b.Table, c, api.OK)
						is(t, b.Table, 0, view{api.Ready, false, 5})
						order(t, b.Table, 0)
						continue
					}
					returns(t, b.Table, c, api.ErrProcState)
					b.same(t)
					b.ends(t)
				}
			}
		}
	}
}

// Behind Reset nothing is left of who went to the back earlier.
func TestOrderBehindReset(t *testing.T) {
	p := tableOf(t, 5, 5, 5)
	does(t, p, call{starts, 0, 0}, call{starts, 1, 0}, call{starts, 2, 0}, call{yields, 0, 0}, call{suspends, 2, 0})
	order(t, p, 1, 0)
	p.Reset()
	order(t, p)
	does(t, p, call{starts, 2, 0}, call{starts, 0, 0})
	order(t, p, 2, 0)
	does(t, p, call{starts, 1, 0})
	order(t, p, 2, 0, 1)
	p.Reset()
	does(t, p, call{starts, 0, 0}, call{starts, 2, 0}, call{starts, 1, 0})
	order(t, p, 0, 2, 1)
}

// P17.2

// What each call makes of each kind of process; -1: it is refused.
func TestEachCallOfEachKind(t *testing.T) {
	for _, x := range []struct {
		name string
		to   [5]int // of a dormant one, a ready one, a suspended ready one, a waiting one, a suspended waiting one
	}{
		{starts, [5]int{1, -1, -1, -1, -1}},
		{stops, [5]int{-1, 0, 0, 0, 0}},
		{blocks, [5]int{-1, 3, -1, -1, -1}},
		{wakes, [5]int{-1, -1, -1, 1, 2}},
		{suspends, [5]int{-1, 2, -1, 4, -1}},
		{resumes, [5]int{-1, -1, 1, -1, 3}},
		{raises, [5]int{-1, 1, 2, 3, 4}},
		{yields, [5]int{-1, 1, -1, -1, -1}},
	} {
		for kind, to := range x.to {
			want, then := api.OK, to
			if to < 0 {
				want, then = api.ErrProcState, kind
			}
			for _, n := range []int{1, 2, most} {
				for i := range n {
					p := tableOf(t, slices.Repeat([]uint8{5}, n)...)
					does(t, p, leads(kind, i)...)
					is(t, p, i, view{kinds[kind].state, kinds[kind].held, 5})
					returns(t, p, call{x.name, i, 5}, want)
					is(t, p, i, view{kinds[then].state, kinds[then].held, 5})
					if then == 1 {
						order(t, p, i)
					} else {
						order(t, p)
					}
				}
			}
		}
	}
}

// The same of one process among others of each kind, with its priority and with another one.
func TestEachCallAmongOthers(t *testing.T) {
	for kind := range kinds {
		for other := range kinds {
			for _, raised := range []int{4, 5, 6} {
				for _, c := range calls(1, 4, 5, 6, -1, 64) {
					b := bothOf(t, []uint8{5, 5, 5, 4}, slices.Concat(leads(1, 0), leads(kind, 1), leads(other, 2), leads(1, 3))...)
					b.call(t, call{raises, 1, raised})
					b.same(t)
					b.call(t, c)
					b.same(t)
					b.ends(t)
				}
			}
		}
	}
}

// Start lets a process be ready, of its initial priority and not suspended, whatever it was before.
func TestStart(t *testing.T) {
	for kind := range kinds {
		p := tableOf(t, 5, 5)
		does(t, p, call{starts, 1, 0})
		does(t, p, leads(kind, 0)...)
		if kind > 0 {
			does(t, p, call{raises, 0, 9}, call{stops, 0, 0})
		}
		is(t, p, 0, view{api.Dormant, false, 5})
		does(t, p, call{starts, 0, 0})
		is(t, p, 0, view{api.Ready, false, 5})
		order(t, p, 1, 0)
	}
}

// Processes that are started stand in the order of their starts, priority by priority.
func TestStartGoesToTheBack(t *testing.T) {
	for _, x := range []struct{ starts, want []int }{
		{[]int{0, 1, 2, 3}, []int{2, 0, 1, 3}},
		{[]int{3, 2, 1, 0}, []int{2, 1, 0, 3}},
		{[]int{1, 3, 0, 2}, []int{2, 1, 0, 3}},
		{[]int{1, 0}, []int{1, 0}},
		{[]int{0, 1}, []int{0, 1}},
		{[]int{3, 0}, []int{0, 3}},
		{[]int{3, 2}, []int{2, 3}},
	} {
		p := tableOf(t, 5, 5, 6, 4)
		for _, i := range x.starts {
			does(t, p, call{starts, i, 0})
		}
		order(t, p, x.want...)
	}
	p := tableOf(t, make([]uint8, most)...)
	var want []int
	for k := range most {
		i := k * 5 % most
		want = append(want, i)
		does(t, p, call{starts, i, 0})
		order(t, p, want...)
	}
}

// Stop lets a process be dormant, of its initial priority again and not suspended, and the others stay as they are.
func TestStop(t *testing.T) {
	for kind := range kinds[1:] {
		for _, raised := range prios {
			for _, then := range [][]call{nil, {{suspends, 1, 0}}, {{resumes, 1, 0}}, {{wakes, 1, 0}}} {
				p := tableOf(t, 5, 5, 5)
				does(t, p, call{starts, 2, 0}, call{starts, 0, 0})
				does(t, p, leads(kind+1, 1)...)
				does(t, p, call{raises, 1, raised})
				for _, c := range then {
					c.of(p)
				}
				does(t, p, call{stops, 1, 0})
				order(t, p, 2, 0)
				has(t, p, view{api.Ready, false, 5}, view{api.Dormant, false, 5}, view{api.Ready, false, 5})
				returns(t, p, call{stops, 1, 0}, api.ErrProcState)
				does(t, p, call{starts, 1, 0})
				order(t, p, 2, 0, 1)
				is(t, p, 1, view{api.Ready, false, 5})
			}
		}
	}
}

// Each process has its own initial priority again.
func TestStopInitial(t *testing.T) {
	initial := []uint8{3, 63, 0, 3, 17, 62, 1}
	p := tableOf(t, initial...)
	for range 2 {
		for i, prio := range initial {
			does(t, p, call{starts, i, 0}, call{raises, i, 63 - int(prio)}, call{raises, i, i})
			is(t, p, i, view{api.Ready, false, i})
			does(t, p, call{stops, i, 0})
			is(t, p, i, view{api.Dormant, false, int(prio)})
		}
	}
	order(t, p)
}

// Block lets a runnable process wait, whether it runs or not.
func TestBlock(t *testing.T) {
	b := bothOf(t, []uint8{5, 5, 9, 1}, call{starts, 0, 0}, call{starts, 1, 0}, call{starts, 2, 0}, call{starts, 3, 0})
	for _, x := range []struct {
		i    int
		want []int
	}{{1, []int{2, 0, 3}}, {3, []int{2, 0}}, {2, []int{0}}, {0, nil}} {
		does(t, b.Table, call{blocks, x.i, 0})
		is(t, b.Table, x.i, view{api.Waiting, false, b.record.first[x.i]})
		order(t, b.Table, x.want...)
		returns(t, b.Table, call{blocks, x.i, 0}, api.ErrProcState)
		order(t, b.Table, x.want...)
	}
}

// A suspended process can't be blocked; it can be when it is resumed.
func TestBlockSuspended(t *testing.T) {
	p := tableOf(t, 5, 5)
	does(t, p, call{starts, 0, 0}, call{starts, 1, 0}, call{suspends, 0, 0})
	returns(t, p, call{blocks, 0, 0}, api.ErrProcState)
	is(t, p, 0, view{api.Ready, true, 5})
	order(t, p, 1)
	does(t, p, call{resumes, 0, 0}, call{blocks, 0, 0})
	is(t, p, 0, view{api.Waiting, false, 5})
	order(t, p, 1)
}

// Wake lets a process that waits be ready; one that is suspended stays so, and is runnable only when it is resumed.
func TestWake(t *testing.T) {
	p := tableOf(t, 5, 5)
	does(t, p, call{starts, 0, 0}, call{starts, 1, 0}, call{blocks, 0, 0}, call{wakes, 0, 0})
	is(t, p, 0, view{api.Ready, false, 5})
	order(t, p, 1, 0)
	returns(t, p, call{wakes, 0, 0}, api.ErrProcState)
	does(t, p, call{blocks, 0, 0}, call{suspends, 0, 0}, call{wakes, 0, 0})
	is(t, p, 0, view{api.Ready, true, 5})
	order(t, p, 1)
	returns(t, p, call{wakes, 0, 0}, api.ErrProcState)
	is(t, p, 0, view{api.Ready, true, 5})
	does(t, p, call{resumes, 0, 0})
	is(t, p, 0, view{api.Ready, false, 5})
	order(t, p, 1, 0)
}

// Suspend twice is refused, and one Resume is enough then.
func TestSuspendTwice(t *testing.T) {
	for kind := 1; kind < len(kinds); kind += 2 { // a ready one, and one that waits
		p := tableOf(t, 5, 4)
		does(t, p, call{starts, 1, 0})
		does(t, p, leads(kind, 0)...)
		does(t, p, call{suspends, 0, 0})
		for range 3 {
			returns(t, p, call{suspends, 0, 0}, api.ErrProcState)
			is(t, p, 0, view{kinds[kind].state, true, 5})
			order(t, p, 1)
		}
		does(t, p, call{resumes, 0, 0})
		is(t, p, 0, view{kinds[kind].state, false, 5})
		returns(t, p, call{resumes, 0, 0}, api.ErrProcState)
		is(t, p, 0, view{kinds[kind].state, false, 5})
	}
}

// A process that waits and is suspended waits still when it is resumed, and can be woken and suspended in either order.
func TestResumeWaiting(t *testing.T) {
	p := tableOf(t, 5, 5)
	does(t, p, call{starts, 0, 0}, call{starts, 1, 0}, call{blocks, 0, 0})
	returns(t, p, call{resumes, 0, 0}, api.ErrProcState)
	is(t, p, 0, view{api.Waiting, false, 5})
	does(t, p, call{suspends, 0, 0})
	is(t, p, 0, view{api.Waiting, true, 5})
	does(t, p, call{resumes, 0, 0})
	is(t, p, 0, view{api.Waiting, false, 5})
	order(t, p, 1)
	does(t, p, call{suspends, 0, 0}, call{resumes, 0, 0}, call{wakes, 0, 0})
	is(t, p, 0, view{api.Ready, false, 5})
	order(t, p, 1, 0)
}

// Raise sets each priority from 0 to 63 of a process that isn't dormant, and changes nothing else of it.
func TestRaise(t *testing.T) {
	for kind := range kinds[1:] {
		for _, initial := range []uint8{0, 5, 63} {
			for prio := range api.MaxPrio + 1 {
				p := tableOf(t, initial, 30)
				does(t, p, leads(kind+1, 0)...)
				does(t, p, call{starts, 1, 0})
				for range 2 {
					does(t, p, call{raises, 0, prio})
					is(t, p, 0, view{kinds[kind+1].state, kinds[kind+1].held, prio})
					is(t, p, 1, view{api.Ready, false, 30})
				}
				switch {
				case kind+1 > 1:
					order(t, p, 1)
				case prio > 30:
					order(t, p, 0, 1)
				default:
					order(t, p, 1, 0)
				}
			}
		}
	}
}

// Raise refuses priorities that there aren't, and changes nothing then.
func TestRaisePrio(t *testing.T) {
	for kind := range kinds {
		for _, prio := range noPrios {
			b := bothOf(t, []uint8{5, 5, 5}, slices.Concat(leads(kind, 0), leads(1, 1), leads(kind, 2))...)
			b.same(t)
			for i := range 3 {
				returns(t, b.Table, call{raises, i, prio}, api.ErrProcPrio)
				b.same(t)
			}
			b.ends(t)
		}
	}
}

// A process that doesn't exist is the first error of Raise, then the priority, then the state.
func TestRaiseWhichErrorFirst(t *testing.T) {
	p := tableOf(t, 5, 5)
	does(t, p, call{starts, 1, 0})
	for _, prio := range noPrios {
		for _, i := range noProcs(2) {
			returns(t, p, call{raises, i, prio}, api.ErrProcID)
		}
		returns(t, p, call{raises, 0, prio}, api.ErrProcPrio)
		returns(t, p, call{raises, 1, prio}, api.ErrProcPrio)
	}
	for _, prio := range prios {
		for _, i := range noProcs(2) {
			returns(t, p, call{raises, i, prio}, api.ErrProcID)
		}
		returns(t, p, call{raises, 0, prio}, api.ErrProcState)
	}
	order(t, p, 1)
	has(t, p, view{api.Dormant, false, 5}, view{api.Ready, false, 5})
}

// Raise lets a process change its queue, and go to the back of the other one.
func TestRaiseMoves(t *testing.T) {
	p := tableOf(t, 5, 5, 6, 6)
	for i := range 4 {
		does(t, p, call{starts, i, 0})
	}
	for _, x := range []struct {
		i, prio int
		want    []int
	}{
		{0, 6, []int{2, 3, 0, 1}},
		{1, 6, []int{2, 3, 0, 1}},
		{2, 6, []int{3, 0, 1, 2}},
		{0, 5, []int{3, 1, 2, 0}},
		{3, 5, []int{1, 2, 0, 3}},
		{0, 7, []int{0, 1, 2, 3}},
		{0, 0, []int{1, 2, 3, 0}},
		{3, 63, []int{3, 1, 2, 0}},
		{0, 63, []int{3, 0, 1, 2}},
		{3, 63, []int{0, 3, 1, 2}},
		{0, 6, []int{3, 1, 2, 0}},
	} {
		does(t, p, call{raises, x.i, x.prio})
		order(t, p, x.want...)
	}
}

// One alone yields, and runs again: there is no other one, or none of its priority, or none that is runnable.
func TestYieldAlone(t *testing.T) {
	for kind := range kinds {
		for _, other := range []uint8{4, 5, 6} {
			b := bothOf(t, []uint8{5, other}, append(leads(kind, 1), call{starts, 0, 0})...)
			for range 3 {
				b.call(t, call{yields, 0, 0})
				b.same(t)
				is(t, b.Table, 0, view{api.Ready, false, 5})
				if i, _ := b.Running(); i != 0 && (kind != 1 || other == 4) {
					t.Errorf("%d runs, and not the only one", i)
				}
			}
		}
	}
	p := tableOf(t, 5)
	does(t, p, call{starts, 0, 0}, call{yields, 0, 0})
	order(t, p, 0)
}

// Among several of one priority, whoever yields goes behind the others, whether it ran or not.
func TestYield(t *testing.T) {
	for _, x := range []struct {
		i    int
		want []int
	}{{0, []int{1, 2, 0}}, {1, []int{0, 2, 1}}, {2, []int{0, 1, 2}}} {
		p := tableOf(t, 5, 5, 5)
		does(t, p, call{starts, 0, 0}, call{starts, 1, 0}, call{starts, 2, 0}, call{yields, x.i, 0})
		order(t, p, x.want...)
		is(t, p, x.i, view{api.Ready, false, 5})
	}
	p := tableOf(t, 5, 5, 5)
	does(t, p, call{starts, 0, 0}, call{starts, 1, 0}, call{starts, 2, 0})
	for _, want := range [][]int{{1, 2, 0}, {2, 0, 1}, {0, 1, 2}, {1, 2, 0}, {2, 0, 1}, {0, 1, 2}} {
		i, _ := p.Running()
		does(t, p, call{yields, i, 0})
		order(t, p, want...)
	}
}

// Among several of different priorities, whoever yields goes behind those of its own, and stays ahead of lower ones.
func TestYieldPrios(t *testing.T) {
	p := tableOf(t, 5, 9, 5, 1, 9, 1)
	for i := range 6 {
		does(t, p, call{starts, i, 0})
	}
	order(t, p, 1, 4, 0, 2, 3, 5)
	for _, x := range []struct {
		i    int
		want []int
	}{
		{1, []int{4, 1, 0, 2, 3, 5}},
		{0, []int{4, 1, 2, 0, 3, 5}},
		{5, []int{4, 1, 2, 0, 3, 5}},
		{3, []int{4, 1, 2, 0, 5, 3}},
		{2, []int{4, 1, 0, 2, 5, 3}},
		{4, []int{1, 4, 0, 2, 5, 3}},
	} {
		does(t, p, call{yields, x.i, 0})
		order(t, p, x.want...)
	}
}

// Each way of going to the back: whoever goes is behind all who are there, and the last time counts.
func TestGoingToTheBack(t *testing.T) {
	for _, x := range []struct {
		calls []call
		want  []int // of 0, 1, 2 of one priority, which were started in this order
	}{
		{nil, []int{0, 1, 2}},
		{[]call{{yields, 0, 0}}, []int{1, 2, 0}},
		{[]call{{stops, 0, 0}, {starts, 0, 0}}, []int{1, 2, 0}},
		{[]call{{blocks, 0, 0}, {wakes, 0, 0}}, []int{1, 2, 0}},
		{[]call{{suspends, 0, 0}, {resumes, 0, 0}}, []int{1, 2, 0}},
		{[]call{{raises, 0, 5}}, []int{1, 2, 0}},
		{[]call{{raises, 0, 6}, {raises, 0, 5}}, []int{1, 2, 0}},
		{[]call{{raises, 0, 4}, {raises, 0, 5}}, []int{1, 2, 0}},
		{[]call{{raises, 1, 5}}, []int{0, 2, 1}},
		{[]call{{suspends, 1, 0}, {resumes, 1, 0}}, []int{0, 2, 1}},
		{[]call{{blocks, 1, 0}, {wakes, 1, 0}}, []int{0, 2, 1}},
		{[]call{{stops, 1, 0}, {starts, 1, 0}}, []int{0, 2, 1}},
		{[]call{{blocks, 2, 0}, {wakes, 2, 0}}, []int{0, 1, 2}},
		// Others have gone meanwhile.
		{[]call{{blocks, 0, 0}, {yields, 1, 0}, {wakes, 0, 0}}, []int{2, 1, 0}},
		{[]call{{suspends, 0, 0}, {yields, 1, 0}, {resumes, 0, 0}}, []int{2, 1, 0}},
		{[]call{{stops, 0, 0}, {yields, 1, 0}, {starts, 0, 0}}, []int{2, 1, 0}},
		// It has gone once more: the last time counts.
		{[]call{{blocks, 0, 0}, {suspends, 0, 0}, {wakes, 0, 0}, {yields, 1, 0}, {resumes, 0, 0}}, []int{2, 1, 0}},
		{[]call{{blocks, 0, 0}, {suspends, 0, 0}, {resumes, 0, 0}, {yields, 1, 0}, {wakes, 0, 0}}, []int{2, 1, 0}},
		{[]call{{blocks, 0, 0}, {raises, 0, 5}, {yields, 1, 0}, {wakes, 0, 0}}, []int{2, 1, 0}},
		{[]call{{suspends, 0, 0}, {raises, 0, 5}, {yields, 1, 0}, {resumes, 0, 0}}, []int{2, 1, 0}},
		{[]call{{yields, 0, 0}, {yields, 1, 0}, {yields, 0, 0}}, []int{2, 1, 0}},
		{[]call{{yields, 2, 0}, {yields, 1, 0}, {yields, 0, 0}}, []int{2, 1, 0}},
		{[]call{{blocks, 0, 0}, {blocks, 1, 0}, {wakes, 1, 0}, {wakes, 0, 0}}, []int{2, 1, 0}},
		{[]call{{suspends, 0, 0}, {blocks, 1, 0}, {resumes, 0, 0}, {wakes, 1, 0}}, []int{2, 0, 1}},
		// All have a priority of 6, as they went there.
		{[]call{{raises, 2, 6}, {raises, 0, 6}, {raises, 1, 6}}, []int{2, 0, 1}},
		// Whoever is dormant, waits or is suspended doesn't come forward, and lets the others stay.
		{[]call{{blocks, 0, 0}}, []int{1, 2}},
		{[]call{{suspends, 1, 0}}, []int{0, 2}},
		{[]call{{stops, 2, 0}}, []int{0, 1}},
		{[]call{{blocks, 0, 0}, {raises, 0, 9}}, []int{1, 2}},
		{[]call{{blocks, 0, 0}, {suspends, 0, 0}, {wakes, 0, 0}}, []int{1, 2}},
		{[]call{{blocks, 0, 0}, {suspends, 0, 0}, {resumes, 0, 0}}, []int{1, 2}},
		{[]call{{suspends, 0, 0}, {raises, 0, 9}}, []int{1, 2}},
	} {
		p := tableOf(t, 5, 5, 5, 9, 1)
		does(t, p, call{starts, 4, 0}, call{starts, 0, 0}, call{starts, 1, 0}, call{starts, 2, 0}, call{starts, 3, 0})
		does(t, p, x.calls...)
		order(t, p, slices.Concat([]int{3}, x.want, []int{4})...)
		if t.Failed() {
			t.Fatalf("%v", x.calls)
		}
	}
}

// A call that is refused changes nothing, not even who went to the back earlier.
func TestRefused(t *testing.T) {
	for kind := range kinds {
		for other := range kinds {
			b := bothOf(t, []uint8{5, 5, 5, 5}, slices.Concat(leads(kind, 2), leads(other, 0), leads(1, 3), leads(1, 1))...)
			for range 2 {
				for i := range 4 {
					for _, c := range slices.Concat(calls(i, -1, 64), calls(i-4, 5), calls(i+4, 5)) {
						r := b.record.clone()
						if r.call(c) != api.OK {
							b.call(t, c)
							b.same(t)
						}
					}
				}
			}
			b.ends(t)
		}
	}
}

func (r *record) clone() record {
	return record{slices.Clone(r.first), slices.Clone(r.all), slices.Clone(r.back)}
}

// P17.3

// Nobody is runnable: no process is started, or none of those that are.
func TestNobodyRunnable(t *testing.T) {
	for _, n := range []int{1, 2, most} {
		for kind := range kinds {
			if kind == 1 {
				continue
			}
			p := tableOf(t, slices.Repeat([]uint8{63}, n)...)
			order(t, p)
			for i := range n {
				does(t, p, leads(kind, i)...)
				order(t, p)
			}
			if kind == 0 {
				does(t, p, call{starts, n - 1, 0}, call{stops, n - 1, 0})
				order(t, p)
				does(t, p, call{starts, 0, 0})
				p.Reset()
			}
			order(t, p)
		}
	}
}

// Process 0 runs: that is told apart from nobody.
func TestRunningZero(t *testing.T) {
	p := tableOf(t, 0)
	if i, ok := p.Running(); i != 0 || ok {
		t.Errorf("Running() = %d, %t", i, ok)
	}
	does(t, p, call{starts, 0, 0})
	if i, ok := p.Running(); i != 0 || !ok {
		t.Errorf("Running() = %d, %t", i, ok)
	}
}

// Order has the greatest priority first, for each two priorities.
func TestOrderPrios(t *testing.T) {
	for a := range api.MaxPrio + 1 {
		for b := range api.MaxPrio + 1 {
			p, q := tableOf(t, uint8(a), uint8(b)), tableOf(t, 9, 9)
			does(t, p, call{starts, 0, 0}, call{starts, 1, 0})
			does(t, q, call{starts, 0, 0}, call{starts, 1, 0}, call{raises, 0, a}, call{raises, 1, b})
			want := []int{0, 1}
			if b > a {
				want = []int{1, 0}
			}
			order(t, p, want...)
			order(t, q, want...)
		}
	}
}

// Order of as many processes as there may be, all of different priorities, or of few.
func TestOrderMany(t *testing.T) {
	for few := 1; few <= most; few++ {
		var l []uint8
		for i := range most {
			l = append(l, uint8(i*7%most%few*63/most))
		}
		b := bothOf(t, l)
		for i := range most {
			b.call(t, call{starts, i * 11 % most, 0})
			b.same(t)
		}
		for i := range most {
			b.call(t, call{yields, i * 3 % most, 0})
			b.same(t)
		}
		b.ends(t)
	}
}

// State of a process that does not exist is that of a dormant one of priority 0, whatever the others are.
func TestStateNone(t *testing.T) {
	for n := 1; n <= most; n++ {
		for kind := range kinds {
			p := tableOf(t, slices.Repeat([]uint8{63}, n)...)
			for i := range n {
				does(t, p, leads(kind, i)...)
			}
			for _, i := range noProcs(n) {
				if state, held, prio := p.State(i); state != api.Dormant || held || prio != 0 {
					t.Errorf("State(%d) = %d, %t, %d", i, int(state), held, prio)
				}
			}
			has(t, p, slices.Repeat([]view{{kinds[kind].state, kinds[kind].held, 63}}, n)...)
		}
	}
}

// Asking changes nothing.
func TestAsking(t *testing.T) {
	b := bothOf(t, []uint8{5, 5, 5, 6}, call{starts, 2, 0}, call{starts, 0, 0}, call{starts, 3, 0}, call{blocks, 3, 0})
	for range 20 {
		b.Order()
		b.Running()
		b.Len()
		for _, i := range append(noProcs(4), 0, 1, 2, 3) {
			b.State(i)
		}
		b.same(t)
	}
	b.ends(t)
}

// P17.4

// runs checks that the running process is runnable, that no process with a greater priority is, and that all who are runnable are in the order.
func runs(t *testing.T, p *proc.Table) {
	t.Helper()
	running, ok := p.Running()
	top, count := -1, 0
	for i := range p.Len() {
		if v := viewOf(p, i); v.state == api.Ready && !v.held {
			top = max(top, v.prio)
			count++
			if !slices.Contains(p.Order(), i) {
				t.Errorf("%d is runnable, and not in %v", i, p.Order())
			}
		}
	}
	if got := len(p.Order()); got != count {
		t.Errorf("%d are runnable, and %d are in the order", count, got)
	}
	if ok != (count > 0) {
		t.Errorf("%d are runnable, and Running() = %d, %t", count, running, ok)
	}
	if v := viewOf(p, running); ok && v != (view{api.Ready, false, top}) {
		t.Errorf("%d runs: %v; %d is the greatest priority", running, v, top)
	}
}

// equals is all runnable processes that have the priority of the running one.
func equals(p *proc.Table) []int {
	running, _ := p.Running()
	top := viewOf(p, running).prio
	var l []int
	for i := range p.Len() {
		if viewOf(p, i) == (view{api.Ready, false, top}) {
			l = append(l, i)
		}
	}
	return l
}

// turns checks that, if every running process yields, all runnable processes of its priority run in turn.
func turns(t *testing.T, p *proc.Table) {
	t.Helper()
	if _, ok := p.Running(); !ok {
		return
	}
	all := equals(p)
	var first []int
	for turn := range 3 {
		var l []int
		for range all {
			i, _ := p.Running()
			l = append(l, i)
			does(t, p, call{yields, i, 0})
			runs(t, p)
		}
		if turn == 0 {
			first = l
		}
		sorted := slices.Sorted(slices.Values(l))
		if !slices.Equal(l, first) || !slices.Equal(sorted, all) {
			t.Errorf("turn %d of %v: %v, and %v first", turn, all, l, first)
		}
	}
}

// key is a record as a text, as far as it matters: who went to the back earlier counts among the runnable ones.
func (r *record) key() string {
	var b []byte
	for _, v := range r.all {
		held := byte(0)
		if v.held {
			held = 1
		}
		b = append(b, byte(v.state), held, byte(v.prio))
	}
	for _, i := range r.order() {
		b = append(b, byte(i))
	}
	return string(b)
}

// Each call in each state that small tables can be in: a table does what its record does.
func TestAllStates(t *testing.T) {
	for _, x := range []struct {
		initial []uint8
		raised  []int
		states  int
	}{
		{[]uint8{5}, []int{4, 6}, 13},
		{[]uint8{5, 5}, []int{5, 6}, 0},
		{[]uint8{0, 63}, []int{0, 31, 63}, 0},
		{[]uint8{5, 5, 5}, []int{5}, 0},
		{[]uint8{5, 6, 5}, []int{5, 6}, 0},
		{[]uint8{7, 7, 7, 7}, nil, 0},
	} {
		found := allStates(t, x.initial, x.raised)
		if x.states > 0 && found != x.states {
			t.Errorf("%v: %d states are found, not %d", x.initial, found, x.states)
		}
	}
}

// allStates finds all states that a table can be in, makes each call in each of them, and returns how many there are.
func allStates(t *testing.T, initial []uint8, raised []int) int {
	t.Helper()
	seen := map[string]int{}
	r := recordOf(initial...)
	seen[r.key()] = 0
	paths := [][]call{nil}
	var all []call
	for i := range initial {
		all = append(all, calls(i, raised...)...)
	}
	for at := 0; at < len(paths); at++ {
		for _, c := range all {
			b := bothOf(t, initial, paths[at]...)
			e := b.record.call(c)
			returns(t, b.Table, c, e)
			order(t, b.Table, b.record.order()...)
			for i, v := range b.record.all {
				is(t, b.Table, i, v)
			}
			runs(t, b.Table)
			if t.Failed() {
				t.Fatalf("%v: %v, %v", initial, paths[at], c)
			}
			if key := b.record.key(); seen[key] == 0 && key != r.key() {
				seen[key] = len(paths)
				paths = append(paths, append(slices.Clone(paths[at]), c))
			}
		}
		b := bothOf(t, initial, paths[at]...)
		turns(t, b.Table)
		b = bothOf(t, initial, paths[at]...)
		b.reset(t)
		if t.Failed() {
			t.Fatalf("%v: %v", initial, paths[at])
		}
	}
	return len(paths)
}

// source is a source of numbers that look as if drawn by chance, and are the same each time.
type source uint32

// under is the next number, below n.
func (s *source) under(n int) int {
	*s = *s*1664525 + 1013904223
	return int(*s>>8) % n
}

// of is one of some numbers.
func (s *source) of(l ...int) int { return l[s.under(len(l))] }

// initial is priorities of a table: of few or many processes, and few or many priorities.
func (s *source) initial() ([]uint8, int) {
	several := s.of(1, 2, 3, 64)
	var l []uint8
	for range 1 + s.under(s.of(2, 4, most)) {
		l = append(l, uint8(s.under(several)))
	}
	return l, several
}

// call is a call of a process among n, with one of several priorities, and now and then with other arguments.
func (s *source) call(n, several int) call {
	c := call{names[s.under(len(names))], s.under(n), s.under(several)}
	if s.under(3) == 0 {
		c.name = starts
	}
	switch s.under(40) {
	case 0:
		c.i = s.of(noProcs(n)...)
	case 1:
		c.prio = s.of(noPrios...)
	case 2:
		c.prio = s.of(prios...)
	}
	return c
}

// Many sequences of calls: a table does what its record does; who runs is runnable, and none with a greater priority is.
func TestManySequences(t *testing.T) {
	for seed := range 2000 {
		s := source(seed)
		initial, several := s.initial()
		b := bothOf(t, initial)
		for range 20 + s.under(200) {
			switch c := s.call(len(initial), several); s.under(60) {
			default:
				b.call(t, c)
			case 0:
				b.reset(t)
			case 1, 2:
				b.frees(t)
			}
			order(t, b.Table, b.record.order()...)
			runs(t, b.Table)
		}
		b.same(t)
		b.ends(t)
		if t.Failed() {
			t.Fatalf("sequence %d: %v", seed, initial)
		}
	}
}

// Behind many sequences of calls: if every running process yields, all of its priority run in turn.
func TestInTurn(t *testing.T) {
	for seed := range 2000 {
		s := source(seed)
		initial, several := s.initial()
		p := tableOf(t, initial...)
		for range 10 {
			for range s.under(30) {
				s.call(len(initial), several).of(p)
			}
			turns(t, p)
		}
		if t.Failed() {
			t.Fatalf("sequence %d: %v", seed, initial)
		}
	}
}

// As many processes as there may be run in turn, also if others come and go among them.
func TestAllInTurn(t *testing.T) {
	b := bothOf(t, slices.Repeat([]uint8{7}, most))
	for i := range most {
		b.call(t, call{starts, i, 0})
	}
	for k := range 50 * most {
		if i, ok := b.Running(); i != k%most || !ok {
			t.Fatalf("turn %d: %d runs (%t)", k, i, ok)
		}
		b.call(t, call{yields, k % most, 0})
	}
	b.same(t)
	for _, i := range []int{3, 4, 0, 15} {
		b.call(t, call{blocks, i, 0})
		b.same(t)
		turns(t, b.Table)
	}
}

// P1, and the document's rules

// What Order returns is the caller's: it isn't changed by the table later on, and the table isn't changed by it.
func TestOrderIsNew(t *testing.T) {
	p := tableOf(t, 5, 5, 6, 5)
	for i := range 4 {
		does(t, p, call{starts, i, 0})
	}
	one, two := p.Order(), p.Order()
	for i := range one {
		one[i] = 77
	}
	_ = append(one[:2], 66, 66)
	_ = append(two, 55)
	if !slices.Equal(two, []int{2, 0, 1, 3}) {
		t.Errorf("a list has become %v", two)
	}
	order(t, p, 2, 0, 1, 3)
	does(t, p, call{suspends, 0, 0}, call{yields, 1, 0})
	order(t, p, 2, 3, 1)
	three := p.Order()
	does(t, p, call{stops, 2, 0}, call{raises, 3, 1}, call{resumes, 0, 0})
	order(t, p, 1, 0, 3)
	p.Reset()
	does(t, p, call{starts, 3, 0})
	if !slices.Equal(two, []int{2, 0, 1, 3}) || !slices.Equal(three, []int{2, 3, 1}) {
		t.Errorf("lists have become %v, %v", two, three)
	}
	order(t, p, 3)
	does(t, p, call{stops, 3, 0})
	_ = append(p.Order(), 9)
	order(t, p)
	does(t, p, call{starts, 1, 0})
	order(t, p, 1)
}

// The priorities that New was given are the caller's: they aren't changed, and the table isn't changed by them.
func TestPriosAreTheCallers(t *testing.T) {
	l := []uint8{5, 6, 7, 99, 99}
	p := tableOf(t, l[:3]...)
	does(t, p, call{starts, 0, 0}, call{starts, 1, 0}, call{raises, 1, 9}, call{stops, 0, 0})
	p.Reset()
	if !slices.Equal(l, []uint8{5, 6, 7, 99, 99}) {
		t.Errorf("the priorities have become %v", l)
	}
	does(t, p, call{starts, 2, 0}, call{starts, 1, 0}, call{raises, 1, 9})
	for i := range l {
		l[i] = 11
	}
	has(t, p, view{api.Dormant, false, 5}, view{api.Ready, false, 9}, view{api.Ready, false, 7})
	does(t, p, call{stops, 1, 0})
	has(t, p, view{api.Dormant, false, 5}, view{api.Dormant, false, 6}, view{api.Ready, false, 7})
	p.Reset()
	has(t, p, view{api.Dormant, false, 5}, view{api.Dormant, false, 6}, view{api.Dormant, false, 7})
	for i := range 3 {
		does(t, p, call{starts, i, 0})
	}
	order(t, p, 2, 1, 0)
}

// Tables are apart from each other, also those of the same priorities.
func TestApart(t *testing.T) {
	l := []uint8{5, 5}
	p, q := tableOf(t, l...), tableOf(t, l...)
	does(t, p, call{starts, 0, 0}, call{starts, 1, 0}, call{raises, 0, 4})
	order(t, q)
	has(t, q, view{0, false, 5}, view{0, false, 5})
	does(t, q, call{starts, 1, 0}, call{starts, 0, 0}, call{yields, 1, 0})
	order(t, p, 1, 0)
	order(t, q, 0, 1)
	p.Reset()
	order(t, p)
	order(t, q, 0, 1)
	does(t, q, call{blocks, 0, 0})
	has(t, p, view{0, false, 5}, view{0, false, 5})
	has(t, q, view{api.Waiting, false, 5}, view{api.Ready, false, 5})
}

// Any arguments, one call behind the other: no call panics, and each does what its record does.
func TestAnyArguments(t *testing.T) {
	for _, n := range []int{1, 2, 3, most} {
		b := bothOf(t, slices.Repeat([]uint8{31}, n))
		numbers := slices.Concat(noProcs(n), noPrios, prios)
		for i := range n {
			numbers = append(numbers, i)
		}
		for k, i := range numbers {
			for j, prio := range numbers {
				b.call(t, call{raises, i, prio})
				b.call(t, call{names[(k+j)%len(names)], i, prio})
				b.call(t, call{names[j%len(names)], prio, i})
			}
			b.same(t)
		}
		b.ends(t)
	}
}

// The same calls have the same results each time.
func TestSameAgain(t *testing.T) {
	var first []int
	for again := range 3 {
		s := source(5)
		p := tableOf(t, 5, 6, 5, 6, 5)
		var l []int
		for range 500 {
			l = append(l, int(s.call(5, 9).of(p)))
			l = append(l, p.Order()...)
		}
		if again == 0 {
			first = l
		}
		if !slices.Equal(l, first) {
			t.Errorf("time %d differs", again)
		}
	}
}
