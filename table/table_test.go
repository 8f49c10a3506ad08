package table_test

import (
	"math"
	"reflect"
	"slices"
	"testing"

	"purlin/api"
	"purlin/plan"
	"purlin/rules"
	"purlin/table"
)

// example is the chapter's example, with a core that has no windows and a partition that is never served.
func example() api.Plan {
	return simple(20, 4,
		[]api.Window{{Start: 0, Len: 5, Part: 0}, {Start: 5, Len: 5, Part: 1, Gang: 1}},
		[]api.Window{{Start: 5, Len: 5, Part: 1, Gang: 1}, {Start: 12, Len: 8, Part: 2}},
		nil)
}

// simple is a plan of so many partitions, with nothing but one process each, and of these cores.
func simple(frame uint16, parts int, cores ...[]api.Window) api.Plan {
	return api.Plan{Frame: frame, Cores: cores, Parts: slices.Repeat([]api.Part{{Procs: []uint8{0}}}, parts)}
}

// several is a plan with several gangs, on one to eight cores, out of their order.
func several() api.Plan {
	p := simple(50, 6, make([][]api.Window, 8)...)
	add := func(w api.Window, cores ...int) {
		for _, core := range cores {
			p.Cores[core] = append(p.Cores[core], w)
		}
	}
	add(api.Window{Start: 1, Len: 2, Part: 5, Gang: 200}, 0, 1, 2, 3, 4, 5, 6, 7)
	add(api.Window{Start: 3, Len: 4, Part: 4, Gang: 255}, 7, 2)
	add(api.Window{Start: 3, Len: 3, Part: 5, Gang: 2}, 0, 6)
	add(api.Window{Start: 5, Len: 5, Part: 1}, 1)
	add(api.Window{Start: 10, Len: 10, Part: 1, Gang: 1}, 4, 5, 3)
	add(api.Window{Start: 12, Len: 8, Part: 4, Gang: 100}, 0)
	add(api.Window{Start: 20, Len: 30, Part: 0, Gang: 3}, 7, 0, 3)
	add(api.Window{Start: 30, Len: 10, Part: 1}, 2)
	return p
}

// largest is a plan of the longest frame, with as many cores and windows as there may be.
func largest() api.Plan {
	p := simple(65535, 64, make([][]api.Window, 8)...)
	for i := range 256 {
		for core := range 8 {
			begin := (8*i + core) * 31
			p.Cores[core] = append(p.Cores[core], api.Window{Start: uint16(begin), Len: 31, Part: uint8(i % 64)})
		}
	}
	p.Cores[7][255] = api.Window{Start: 65000, Len: 535, Part: 63, Gang: 7}
	return p
}

// few is plans with little in them: one tick, one window as long as the frame, no windows.
func few() []api.Plan {
	return []api.Plan{
		simple(1, 1, []api.Window{{Len: 1}}),
		simple(1, 64, nil, []api.Window{{Len: 1, Part: 63, Gang: 255}}, []api.Window{{Len: 1, Part: 63, Gang: 255}}, []api.Window{}),
		simple(1, 1, nil),
		simple(9, 1, []api.Window{{Len: 9}}),
		simple(9, 2, make([][]api.Window, 8)...),
		simple(9, 1, []api.Window{{Start: 8, Len: 1}}),
		simple(9, 1, []api.Window{{Len: 1}}),
		simple(9, 1, []api.Window{{Start: 4, Len: 1, Gang: 1}}),
	}
}

// small is plans of few ticks: all sorts of them.
func small() []api.Plan {
	plans := append(few(), example(), several())
	for s := source(5); len(plans) < 2000; {
		if p := s.plan(); rules.Check(p) == nil {
			plans = append(plans, p)
		}
	}
	return plans
}

// source is a row of numbers that look drawn, and are the same each time.
type source uint32

// under is the next number, below n.
func (s *source) under(n int) int {
	*s = *s*1664525 + 1013904223
	return int(*s>>8) % n
}

// plan is the next plan of few ticks, which may be valid: up to eight cores that share many of their windows.
func (s *source) plan() api.Plan {
	p := simple(uint16(1+s.under(16)), 2+s.under(5))
	for range 1 + s.under([]int{3, 8}[s.under(2)]) {
		p.Cores = append(p.Cores, s.windows(p))
	}
	return p
}

// windows is the next core's windows: some of them are those of the gangs of cores before it.
func (s *source) windows(p api.Plan) []api.Window {
	var ws []api.Window
	for begin := s.under(4); begin < int(p.Frame) && s.under(9) > 0; {
		w := api.Window{Start: uint16(begin), Len: uint16(1 + s.under(min(5, int(p.Frame)-begin))), Part: uint8(s.under(len(p.Parts)))}
		if s.under(3) == 0 {
			w.Gang = uint8(255 - s.under(250))
		}
		for _, v := range slices.Concat(p.Cores...) {
			if v.Gang != 0 && int(v.Start) >= begin && s.under(2) == 0 {
				w = v
				break
			}
		}
		ws = append(ws, w)
		begin = int(w.Start) + int(w.Len) + s.under(3)*s.under(3)
	}
	return ws
}

// any is the next plan of whatever numbers.
func (s *source) any() api.Plan {
	byte := func() uint8 { return []uint8{0, 1, 2, 63, 64, 255, uint8(s.under(256))}[s.under(7)] }
	wide := func() uint16 {
		return []uint16{0, 1, 255, 65535, uint16(s.under(65536)), uint16(s.under(20))}[s.under(6)]
	}
	p := api.Plan{Frame: wide()}
	for range s.under(12) {
		var ws []api.Window
		for range s.under(6) {
			ws = append(ws, api.Window{Start: wide(), Len: wide(), Part: byte(), Gang: byte()})
		}
		p.Cores = append(p.Cores, ws)
	}
	for range s.under(3) {
		p.Parts = append(p.Parts, api.Part{Procs: make([]uint8, s.under(2))})
	}
	return p
}

// contains is whether a tick is one of a window's.
func contains(w api.Window, tick int) bool {
	return int(w.Start) <= tick && tick < int(w.Start)+int(w.Len)
}

// served is the partition of the window in which a core is at a tick; -1: in none.
func served(p api.Plan, core, tick int) int {
	for _, w := range p.Cores[core] {
		if contains(w, tick) {
			return int(w.Part)
		}
	}
	return -1
}

// edges is the ticks of a frame at which something about its windows changes, those before and behind them, and the frame's first and last ones.
func edges(p api.Plan) []int {
	around := []int{0, 1, int(p.Frame) - 1}
	for _, w := range slices.Concat(p.Cores...) {
		begin, end := int(w.Start), int(w.Start)+int(w.Len)
		around = append(around, begin-1, begin, begin+1, end-1, end, end+1)
	}
	slices.Sort(around)
	return slices.DeleteFunc(slices.Compact(around), func(tick int) bool { return tick < 0 || tick >= int(p.Frame) })
}

// noTicks is numbers that are ticks of no frame of so many.
func noTicks(frame int) []int {
	return []int{-1, -2, frame, frame + 1, -frame, 2 * frame, 65536, 65536 + frame, math.MinInt, math.MaxInt, math.MinInt32, 1 << 32, -1 << 32, 1<<32 + frame, 1 << 16}
}

// noCores is numbers that are cores of no plan of so many.
func noCores(cores int) []int {
	return []int{-1, -2, cores, cores + 1, -cores - 1, 8, 9, 256, -256, 1 << 32, math.MinInt, math.MaxInt}
}

// The plans of these tests are valid: else nothing is promised for them.
func TestPlansAreValid(t *testing.T) {
	for i, p := range append(small(), largest()) {
		if err := rules.Check(p); err != nil {
			t.Errorf("plan %d: %v", i, err)
		}
	}
}

// P5.1: At

// at checks the result of At.
func at(t *testing.T, l []api.Window, tick, want int, has bool) {
	t.Helper()
	if i, ok := table.At(l, tick); i != want || ok != has {
		t.Errorf("At(%v, %d) = %d, %t, not %d, %t", l, tick, i, ok, want, has)
	}
}

func TestAt(t *testing.T) {
	l := []api.Window{{Start: 1, Len: 4}, {Start: 5, Len: 5, Part: 1, Gang: 1}, {Start: 12, Len: 8, Part: 2}, {Start: 20, Len: 1}}
	for tick, want := range map[int]int{1: 0, 2: 0, 4: 0, 5: 1, 6: 1, 9: 1, 12: 2, 19: 2, 20: 3} {
		at(t, l, tick, want, true)
	}
	for _, tick := range append(noTicks(21), 0, 10, 11, 21, 22) {
		at(t, l, tick, 0, false)
	}
}

// The chapter's example, and the last tick that there can be.
func TestAtOfPlans(t *testing.T) {
	l := example().Cores[1]
	at(t, l, 12, 1, true)
	at(t, l, 11, 0, false)
	l = largest().Cores[7]
	at(t, l, 64999, 0, false)
	at(t, l, 65000, 255, true)
	at(t, l, 65534, 255, true)
	at(t, l, 65535, 0, false)
}

func TestAtWithoutWindows(t *testing.T) {
	for _, tick := range append(noTicks(1), 0) {
		at(t, nil, tick, 0, false)
		at(t, []api.Window{}, tick, 0, false)
		at(t, []api.Window{{}}, tick, 0, false)
	}
}

// If several windows contain a tick it is the first one of the list, wherever it begins.
func TestAtIsTheFirst(t *testing.T) {
	l := []api.Window{{Start: 12, Len: 8}, {Start: 3, Len: 4}, {Start: 0, Len: 20}, {Start: 3, Len: 4}}
	for tick, want := range map[int]int{0: 2, 2: 2, 3: 1, 6: 1, 7: 2, 11: 2, 12: 0, 19: 0} {
		at(t, l, tick, want, true)
	}
}

// The end of a window may be beyond 65535.
func TestAtOfLongWindows(t *testing.T) {
	l := []api.Window{{Start: 65535, Len: 65535}}
	for _, tick := range []int{65535, 65536, 131069} {
		at(t, l, tick, 0, true)
	}
	for _, tick := range []int{-1, 0, 65534, 131070} {
		at(t, l, tick, 0, false)
	}
}

func TestAtEachTick(t *testing.T) {
	for _, p := range small() {
		for _, l := range p.Cores {
			for tick := -1; tick <= int(p.Frame)+1; tick++ {
				i := slices.IndexFunc(l, func(w api.Window) bool { return contains(w, tick) })
				at(t, l, tick, max(i, 0), i >= 0)
			}
		}
	}
}

// P5.1: Turn

// turns checks what each core serves at a tick.
func turns(t *testing.T, p api.Plan, tick int, want ...int) {
	t.Helper()
	if l, e := table.Turn(p, tick); e != api.OK || !slices.Equal(l, want) {
		t.Errorf("Turn(%v, %d) = %v, %d, not %v", p.Cores, tick, l, e, want)
	}
}

func TestTurn(t *testing.T) {
	p := example()
	turns(t, p, 6, 1, 1, -1) // the chapter's examples
	turns(t, p, 11, -1, -1, -1)
	for tick, want := range map[int][]int{0: {0, -1, -1}, 4: {0, -1, -1}, 5: {1, 1, -1}, 9: {1, 1, -1}, 10: {-1, -1, -1}, 12: {-1, 2, -1}, 19: {-1, 2, -1}} {
		turns(t, p, tick, want...)
	}
	turns(t, few()[0], 0, 0)
	turns(t, few()[1], 0, -1, 63, 63, -1)
	turns(t, few()[2], 0, -1)
}

func TestTurnAtEachTick(t *testing.T) {
	check := func(p api.Plan, tick int) {
		t.Helper()
		var want []int
		for core := range p.Cores {
			want = append(want, served(p, core, tick))
		}
		turns(t, p, tick, want...)
	}
	for _, p := range small() {
		for tick := range int(p.Frame) {
			check(p, tick)
		}
	}
	for _, tick := range edges(largest()) {
		check(largest(), tick)
	}
}

func TestTurnAtNoTick(t *testing.T) {
	for _, p := range append(few(), example(), several(), largest()) {
		for _, tick := range noTicks(int(p.Frame)) {
			// A frame may be so long that the number is one of its ticks.
			if 0 <= tick && tick < int(p.Frame) {
				continue
			}
			if l, e := table.Turn(p, tick); e != api.ErrTableTick || len(l) != 0 {
				t.Errorf("Turn at %d of %d ticks = %v, %d", tick, p.Frame, l, e)
			}
		}
	}
}

// P5.2

// next checks the result of Next; with an error it is 0.
func next(t *testing.T, p api.Plan, tick int, cores []int, want int, wrong api.Errno) {
	t.Helper()
	if n, e := table.Next(p, tick, cores...); n != want || e != wrong {
		t.Errorf("Next(%d: %v, %d, %v) = %d, %d, not %d, %d", p.Frame, p.Cores, tick, cores, n, e, want, wrong)
	}
}

func TestNext(t *testing.T) {
	p := example()
	for _, x := range []struct {
		tick, want int
		cores      []int
	}{
		{6, 4, []int{0}}, {6, 4, []int{0, 1}}, {10, 2, []int{1}}, {10, 10, []int{0}}, // the chapter's examples
		{0, 5, []int{0}}, {3, 2, []int{0}}, {4, 1, []int{0}}, {5, 5, []int{0}}, {9, 1, []int{0}}, // a window ends where another one begins
		{0, 5, []int{1}}, {4, 1, []int{1}}, {5, 5, []int{1}}, {11, 1, []int{1}}, {12, 8, []int{1}}, {19, 1, []int{1}}, // one ends with the frame
		{10, 2, []int{0, 1}}, {10, 2, []int{1, 0}}, {10, 2, []int{2, 1, 2, 0, 1, 1}}, {10, 10, []int{0, 2}},
		{0, 20, []int{2}}, {7, 13, []int{2}}, {19, 1, []int{2}}, // without windows
		{0, 20, nil}, {7, 13, []int{}}, {19, 1, nil}, // no cores
	} {
		next(t, p, x.tick, x.cores, x.want, api.OK)
	}
	for _, p := range few()[:3] {
		next(t, p, 0, nil, 1, api.OK)
		next(t, p, 0, []int{0}, 1, api.OK)
	}
}

func TestNextWithoutAList(t *testing.T) {
	p := example()
	for i, call := range []func() (int, api.Errno){
		func() (int, api.Errno) { return table.Next(p, 12) },
		func() (int, api.Errno) { return table.Next(p, 12, 0) },
		func() (int, api.Errno) { return table.Next(p, 12, 0, 1, 2) },
	} {
		if n, e := call(); n != 8 || e != api.OK {
			t.Errorf("call %d: %d, %d", i, n, e)
		}
	}
}

// ahead is the number of ticks that the chapter asks for, found by trying them all.
func ahead(p api.Plan, tick int, cores []int) int {
	for n := 1; ; n++ {
		then := tick + n
		if then == int(p.Frame) {
			return n
		}
		for _, core := range cores {
			for _, w := range p.Cores[core] {
				if then == int(w.Start) || then == int(w.Start)+int(w.Len) {
					return n
				}
			}
		}
	}
}

// subsets is all sets of so many cores, rising and falling.
func subsets(n int) [][]int {
	var sets [][]int
	for bits := range 1 << n {
		var set []int
		for core := range n {
			if bits>>core&1 == 1 {
				set = append(set, core)
			}
		}
		down := slices.Clone(set)
		slices.Reverse(down)
		sets = append(sets, set, down)
	}
	return sets
}

func TestNextOfEachTickAndSetOfCores(t *testing.T) {
	for i, p := range small() {
		if len(p.Cores) > 4 && i >= 100 {
			continue
		}
		for _, cores := range subsets(len(p.Cores)) {
			for tick := range int(p.Frame) {
				next(t, p, tick, cores, ahead(p, tick, cores), api.OK)
			}
		}
	}
}

func TestNextOfTheLargest(t *testing.T) {
	p := largest()
	for _, tick := range edges(p) {
		for _, cores := range [][]int{nil, {0}, {7}, {3, 4}} {
			next(t, p, tick, cores, ahead(p, tick, cores), api.OK)
		}
	}
}

func TestNextAtNoTick(t *testing.T) {
	for _, p := range append(few(), example(), several()) {
		for _, tick := range noTicks(int(p.Frame)) {
			next(t, p, tick, nil, 0, api.ErrTableTick)
			next(t, p, tick, []int{0}, 0, api.ErrTableTick)
		}
	}
}

func TestNextOfNoCore(t *testing.T) {
	for _, p := range append(few(), example(), several()) {
		for _, core := range noCores(len(p.Cores)) {
			for _, cores := range [][]int{{core}, {0, core}, {core, 0}, {0, core, 0}, {core, core}} {
				next(t, p, 0, cores, 0, api.ErrTableCore)
				next(t, p, int(p.Frame)-1, cores, 0, api.ErrTableCore)
				// What is no tick is told first.
				next(t, p, int(p.Frame), cores, 0, api.ErrTableTick)
				next(t, p, -1, cores, 0, api.ErrTableTick)
			}
		}
	}
}

// P5.3: Share and Gap

// shares checks the share and the gap of a partition.
func shares(t *testing.T, p api.Plan, part, share, gap int) {
	t.Helper()
	if n := table.Share(p, part); n != share {
		t.Errorf("Share(%d: %v, %d) = %d, not %d", p.Frame, p.Cores, part, n, share)
	}
	if n := table.Gap(p, part); n != gap {
		t.Errorf("Gap(%d: %v, %d) = %d, not %d", p.Frame, p.Cores, part, n, gap)
	}
}

func TestShareAndGap(t *testing.T) {
	p := example()
	shares(t, p, 0, 5, 15) // by one core, and not till the frame's end
	shares(t, p, 1, 10, 15)
	shares(t, p, 2, 8, 12)
	shares(t, p, 3, 0, 20) // by none
	p = several()
	shares(t, p, 0, 90, 20)
	shares(t, p, 1, 5+30+10, 15) // from 40 up to 5
	shares(t, p, 2, 0, 50)
	shares(t, p, 4, 8+8, 33) // by two cores at once, then by one: from 20 up to 3
	shares(t, p, 5, 16+6, 45)
}

// A gap may be within a frame, or continue from one into the next.
func TestGaps(t *testing.T) {
	for i, x := range []struct {
		l   []api.Window
		gap int
	}{
		{[]api.Window{{Start: 0, Len: 30}}, 0},
		{[]api.Window{{Start: 0, Len: 10}, {Start: 10, Len: 20}}, 0},
		{[]api.Window{{Start: 0, Len: 29}}, 1},
		{[]api.Window{{Start: 1, Len: 29}}, 1},
		{[]api.Window{{Start: 0, Len: 1}}, 29},
		{[]api.Window{{Start: 29, Len: 1}}, 29},
		{[]api.Window{{Start: 14, Len: 1}}, 29},
		{[]api.Window{{Start: 0, Len: 1}, {Start: 29, Len: 1}}, 28},
		{[]api.Window{{Start: 5, Len: 5}, {Start: 20, Len: 5}}, 10},
		{[]api.Window{{Start: 5, Len: 5}, {Start: 21, Len: 5}}, 11},
		{[]api.Window{{Start: 6, Len: 5}, {Start: 20, Len: 5}}, 11},
		{[]api.Window{{Start: 5, Len: 5, Part: 1}, {Start: 10, Len: 5}, {Start: 20, Len: 5, Part: 1}}, 25},
		{[]api.Window{{Start: 9, Len: 1, Part: 1}}, 30},
		{nil, 30},
	} {
		if n := table.Gap(simple(30, 2, x.l), 0); n != x.gap {
			t.Errorf("gap %d: %d, not %d", i, n, x.gap)
		}
	}
}

// Cores that serve a partition one after the other, with ticks in common or without, leave no gap between.
func TestGapsOfSeveralCores(t *testing.T) {
	gang := api.Window{Start: 8, Len: 4, Gang: 1}
	shares(t, simple(20, 1, []api.Window{{Start: 0, Len: 10}}, []api.Window{{Start: 10, Len: 10}}), 0, 20, 0)
	shares(t, simple(20, 1, []api.Window{{Start: 10, Len: 5}}, []api.Window{{Start: 5, Len: 5}}), 0, 10, 10)
	shares(t, simple(20, 1, []api.Window{gang}, []api.Window{{Start: 0, Len: 8}, gang}, []api.Window{gang}), 0, 20, 8)
}

func TestNoPartition(t *testing.T) {
	for _, p := range append(few(), example(), several(), largest()) {
		for _, part := range []int{-1, len(p.Parts), 64, 65, 255, 256, 257, 256 + 1, -256, -255, 1 << 32, 1<<32 + 1, math.MinInt, math.MaxInt} {
			shares(t, p, part, 0, int(p.Frame))
		}
	}
}

// isServed is whether a core serves a partition at a tick.
func isServed(p api.Plan, part, tick int) bool {
	for core := range p.Cores {
		if served(p, core, tick) == part {
			return true
		}
	}
	return false
}

// tickByTick is the share and the gap of a partition, found by trying all ticks, and all that a gap may begin with.
func tickByTick(p api.Plan, part int) (share, gap int) {
	frame := int(p.Frame)
	for begin := range frame {
		for core := range p.Cores {
			if served(p, core, begin) == part {
				share++
			}
		}
		n := 0
		for n < frame && !isServed(p, part, (begin+n)%frame) {
			n++
		}
		gap = max(gap, n)
	}
	return share, gap
}

func TestShareAndGapTickByTick(t *testing.T) {
	for _, p := range small() {
		for part := range len(p.Parts) + 1 {
			share, gap := tickByTick(p, part)
			shares(t, p, part, share, gap)
		}
	}
}

func TestShareAndGapOfTheLargest(t *testing.T) {
	p := largest()
	shares(t, p, 0, 4*8*31, (63*8)*31+65535-256*8*31)
	shares(t, p, 1, 4*8*31, (62*8)*31+65535-256*8*31+8*31)
	shares(t, p, 63, (4*8-1)*31+535, 63*8*31)
	shares(t, simple(65535, 1, []api.Window{{Len: 65535}}), 0, 65535, 0)
	shares(t, simple(65535, 1, nil), 0, 0, 65535)
	shares(t, simple(65535, 1, slices.Repeat([][]api.Window{{{Len: 65535, Gang: 1}}}, 8)...), 0, 8*65535, 0)
}

// P5.3: Gangs

// gangs checks the gangs of a plan.
func gangs(t *testing.T, p api.Plan, want ...api.Gang) {
	t.Helper()
	if l := table.Gangs(p); !slices.Equal(l, want) {
		t.Errorf("Gangs(%v) = %v, not %v", p.Cores, l, want)
	}
}

func TestGangs(t *testing.T) {
	gangs(t, example(), api.Gang{Gang: 1, Cores: 0b11, W: api.Window{Start: 5, Len: 5, Part: 1, Gang: 1}})
	gangs(t, several(),
		api.Gang{Gang: 1, Cores: 0b00111000, W: api.Window{Start: 10, Len: 10, Part: 1, Gang: 1}},
		api.Gang{Gang: 2, Cores: 0b01000001, W: api.Window{Start: 3, Len: 3, Part: 5, Gang: 2}},
		api.Gang{Gang: 3, Cores: 0b10001001, W: api.Window{Start: 20, Len: 30, Part: 0, Gang: 3}},
		api.Gang{Gang: 100, Cores: 0b00000001, W: api.Window{Start: 12, Len: 8, Part: 4, Gang: 100}},
		api.Gang{Gang: 200, Cores: 0b11111111, W: api.Window{Start: 1, Len: 2, Part: 5, Gang: 200}},
		api.Gang{Gang: 255, Cores: 0b10000100, W: api.Window{Start: 3, Len: 4, Part: 4, Gang: 255}})
	gangs(t, few()[1], api.Gang{Gang: 255, Cores: 0b0110, W: api.Window{Len: 1, Part: 63, Gang: 255}})
	gangs(t, largest(), api.Gang{Gang: 7, Cores: 0b10000000, W: largest().Cores[7][255]})
}

func TestNoGangs(t *testing.T) {
	gangs(t, simple(9, 1, nil))
	gangs(t, simple(9, 1, []api.Window{{Len: 9}}))
	gangs(t, simple(9, 2, []api.Window{{Len: 4}, {Start: 4, Len: 5}}, []api.Window{{Len: 4, Part: 1}}))
}

// Windows of no gang are no gang's, though they are like those of one but for that.
func TestGangsBesideOthers(t *testing.T) {
	w := api.Window{Start: 0, Len: 4, Part: 0, Gang: 9}
	alone := api.Window{Start: 4, Len: 4, Part: 0}
	gangs(t, simple(9, 2, []api.Window{w}, []api.Window{alone}, []api.Window{w}), api.Gang{Gang: 9, Cores: 0b101, W: w})
}

// All gangs that there can be, each of them on one core, in falling order.
func TestAllGangs(t *testing.T) {
	p := simple(255, 1, make([][]api.Window, 3)...)
	var want []api.Gang
	for gang := range 255 {
		w := api.Window{Start: uint16(254 - gang), Len: 1, Gang: uint8(gang + 1)}
		p.Cores[gang%3] = slices.Insert(p.Cores[gang%3], 0, w)
		want = append(want, api.Gang{Gang: w.Gang, Cores: 1 << (gang % 3), W: w})
	}
	if err := rules.Check(p); err != nil {
		t.Error(err)
	}
	gangs(t, p, want...)
}

func TestGangsOfManyPlans(t *testing.T) {
	shared := 0
	for _, p := range small() {
		var want []api.Gang
		for gang := 1; gang < 256; gang++ {
			found := api.Gang{Gang: uint8(gang)}
			for core, l := range p.Cores {
				for _, w := range l {
					if w.Gang == found.Gang {
						found.Cores, found.W = found.Cores|1<<core, w
					}
				}
			}
			if found.Cores != 0 {
				want = append(want, found)
			}
			if found.Cores&(found.Cores-1) != 0 {
				shared++
			}
		}
		gangs(t, p, want...)
	}
	if shared < 500 {
		t.Errorf("only %d gangs have several cores", shared)
	}
}

// P5.4

// steady checks that none of some cores changes what it serves from a tick up to the one that Next gives, and that one changes it then, or could.
func steady(t *testing.T, p api.Plan, tick int, cores ...int) {
	t.Helper()
	n, e := table.Next(p, tick, cores...)
	if e != api.OK || n < 1 || tick+n > int(p.Frame) {
		t.Fatalf("Next(%v, %d, %v) = %d, %d", p.Cores, tick, cores, n, e)
	}
	before, _ := table.Turn(p, tick)
	for then := tick + 1; then < tick+n; then++ {
		turn, e := table.Turn(p, then)
		for _, core := range cores {
			if e != api.OK || turn[core] != before[core] {
				t.Errorf("%v: core %d serves %v at %d, %v at %d", p.Cores, core, before[core], tick, turn[core], then)
			}
		}
	}
}

func TestNothingChangesBeforeNext(t *testing.T) {
	for _, p := range small() {
		all := make([]int, len(p.Cores))
		for core := range p.Cores {
			all[core] = core
			for tick := range int(p.Frame) {
				steady(t, p, tick, core)
			}
		}
		for tick := range int(p.Frame) {
			steady(t, p, tick, all...)
		}
	}
}

// Whoever goes from tick to tick by Next comes by every change of what a core serves, and to the frame's end.
func TestNextMissesNothing(t *testing.T) {
	for _, p := range append(small(), largest()) {
		for core := range p.Cores {
			met, l := 0, p.Cores[core]
			for tick := 0; tick < int(p.Frame); {
				if i, ok := table.At(l, tick); ok && int(l[i].Start) == tick {
					met++
				}
				n, e := table.Next(p, tick, core)
				if e != api.OK || n < 1 {
					t.Fatalf("Next(%v, %d, %d) = %d, %d", p.Cores, tick, core, n, e)
				}
				tick += n
			}
			if met != len(l) {
				t.Errorf("%v: %d windows of core %d were met", p.Cores, met, core)
			}
		}
	}
}

func TestSharesAddUp(t *testing.T) {
	for _, p := range append(small(), largest()) {
		long, all := 0, 0
		for _, w := range slices.Concat(p.Cores...) {
			long += int(w.Len)
		}
		for part := range p.Parts {
			all += table.Share(p, part)
		}
		if all != long {
			t.Errorf("%v: all shares are %d, all windows %d", p.Cores, all, long)
		}
	}
}

// P1 and the rules

// callAll makes all calls about a plan, with ordinary numbers and with others.
func callAll(p api.Plan) {
	numbers := []int{0, 1, 7, 8, 63, 64, 254, 255, 256, 65534, 65535, 65536, -1, int(p.Frame) - 1, int(p.Frame), len(p.Cores) - 1, len(p.Cores), math.MinInt, math.MaxInt}
	for _, n := range numbers {
		table.Turn(p, n)
		table.Next(p, n)
		table.Next(p, n, numbers...)
		table.Next(p, n, 0)
		table.Next(p, n, len(p.Cores)-1, 0)
		for _, l := range p.Cores[:min(len(p.Cores), 9)] {
			table.At(l, n)
		}
	}
	for _, part := range []int{-1, 0, 1, 63, 64, 255, 256} {
		table.Share(p, part)
		table.Gap(p, part)
	}
	table.Gangs(p)
}

// No plan makes a call panic, valid or not.
func TestAnyPlan(t *testing.T) {
	callAll(api.Plan{})
	callAll(api.Plan{Frame: 65535})
	callAll(simple(0, 1, []api.Window{{}}))
	callAll(simple(0, 1, []api.Window{{Start: 65535, Len: 65535, Part: 255, Gang: 255}}))
	s := source(13)
	for range 300 {
		callAll(s.any())
	}
}

// Lists that are longer than they may be are not gone through again and again.
func TestLongLists(t *testing.T) {
	const many = 1 << 17
	w := api.Window{Start: 1, Len: 65535, Part: 255, Gang: 255}
	callAll(simple(65535, 1, slices.Repeat([]api.Window{w}, many)))
	callAll(simple(65535, 1, slices.Repeat([][]api.Window{{w}}, many)...))
	callAll(simple(65535, 1, slices.Repeat([][]api.Window{slices.Repeat([]api.Window{w, {Len: 9}}, 200)}, 200)...))
}

// A core may be named as often as the caller likes.
func TestNextOfManyCores(t *testing.T) {
	p := largest()
	cores := make([]int, 1<<20)
	for i := range cores {
		cores[i] = i % 7
	}
	next(t, p, 65000, cores, 535, api.OK)
	next(t, p, 0, cores, 31, api.OK)
	next(t, p, 0, append(cores, 8), 0, api.ErrTableCore)
}

// room is a list with an element in its unused capacity.
func room[E any](es []E, e E) []E { return slices.Concat(es, []E{e})[: len(es) : len(es)+1] }

// roomy is a plan like several, whose lists of cores and of windows have an element behind them.
func roomy() api.Plan {
	p := several()
	for i, l := range p.Cores {
		p.Cores[i] = room(l, api.Window{Start: 0, Len: 60, Part: 3, Gang: 77})
	}
	p.Cores = room(p.Cores[:7], []api.Window{{Start: 20, Len: 9, Part: 3, Gang: 78}})
	return p
}

// behind is a roomy plan's windows, with the elements behind its lists.
func behind(p api.Plan) [][]api.Window {
	cores := slices.Clone(p.Cores[:cap(p.Cores)])
	for i, l := range cores {
		cores[i] = l[:cap(l)]
	}
	return cores
}

// What is behind a list is neither looked at nor changed, and nothing else is changed.
func TestArgumentsStay(t *testing.T) {
	p, same := roomy(), several()
	same.Cores = same.Cores[:7]
	cores := room([]int{6, 2}, 99)
	for tick := -1; tick <= 50; tick++ {
		turn, e := table.Turn(p, tick)
		want, wrong := table.Turn(same, tick)
		if e != wrong || !slices.Equal(turn, want) {
			t.Errorf("Turn(%d) = %v, %d, not %v, %d", tick, turn, e, want, wrong)
		}
		n, wrong := table.Next(same, tick, 6, 2)
		next(t, p, tick, cores, n, wrong)
	}
	for part := range 6 {
		shares(t, p, part, table.Share(same, part), table.Gap(same, part))
	}
	gangs(t, p, table.Gangs(same)...)
	at(t, p.Cores[1], 0, 0, false)
	if !reflect.DeepEqual(behind(p), behind(roomy())) || !plan.Same(p, same) {
		t.Error("the plan has changed")
	}
	if !slices.Equal(cores[:3], []int{6, 2, 99}) {
		t.Errorf("the cores have become %v", cores[:3])
	}
}

// What a call returns is the caller's: whoever changes it changes no other result, and no plan.
func TestResultsAreNew(t *testing.T) {
	p := several()
	turn, _ := table.Turn(p, 5)
	first := slices.Clone(turn)
	for i := range turn {
		turn[i] = 77
	}
	turns(t, p, 5, first...)
	was := table.Gangs(p)
	changed := table.Gangs(p)
	for i := range changed {
		changed[i] = api.Gang{Gang: 77}
	}
	gangs(t, p, was...)
	if !plan.Same(p, several()) {
		t.Error("the plan has changed")
	}
}

// A result stays as it is when the plan changes later.
func TestNothingIsRetained(t *testing.T) {
	p := several()
	turn, _ := table.Turn(p, 5)
	all, before := table.Gangs(p), slices.Clone(turn)
	was := slices.Clone(all)
	for _, l := range p.Cores {
		clear(l)
	}
	if !slices.Equal(turn, before) || !slices.Equal(all, was) {
		t.Errorf("%v, %v, %v", turn, before, all)
	}
}

// The result depends on nothing but the arguments: not on the calls before.
func TestAgain(t *testing.T) {
	for range 3 {
		for _, p := range []api.Plan{several(), example()} {
			callAll(p)
		}
		turns(t, example(), 6, 1, 1, -1)
		next(t, example(), 10, []int{1}, 2, api.OK)
		shares(t, example(), 2, 8, 12)
		gangs(t, example(), api.Gang{Gang: 1, Cores: 0b11, W: api.Window{Start: 5, Len: 5, Part: 1, Gang: 1}})
	}
}
