package paths_test

import (
	"math"
	"reflect"
	"slices"
	"testing"

	"purlin/api"
	"purlin/paths"
	"purlin/plan"
	"purlin/rules"
)

// parts is a plan of so many partitions, and of these channels.
func parts(n int, channels ...api.Channel) api.Plan {
	return api.Plan{Parts: make([]api.Part, n), Channels: channels}
}

// port is a sampling port.
func port(from, to uint8) api.Channel {
	return api.Channel{Kind: api.Sampling, From: from, To: to, Size: 4, Age: 9}
}

// queue is a queue.
func queue(from, to uint8) api.Channel {
	return api.Channel{Kind: api.Queuing, From: from, To: to, Size: 8, Depth: 2}
}

// example is the chapter's example.
func example() api.Plan { return parts(4, port(0, 1), port(1, 2)) }

// longer is the chapter's example with the queue that it adds.
func longer() api.Plan { return parts(4, port(0, 1), port(1, 2), queue(2, 3)) }

// ring is a plan whose channels, ports or queues, form a ring of so many partitions.
func ring(n int, next func(from, to uint8) api.Channel) api.Plan {
	p := parts(n)
	for i := range n {
		p.Channels = append(p.Channels, next(uint8(i), uint8((i+1)%n)))
	}
	return p
}

// chain is a plan whose channels lead from each partition to the one below it.
func chain(n int, next func(from, to uint8) api.Channel) api.Plan {
	p := parts(n)
	for i := range n - 1 {
		p.Channels = append(p.Channels, next(uint8(i+1), uint8(i)))
	}
	return p
}

// stars is a plan of all numbers of partitions, and of as many channels as an encoding can count: all others send to 255.
func stars() api.Plan {
	p := parts(256)
	for i := range 255 {
		p.Channels = append(p.Channels, port(uint8(i), 255))
	}
	return p
}

// whole is a plan with something in every field and list of it.
func whole() api.Plan {
	return api.Plan{
		Frame: 60000,
		Cores: [][]api.Window{
			{{Start: 1, Len: 2, Part: 3, Gang: 4}, {Start: 5, Len: 6, Part: 1}},
			{},
			{{Start: 1, Len: 2, Part: 3, Gang: 4}},
		},
		Parts: []api.Part{
			{Sems: []api.Sem{{Init: 1, Max: 2}, {Max: 3}}, Events: 4, Procs: []uint8{5, 6}, Acts: api.Actions{0, 1, 2}},
			{Procs: []uint8{7}},
			{Sems: []api.Sem{{Init: 8, Max: 9}}},
			{Events: 10, Acts: api.Actions{2, 2, 2}},
		},
		Channels: []api.Channel{port(0, 1), port(9, 1), queue(1, 2), port(2, 3), port(1, 9), port(2, 3), queue(0, 1)},
		Pairs:    []api.Pair{{A: 0, B: 1}, {A: 3, B: 2}, {A: 1, B: 200}},
	}
}

// few is plans with little in them: no partitions, no channels, a ring, a chain, ends that are no partitions.
func few() []api.Plan {
	return []api.Plan{
		{}, parts(1), parts(3), parts(0, port(0, 0), queue(0, 1)),
		parts(1, port(0, 0)), parts(1, queue(0, 0)), parts(1, port(0, 1)), parts(1, queue(1, 0)),
		parts(2, port(0, 1)), parts(2, queue(0, 1)), parts(2, port(1, 0)), parts(2, queue(1, 0)),
		parts(2, port(0, 2), port(2, 1)), parts(2, queue(0, 2), queue(1, 2)),
		ring(2, port), ring(5, port), ring(5, queue), chain(5, port), chain(5, queue),
		example(), longer(), whole(),
	}
}

// small is plans of few partitions: all sorts of them, with ends that are no partitions, and kinds that are neither port nor queue.
func small() []api.Plan {
	plans := few()
	for s := source(6); len(plans) < 3000; {
		plans = append(plans, s.plan())
	}
	return plans
}

// source is a row of numbers that look drawn, and are the same each time.
type source uint32

// under is the next number, below n.
func (s *source) under(n int) int {
	*s = *s*1664525 + 1013904223
	return int(*s>>8) % n
}

// plan is the next plan.
func (s *source) plan() api.Plan {
	n := s.under(8)
	p := parts(n)
	for range s.under(10) {
		p.Channels = append(p.Channels, s.channel(n))
	}
	for range s.under(4) {
		p.Pairs = append(p.Pairs, api.Pair{A: uint8(s.under(n + 2)), B: uint8(s.under(n + 2))})
	}
	return p
}

// channel is the next channel, among so many partitions.
func (s *source) channel(n int) api.Channel {
	c := api.Channel{Kind: []uint8{0, 1, 1, 1, 1, 2, 255}[s.under(7)], From: uint8(s.under(n + 1)), To: uint8(s.under(n + 1)), Size: uint8(s.under(256))}
	if s.under(9) == 0 {
		c.From = []uint8{64, 128, 255}[s.under(3)]
	}
	return c
}

// noParts is numbers that are partitions of no plan of so many.
func noParts(n int) []int {
	return []int{-1, -2, n, n + 1, -n - 1, n + 256, n + 65536, -256, math.MinInt, math.MaxInt, math.MinInt32, 1 << 32, 1<<32 + 1, -1 << 32}
}

// The closure of the definition

// isOne is whether a channel's end is a partition of a plan.
func isOne(p api.Plan, end uint8) bool { return int(end) < len(p.Parts) }

// counts is whether a channel is between partitions.
func counts(p api.Plan, c api.Channel) bool { return isOne(p, c.From) && isOne(p, c.To) }

// matrix is which partitions have a path to which others, found another way: whoever has one over a partition has one.
func matrix(p api.Plan) [][]bool {
	n := len(p.Parts)
	m := make([][]bool, n)
	for a := range n {
		m[a] = make([]bool, n)
		m[a][a] = true
	}
	for _, c := range p.Channels {
		if counts(p, c) {
			m[c.From][c.To] = true
			m[c.To][c.From] = m[c.To][c.From] || c.Kind == 0
		}
	}
	for over := range n {
		for a := range n {
			for b := range n {
				m[a][b] = m[a][b] || m[a][over] && m[over][b]
			}
		}
	}
	return m
}

// column is which partitions have a path to one, by a matrix.
func column(m [][]bool, part int) []bool {
	l := make([]bool, len(m))
	for a := range m {
		l[a] = m[a][part]
	}
	return l
}

// set is which of n partitions are among some.
func set(n int, members ...int) []bool {
	l := make([]bool, n)
	for _, part := range members {
		l[part] = true
	}
	return l
}

// all is the numbers from 0 on, below n.
func all(n int) []int {
	l := make([]int, n)
	for i := range l {
		l[i] = i
	}
	return l
}

// first is as much of a list as a message needs.
func first[E any](l []E) []E { return l[:min(len(l), 64)] }

// P6.1: Into and Outof

// into checks the result of Into.
func into(t *testing.T, p api.Plan, part int, want []bool) {
	t.Helper()
	if l, e := paths.Into(p, part); e != api.OK || !slices.Equal(l, want) {
		t.Errorf("Into(%d: %v, %d) = %v, %d, not %v", len(p.Parts), first(p.Channels), part, first(l), e, first(want))
	}
}

// outof checks the result of Outof.
func outof(t *testing.T, p api.Plan, part int, want []bool) {
	t.Helper()
	if l, e := paths.Outof(p, part); e != api.OK || !slices.Equal(l, want) {
		t.Errorf("Outof(%d: %v, %d) = %v, %d, not %v", len(p.Parts), first(p.Channels), part, first(l), e, first(want))
	}
}

// both checks the members of what Into and Outof return.
func both(t *testing.T, p api.Plan, part int, from, to []int) {
	t.Helper()
	into(t, p, part, set(len(p.Parts), from...))
	outof(t, p, part, set(len(p.Parts), to...))
}

func TestExample(t *testing.T) {
	p := example()
	both(t, p, 0, []int{0}, []int{0, 1, 2})
	both(t, p, 1, []int{0, 1}, []int{1, 2})
	both(t, p, 2, []int{0, 1, 2}, []int{2})
	both(t, p, 3, []int{3}, []int{3})
	p = longer()
	both(t, p, 0, []int{0}, []int{0, 1, 2, 3})
	both(t, p, 1, []int{0, 1}, []int{1, 2, 3})
	both(t, p, 2, []int{0, 1, 2, 3}, []int{2, 3})
	both(t, p, 3, []int{0, 1, 2, 3}, []int{2, 3})
}

// Without channels a partition influences itself only.
func TestNoChannels(t *testing.T) {
	for _, n := range []int{1, 2, 64, 255, 256, 257} {
		for _, part := range []int{0, n / 2, n - 1} {
			both(t, parts(n), part, []int{part}, []int{part})
		}
	}
}

// A sampling port counts in one direction, a queue in both; so does what is neither in one, as it is no queue.
func TestKinds(t *testing.T) {
	both(t, parts(2, port(0, 1)), 0, []int{0}, []int{0, 1})
	both(t, parts(2, port(0, 1)), 1, []int{0, 1}, []int{1})
	both(t, parts(2, port(1, 0)), 0, []int{0, 1}, []int{0})
	for part := range 2 {
		both(t, parts(2, queue(0, 1)), part, []int{0, 1}, []int{0, 1})
		both(t, parts(2, queue(1, 0)), part, []int{0, 1}, []int{0, 1})
	}
	for kind := 1; kind < 256; kind++ {
		p := parts(2, api.Channel{Kind: uint8(kind), To: 1})
		both(t, p, 0, []int{0}, []int{0, 1})
		both(t, p, 1, []int{0, 1}, []int{1})
	}
}

// Nothing of a channel but its kind and its ends matters for paths.
func TestOtherFields(t *testing.T) {
	for _, kind := range []uint8{api.Queuing, api.Sampling} {
		want := parts(3, api.Channel{Kind: kind, From: 1, To: 2})
		for _, c := range []api.Channel{{Size: 255, Depth: 255, Age: 65535}, {Size: 1}, {Depth: 1}, {Age: 1}} {
			c.Kind, c.From, c.To = kind, 1, 2
			for part := range 3 {
				l, _ := paths.Into(want, part)
				into(t, parts(3, c), part, l)
				l, _ = paths.Outof(want, part)
				outof(t, parts(3, c), part, l)
			}
		}
	}
}

// A path along several channels: ports all the same way, or with queues between that lead the other way.
func TestSeveralChannels(t *testing.T) {
	p := parts(6, port(4, 2), queue(5, 4), port(2, 0), queue(0, 3))
	both(t, p, 5, []int{4, 5}, []int{0, 2, 3, 4, 5})
	both(t, p, 4, []int{4, 5}, []int{0, 2, 3, 4, 5})
	both(t, p, 2, []int{2, 4, 5}, []int{0, 2, 3})
	both(t, p, 0, []int{0, 2, 3, 4, 5}, []int{0, 3})
	both(t, p, 3, []int{0, 2, 3, 4, 5}, []int{0, 3})
	both(t, p, 1, []int{1}, []int{1})
	// Two that send to the same one, or receive from the same one, don't influence each other.
	both(t, parts(3, port(0, 1), port(2, 1)), 0, []int{0}, []int{0, 1})
	both(t, parts(3, port(1, 0), port(1, 2)), 2, []int{1, 2}, []int{2})
	both(t, parts(3, queue(0, 1), queue(2, 1)), 0, []int{0, 1, 2}, []int{0, 1, 2})
}

func TestRings(t *testing.T) {
	for _, n := range []int{1, 2, 3, 64, 255, 256} {
		for _, kind := range []func(from, to uint8) api.Channel{port, queue} {
			for _, part := range []int{0, n / 2, n - 1} {
				both(t, ring(n, kind), part, all(n), all(n))
			}
		}
	}
	p := ring(4, port)
	p.Parts = make([]api.Part, 6)
	p.Channels = append(p.Channels, port(2, 5), port(4, 0))
	both(t, p, 1, []int{0, 1, 2, 3, 4}, []int{0, 1, 2, 3, 5})
	both(t, p, 4, []int{4}, all(6))
	both(t, p, 5, all(6), []int{5})
}

// A ring that lacks one channel is a chain.
func TestChains(t *testing.T) {
	for _, n := range []int{2, 3, 64, 255, 256} {
		p, queues := chain(n, port), chain(n, queue)
		for _, part := range []int{0, n / 2, n - 1} {
			both(t, p, part, all(n)[part:], all(part+1))
			both(t, queues, part, all(n), all(n))
		}
		slices.Reverse(p.Channels)
		for _, part := range []int{0, n / 2, n - 1} {
			both(t, p, part, all(n)[part:], all(part+1))
		}
	}
}

func TestChannelsBetweenTheSameTwo(t *testing.T) {
	p := parts(3, port(0, 1), port(0, 1), port(0, 1))
	both(t, p, 0, []int{0}, []int{0, 1})
	both(t, p, 1, []int{0, 1}, []int{1})
	for _, c := range []api.Channel{port(1, 0), queue(0, 1), queue(1, 0)} {
		for _, p := range []api.Plan{parts(3, port(0, 1), c), parts(3, c, port(0, 1)), parts(3, port(0, 1), c, port(0, 1))} {
			both(t, p, 0, []int{0, 1}, []int{0, 1})
			both(t, p, 1, []int{0, 1}, []int{0, 1})
			both(t, p, 2, []int{2}, []int{2})
		}
	}
}

func TestChannelToItself(t *testing.T) {
	for _, c := range []api.Channel{port(1, 1), queue(1, 1)} {
		p := parts(3, c)
		for part := range 3 {
			both(t, p, part, []int{part}, []int{part})
		}
		p = parts(3, c, port(0, 1))
		both(t, p, 1, []int{0, 1}, []int{1})
		both(t, p, 0, []int{0}, []int{0, 1})
	}
}

// No path leads over what is no partition.
func TestChannelsOfNoPartition(t *testing.T) {
	for _, none := range []uint8{3, 4, 64, 255} {
		for _, kind := range []func(from, to uint8) api.Channel{port, queue} {
			p := parts(3, kind(0, none), kind(none, 1), kind(1, none), kind(none, none), kind(none, 0))
			for part := range 3 {
				both(t, p, part, []int{part}, []int{part})
			}
			p.Channels = append(p.Channels, port(2, 1))
			both(t, p, 1, []int{1, 2}, []int{1})
			both(t, p, 2, []int{2}, []int{1, 2})
			both(t, p, 0, []int{0}, []int{0})
		}
	}
}

// The greatest number that a channel can name, and partitions beyond it: these are not the ones whose numbers have the same last byte.
func TestManyPartitions(t *testing.T) {
	p := stars()
	both(t, p, 255, all(256), []int{255})
	both(t, p, 0, []int{0}, []int{0, 255})
	both(t, p, 254, []int{254}, []int{254, 255})
	p.Parts = p.Parts[:255]
	for _, part := range []int{0, 1, 254} {
		both(t, p, part, []int{part}, []int{part})
	}
	p = parts(600, port(0, 1), queue(1, 44), port(255, 0))
	for _, part := range []int{256, 257, 300, 511, 512, 599} {
		both(t, p, part, []int{part}, []int{part})
	}
	both(t, p, 44, []int{0, 1, 44, 255}, []int{1, 44})
	both(t, p, 255, []int{255}, []int{0, 1, 44, 255})
}

func TestPathsOfManyPlans(t *testing.T) {
	seen := map[bool]int{}
	for _, p := range append(small(), stars(), ring(40, port)) {
		m := matrix(p)
		for part := range p.Parts {
			into(t, p, part, column(m, part))
			outof(t, p, part, m[part])
			for _, is := range m[part] {
				seen[is]++
			}
		}
	}
	if seen[true] < 10000 || seen[false] < 10000 {
		t.Errorf("too few pairs with a path, or without: %v", seen)
	}
}

// P6.1: Apart

// apart checks the result of Apart, in either order.
func apart(t *testing.T, p api.Plan, a, b int, want bool) {
	t.Helper()
	for _, x := range [][2]int{{a, b}, {b, a}} {
		if is, e := paths.Apart(p, x[0], x[1]); is != want || e != api.OK {
			t.Errorf("Apart(%d: %v, %d, %d) = %t, %d", len(p.Parts), first(p.Channels), x[0], x[1], is, e)
		}
	}
}

func TestApart(t *testing.T) {
	apart(t, example(), 0, 3, true)
	apart(t, example(), 2, 0, false)
	apart(t, example(), 0, 1, false)
	apart(t, example(), 3, 3, false) // there is a path to itself
	apart(t, longer(), 0, 3, false)
	apart(t, parts(3, port(0, 1), port(2, 1)), 0, 2, true)
	apart(t, parts(3, port(1, 0), port(1, 2)), 0, 2, true)
	apart(t, parts(3, queue(1, 0), port(1, 2)), 0, 2, false)
	apart(t, parts(2), 0, 1, true)
	apart(t, parts(2, port(0, 2), port(2, 1)), 0, 1, true)
	apart(t, parts(1), 0, 0, false)
	apart(t, stars(), 0, 254, true)
	apart(t, stars(), 0, 255, false)
	apart(t, parts(600, port(0, 1)), 256, 257, true)
	apart(t, parts(600, port(0, 1)), 599, 599, false)
}

func TestApartOfManyPlans(t *testing.T) {
	for _, p := range small() {
		m := matrix(p)
		for a := range p.Parts {
			for b := range a + 1 {
				apart(t, p, a, b, !m[a][b] && !m[b][a])
			}
		}
	}
}

// P6.1 and P6.3: numbers that are no partitions

// refused checks that the calls about a number return the error, and nothing else.
func refused(t *testing.T, p api.Plan, part int) {
	t.Helper()
	if l, e := paths.Into(p, part); len(l) != 0 || e != api.ErrPathPart {
		t.Errorf("Into(%d parts, %d) = %v, %d", len(p.Parts), part, l, e)
	}
	if l, e := paths.Outof(p, part); len(l) != 0 || e != api.ErrPathPart {
		t.Errorf("Outof(%d parts, %d) = %v, %d", len(p.Parts), part, l, e)
	}
	if q, e := paths.Without(p, part); !plan.Same(q, api.Plan{}) || e != api.ErrPathPart {
		t.Errorf("Without(%d parts, %d) = %v, %d", len(p.Parts), part, q, e)
	}
	for _, x := range [][2]int{{part, 0}, {0, part}, {part, part}, {len(p.Parts) - 1, part}, {part, len(p.Parts) - 1}, {part, -part}} {
		if is, e := paths.Apart(p, x[0], x[1]); is || e != api.ErrPathPart {
			t.Errorf("Apart(%d parts, %v) = %t, %d", len(p.Parts), x, is, e)
		}
	}
}

func TestNoPartition(t *testing.T) {
	for _, p := range append(few(), stars()) {
		for _, part := range noParts(len(p.Parts)) {
			refused(t, p, part)
		}
	}
}

func TestPlanWithoutPartitions(t *testing.T) {
	p := whole()
	p.Parts = nil
	p.Pairs = append(p.Pairs, api.Pair{})
	p.Channels = append(p.Channels, port(0, 0), queue(0, 0))
	for _, part := range append(noParts(0), 0, 1, 9, 255) {
		refused(t, p, part)
		ends(t, p, part, nil, nil)
		excludes(t, p, part, 0, false)
		excludes(t, p, part, part, false)
	}
}

// The least and the greatest partition are partitions.
func TestEndsOfTheNumbers(t *testing.T) {
	for _, n := range []int{1, 2, 64, 255, 256, 257} {
		p := parts(n)
		p.Pairs = []api.Pair{{A: 0, B: uint8(min(n, 256) - 1)}}
		for _, part := range []int{0, n - 1} {
			both(t, p, part, []int{part}, []int{part})
			apart(t, p, part, 0, part != 0)
			without(t, p, part)
			excludes(t, p, part, 0, part == min(n, 256)-1)
		}
		refused(t, p, -1)
		refused(t, p, n)
		excludes(t, p, -1, 0, false)
		excludes(t, p, n, 0, false)
	}
}

// P6.2: Excludes

// excludes checks the result of Excludes, in either order.
func excludes(t *testing.T, p api.Plan, a, b int, want bool) {
	t.Helper()
	for _, x := range [][2]int{{a, b}, {b, a}} {
		if is := paths.Excludes(p, x[0], x[1]); is != want {
			t.Errorf("Excludes(%d: %v, %d, %d) = %t", len(p.Parts), first(p.Pairs), x[0], x[1], is)
		}
	}
}

func TestExcludes(t *testing.T) {
	p := parts(5)
	excludes(t, p, 0, 1, false)
	p.Pairs = []api.Pair{{A: 0, B: 3}, {A: 4, B: 1}, {A: 2, B: 2}, {A: 0, B: 3}}
	excludes(t, p, 0, 3, true)
	excludes(t, p, 1, 4, true)
	for _, x := range [][2]int{{0, 1}, {0, 2}, {0, 4}, {1, 2}, {1, 3}, {2, 3}, {2, 4}, {3, 4}} {
		excludes(t, p, x[0], x[1], false) // the ends of two pairs are no pair
	}
	// Itself: only if a pair says so.
	excludes(t, p, 2, 2, true)
	for _, part := range []int{0, 1, 3, 4} {
		excludes(t, p, part, part, false)
	}
	// Channels don't matter.
	p.Channels = []api.Channel{port(0, 1), queue(1, 2)}
	excludes(t, p, 0, 1, false)
	excludes(t, p, 0, 3, true)
}

func TestExcludesNoPartition(t *testing.T) {
	p := parts(3)
	p.Pairs = []api.Pair{{A: 1, B: 200}, {A: 3, B: 0}, {A: 255, B: 255}, {A: 3, B: 3}, {A: 0, B: 1}, {A: 0, B: 0}}
	excludes(t, p, 1, 200, false)
	excludes(t, p, 0, 3, false)
	excludes(t, p, 3, 3, false)
	excludes(t, p, 255, 255, false)
	for _, part := range append(noParts(3), 256, 257, 1<<32, -255) {
		for _, other := range []int{0, 1, 2, part} {
			excludes(t, p, part, other, false)
		}
	}
	p = parts(600)
	p.Pairs = []api.Pair{{A: 255, B: 0}, {A: 44, B: 1}, {A: 0, B: 0}}
	excludes(t, p, 255, 0, true)
	excludes(t, p, 44, 1, true)
	for _, x := range [][2]int{{256, 255}, {255, 512}, {300, 1}, {300, 257}, {256, 256}, {256, 0}, {511, 0}} {
		excludes(t, p, x[0], x[1], false) // the last byte of these numbers is that of a pair's
	}
}

func TestExcludesOfManyPlans(t *testing.T) {
	met := 0
	for _, p := range small() {
		for a := -1; a <= len(p.Parts)+1; a++ {
			for b := -1; b <= len(p.Parts)+1; b++ {
				one := a >= 0 && b >= 0 && a < len(p.Parts) && b < len(p.Parts)
				is := one && (slices.Contains(p.Pairs, api.Pair{A: uint8(a), B: uint8(b)}) || slices.Contains(p.Pairs, api.Pair{A: uint8(b), B: uint8(a)}))
				excludes(t, p, a, b, is)
				if is {
					met++
				}
			}
		}
	}
	if met < 1000 {
		t.Errorf("only %d exclude each other", met)
	}
}

// P6.2: Ends

// ends checks the results of Ends.
func ends(t *testing.T, p api.Plan, part int, to, from []int) {
	t.Helper()
	if in, out := paths.Ends(p, part); !slices.Equal(in, to) || !slices.Equal(out, from) {
		t.Errorf("Ends(%d: %v, %d) = %v, %v, not %v, %v", len(p.Parts), first(p.Channels), part, first(in), first(out), to, from)
	}
}

func TestEnds(t *testing.T) {
	p := example()
	ends(t, p, 0, nil, []int{0})
	ends(t, p, 1, []int{0}, []int{1}) // the chapter's example
	ends(t, p, 2, []int{1}, nil)
	ends(t, p, 3, nil, nil)
	ends(t, parts(1), 0, nil, nil)
	// Both kinds, several between the same two, and one to itself, which both comes and leaves.
	p = parts(4, queue(1, 0), port(2, 2), port(1, 0), queue(0, 1), port(1, 0), queue(3, 2), api.Channel{Kind: 7, From: 2, To: 1})
	ends(t, p, 0, []int{0, 2, 4}, []int{3})
	ends(t, p, 1, []int{3, 6}, []int{0, 2, 4})
	ends(t, p, 2, []int{1, 5}, []int{1, 6})
	ends(t, p, 3, nil, []int{5})
}

// A channel one of whose ends is no partition is ignored: of the other end, too.
func TestEndsOfNoPartition(t *testing.T) {
	p := parts(3, port(0, 3), port(3, 0), queue(255, 1), port(0, 1), queue(1, 200), port(3, 3), port(2, 2))
	ends(t, p, 0, nil, []int{3})
	ends(t, p, 1, []int{3}, nil)
	ends(t, p, 2, []int{6}, []int{6})
	for _, part := range append(noParts(3), 200, 255, 256, 257, -255) {
		ends(t, p, part, nil, nil)
	}
	p.Parts = make([]api.Part, 600)
	ends(t, p, 255, nil, []int{2})
	for _, part := range []int{256, 257, 258, 259, 456, 511} {
		ends(t, p, part, nil, nil)
	}
}

func TestEndsOfManyPlans(t *testing.T) {
	for _, p := range append(small(), stars()) {
		for part := -1; part <= len(p.Parts)+1; part++ {
			var to, from []int
			for i, c := range p.Channels {
				if counts(p, c) && int(c.To) == part {
					to = append(to, i)
				}
				if counts(p, c) && int(c.From) == part {
					from = append(from, i)
				}
			}
			ends(t, p, part, to, from)
		}
	}
}

// P6.3

// rest is whether two plans are equal but for their channels.
func rest(p, q api.Plan) bool {
	p.Channels, q.Channels = nil, nil
	return plan.Same(p, q)
}

// without checks that Without returns the plan, but only with the channels given by their numbers.
func without(t *testing.T, p api.Plan, part int, kept ...int) {
	t.Helper()
	want := p
	want.Channels = nil
	for _, i := range kept {
		want.Channels = append(want.Channels, p.Channels[i])
	}
	if q, e := paths.Without(p, part); e != api.OK || !plan.Same(q, want) {
		t.Errorf("Without(%d: %v, %d) = %v, %d, not %v (the rest is the same: %t)", len(p.Parts), first(p.Channels), part, first(q.Channels), e, first(want.Channels), rest(q, want))
	}
}

func TestWithout(t *testing.T) {
	p := example()
	without(t, p, 0)
	without(t, p, 1, 0) // the chapter's example
	without(t, p, 2, 0, 1)
	without(t, p, 3)
	p = longer()
	without(t, p, 0)
	without(t, p, 1, 0)
	without(t, p, 2, 0, 1, 2) // the receiver of the queue can influence its sender
	without(t, p, 3, 0, 1, 2)
	without(t, parts(2), 1)
	without(t, parts(2, port(0, 0), queue(1, 1), port(1, 0)), 0, 0, 1, 2)
	without(t, parts(2, port(0, 0), queue(1, 1), port(1, 0)), 1, 1)
	without(t, parts(3, queue(0, 1), port(0, 2)), 0, 0)
	without(t, parts(3, queue(0, 1), port(0, 2)), 1, 0)
	// It is To from which a path must lead on: one from From is not enough.
	without(t, parts(3, port(0, 1), port(0, 2)), 2, 1)
	without(t, parts(3, port(0, 1), port(0, 1), port(0, 2), port(0, 1)), 1, 0, 1, 3)
	without(t, ring(4, port), 2, 0, 1, 2, 3)
	// Another kind of channel is one like a port.
	without(t, parts(2, api.Channel{Kind: 2, From: 0, To: 1}), 0)
	without(t, parts(2, api.Channel{Kind: 2, From: 0, To: 1}), 1, 0)
}

// Whatever else the plan has is as it was: pairs that name no partition, too.
func TestWithoutKeepsTheRest(t *testing.T) {
	p := whole()
	without(t, p, 0, 0, 2, 6)
	without(t, p, 1, 0, 2, 6)
	without(t, p, 2, 0, 2, 6)
	without(t, p, 3, 0, 2, 3, 5, 6)
	q, _ := paths.Without(p, 3)
	if q.Frame != p.Frame || !reflect.DeepEqual(q.Parts, p.Parts) || !reflect.DeepEqual(q.Pairs, p.Pairs) || len(q.Cores) != 3 || len(q.Cores[0]) != 2 {
		t.Errorf("%v has become %v", p, q)
	}
}

// A channel one of whose ends is no partition is left out, whichever end it is.
func TestWithoutChannelsOfNoPartition(t *testing.T) {
	for _, none := range []uint8{3, 64, 255} {
		for _, kind := range []func(from, to uint8) api.Channel{port, queue} {
			p := parts(3, kind(none, 1), port(0, 1), kind(1, none), kind(none, none), port(1, 1))
			without(t, p, 0)
			without(t, p, 1, 1, 4)
			without(t, p, 2)
		}
	}
	p := parts(600, port(0, 255), queue(255, 1))
	without(t, p, 255, 0, 1)
	without(t, p, 0)
	for _, part := range []int{256, 257, 511, 599} {
		without(t, p, part)
	}
}

func TestWithoutOfTheLargest(t *testing.T) {
	p := stars()
	without(t, p, 255, all(255)...)
	without(t, p, 0)
	p = ring(255, queue)
	without(t, p, 0, all(255)...)
	without(t, p, 254, all(255)...)
	p = chain(256, port)
	without(t, p, 0, all(255)...)
	without(t, p, 100, all(255)[100:]...)
	without(t, p, 255)
}

func TestWithoutOfManyPlans(t *testing.T) {
	kept, gone := 0, 0
	for _, p := range small() {
		m := matrix(p)
		for part := range p.Parts {
			var l []int
			for i, c := range p.Channels {
				if counts(p, c) && m[c.To][part] {
					l = append(l, i)
				}
			}
			without(t, p, part, l...)
			kept, gone = kept+len(l), gone+len(p.Channels)-len(l)
		}
	}
	if kept < 1000 || gone < 1000 {
		t.Errorf("too few channels are kept, or left out: %d, %d", kept, gone)
	}
}

// change changes all that a plan holds.
func change(p api.Plan) {
	for _, l := range p.Cores {
		for i := range l {
			l[i] = api.Window{Start: 77, Len: 77, Part: 77, Gang: 77}
		}
	}
	for i, part := range p.Parts {
		for j := range part.Sems {
			part.Sems[j] = api.Sem{Init: 77, Max: 77}
		}
		for j := range part.Procs {
			part.Procs[j] = 77
		}
		p.Parts[i] = api.Part{Events: 77}
	}
	for i := range p.Channels {
		p.Channels[i] = api.Channel{Kind: 77}
	}
	for i := range p.Pairs {
		p.Pairs[i] = api.Pair{A: 77, B: 77}
	}
	clear(p.Cores)
}

// grow puts an element behind each list of a plan, where the list may have room for it.
func grow(p api.Plan) {
	for _, l := range p.Cores {
		_ = append(l, api.Window{Len: 77})
	}
	for _, part := range p.Parts {
		_, _ = append(part.Sems, api.Sem{Max: 77}), append(part.Procs, 77)
	}
	_, _ = append(p.Cores, nil), append(p.Parts, api.Part{Events: 77})
	_, _ = append(p.Channels, api.Channel{Kind: 77}), append(p.Pairs, api.Pair{A: 77})
}

// The plan that Without returns is the caller's: it may be changed, and so may the one that was passed in.
func TestWithoutIsACopy(t *testing.T) {
	for part := range 4 {
		p := whole()
		q, _ := paths.Without(p, part)
		was := plan.Copy(q)
		grow(q)
		change(q)
		if !plan.Same(p, whole()) {
			t.Errorf("%d: the plan passed in has changed: %v", part, p)
		}
		q, _ = paths.Without(p, part)
		grow(p)
		change(p)
		if !plan.Same(q, was) {
			t.Errorf("%d: the copy has changed: %v", part, q)
		}
	}
}

// P6.4

// Whoever has a path to one that has a path to a third one has a path to that one.
func TestPathsAreTransitive(t *testing.T) {
	for _, p := range append(small()[:1000], ring(20, port), chain(20, port)) {
		for part := range p.Parts {
			to, _ := paths.Into(p, part)
			for over := range p.Parts {
				before, _ := paths.Into(p, over)
				for from := range p.Parts {
					if to[over] && before[from] && !to[from] {
						t.Errorf("%v: a path from %d to %d, and to %d, but none from the first to the last", p.Channels, from, over, part)
					}
				}
			}
		}
	}
}

// What has a path into one is what that one is reached from: both calls tell the same paths, and Apart neither of them.
func TestCallsAgree(t *testing.T) {
	for _, p := range small() {
		for a := range p.Parts {
			from, _ := paths.Into(p, a)
			to, _ := paths.Outof(p, a)
			for b := range p.Parts {
				back, _ := paths.Outof(p, b)
				if from[b] != back[a] {
					t.Errorf("%v: a path from %d to %d: %t and %t", p.Channels, b, a, from[b], back[a])
				}
				apart(t, p, a, b, !from[b] && !to[b])
			}
		}
	}
}

// subset is whether each member of a set is one of another set.
func subset(a, b []bool) bool {
	for i := range a {
		if a[i] && !b[i] {
			return false
		}
	}
	return len(a) == len(b)
}

func TestAnotherChannelRemovesNoPath(t *testing.T) {
	s := source(7)
	for _, p := range small()[:1000] {
		q := p
		q.Channels = slices.Insert(slices.Clone(p.Channels), s.under(len(p.Channels)+1), s.channel(len(p.Parts)))
		for part := range p.Parts {
			before, _ := paths.Into(p, part)
			after, _ := paths.Into(q, part)
			if !subset(before, after) {
				t.Errorf("%v, then %v: into %d %v, then %v", p.Channels, q.Channels, part, before, after)
			}
			before, _ = paths.Outof(p, part)
			after, _ = paths.Outof(q, part)
			if !subset(before, after) {
				t.Errorf("%v, then %v: out of %d %v, then %v", p.Channels, q.Channels, part, before, after)
			}
		}
	}
}

func TestWithoutKeepsPaths(t *testing.T) {
	for _, p := range append(small(), stars(), ring(255, port), chain(100, queue)) {
		for part := range p.Parts {
			if part > 9 && part < 253 {
				continue
			}
			q, _ := paths.Without(p, part)
			l, _ := paths.Into(p, part)
			into(t, q, part, l)
			without(t, q, part, all(len(q.Channels))...) // and none is left out again
		}
	}
}

// P1 and the rules

// callAll makes all calls about a plan, with ordinary numbers and with others.
func callAll(p api.Plan) {
	numbers := []int{0, 1, 7, 63, 64, 254, 255, 256, 257, -1, len(p.Parts) - 1, len(p.Parts), math.MinInt, math.MaxInt}
	for _, a := range numbers {
		paths.Into(p, a)
		paths.Outof(p, a)
		paths.Ends(p, a)
		paths.Without(p, a)
		for _, b := range numbers {
			paths.Apart(p, a, b)
			paths.Excludes(p, a, b)
		}
	}
}

// any is the next plan of whatever numbers, with all sorts of lists.
func (s *source) any() api.Plan {
	byte := func() uint8 { return []uint8{0, 1, 2, 63, 64, 255, uint8(s.under(256))}[s.under(7)] }
	p := parts([]int{0, 1, 2, 64, 65, 255, 256, 257, 300}[s.under(9)])
	for range s.under(300) {
		p.Channels = append(p.Channels, api.Channel{Kind: byte(), From: byte(), To: byte(), Size: byte(), Depth: byte(), Age: uint16(byte())})
	}
	for range s.under(300) {
		p.Pairs = append(p.Pairs, api.Pair{A: byte(), B: byte()})
	}
	return p
}

func TestAnyPlan(t *testing.T) {
	callAll(api.Plan{})
	callAll(api.Plan{Frame: 65535, Cores: [][]api.Window{nil, {{}}}, Channels: []api.Channel{{}}, Pairs: []api.Pair{{}}})
	s := source(13)
	for range 100 {
		callAll(s.any())
	}
}

// Plans needn't be valid: the paths of those that are, and of those that are not, are told the same way.
func TestPlansNeedNotBeValid(t *testing.T) {
	valid := api.Plan{Frame: 1, Cores: [][]api.Window{nil}, Parts: slices.Repeat([]api.Part{{Procs: []uint8{0}}}, 3)}
	valid.Channels = []api.Channel{port(0, 1), queue(1, 2)}
	valid.Pairs = []api.Pair{{A: 0, B: 2}}
	invalid := parts(3, valid.Channels...)
	invalid.Pairs = valid.Pairs
	if rules.Check(valid) != nil || rules.Check(invalid) == nil {
		t.Error("not a valid plan and another one")
	}
	for _, p := range []api.Plan{valid, invalid} {
		both(t, p, 0, []int{0}, []int{0, 1, 2})
		both(t, p, 1, []int{0, 1, 2}, []int{1, 2})
		apart(t, p, 0, 2, false)
		excludes(t, p, 0, 2, true)
		ends(t, p, 1, []int{0}, []int{1})
		without(t, p, 0)
		without(t, p, 1, 0, 1)
	}
}

// Lists that are longer than they may be are not gone through again and again.
func TestLongLists(t *testing.T) {
	const many = 1 << 20
	p := chain(256, port)
	p.Channels = append(slices.Repeat([]api.Channel{port(3, 3)}, many), p.Channels...)
	p.Parts = make([]api.Part, many)
	p.Pairs = append(make([]api.Pair, many), api.Pair{A: 1, B: 2})
	into(t, p, 0, set(many, all(256)...))
	outof(t, p, 255, set(many, all(256)...))
	outof(t, p, many-1, set(many, many-1))
	apart(t, p, 0, 255, false)
	excludes(t, p, 2, 1, true)
	ends(t, p, 254, []int{many + 254}, []int{many + 253})
	without(t, p, 253, many+253, many+254)
}

// room is a list with an element in its unused capacity.
func room[E any](es []E, e E) []E { return slices.Concat(es, []E{e})[: len(es) : len(es)+1] }

// roomy is a plan like whole, whose lists have an element behind them.
func roomy() api.Plan {
	p := whole()
	for i, l := range p.Cores {
		p.Cores[i] = room(l, api.Window{Start: 9, Len: 9})
	}
	for i, part := range p.Parts {
		p.Parts[i].Sems, p.Parts[i].Procs = room(part.Sems, api.Sem{Max: 9}), room(part.Procs, 9)
	}
	p.Cores = room(p.Cores, []api.Window{{Len: 9}})
	p.Parts = room(p.Parts, api.Part{Events: 9})
	p.Channels = room(p.Channels, queue(3, 0))
	p.Pairs = room(p.Pairs, api.Pair{A: 0, B: 2})
	return p
}

// behind is a roomy plan with the elements behind its lists.
func behind(p api.Plan) api.Plan {
	q := p
	q.Cores, q.Parts = slices.Clone(p.Cores[:cap(p.Cores)]), slices.Clone(p.Parts[:cap(p.Parts)])
	for i, l := range q.Cores {
		q.Cores[i] = l[:cap(l)]
	}
	for i, part := range q.Parts {
		q.Parts[i].Sems, q.Parts[i].Procs = part.Sems[:cap(part.Sems)], part.Procs[:cap(part.Procs)]
	}
	q.Channels, q.Pairs = p.Channels[:cap(p.Channels)], p.Pairs[:cap(p.Pairs)]
	return q
}

// What is behind a list is neither looked at nor changed, and nothing else is changed.
func TestArgumentsStay(t *testing.T) {
	p := roomy()
	callAll(p)
	for part := range 4 {
		m := matrix(whole())
		into(t, p, part, column(m, part))
		outof(t, p, part, m[part])
		for other := range 4 {
			apart(t, p, part, other, !m[part][other] && !m[other][part])
		}
	}
	excludes(t, p, 0, 2, false)
	ends(t, p, 0, nil, []int{0, 6})
	ends(t, p, 3, []int{3, 5}, nil)
	without(t, p, 3, 0, 2, 3, 5, 6)
	refused(t, p, 4)
	if !reflect.DeepEqual(behind(p), behind(roomy())) {
		t.Errorf("the plan has changed: %v", behind(p))
	}
}

// What a call returns is the caller's: whoever changes it, or puts something behind it, changes no other result, and no plan.
func TestResultsAreNew(t *testing.T) {
	p := whole()
	for range 2 {
		for _, call := range []func(api.Plan, int) ([]bool, api.Errno){paths.Into, paths.Outof} {
			l, _ := call(p, 1)
			for i := range l {
				l[i] = !l[i]
			}
			_ = append(l, true)
		}
		both(t, p, 1, []int{0, 1, 2}, []int{0, 1, 2, 3})
	}
	p = parts(2, port(0, 1), port(1, 1), port(1, 0))
	in, out := paths.Ends(p, 1)
	in = append(in, 77)
	in[0], in[1] = 77, 77
	if !slices.Equal(out, []int{1, 2}) {
		t.Errorf("the channels from 1 have become %v", out)
	}
	ends(t, p, 1, []int{0, 1}, []int{1, 2})
}

// A result stays as it is when the plan changes later.
func TestNothingIsRetained(t *testing.T) {
	p := whole()
	from, _ := paths.Into(p, 2)
	to, _ := paths.Outof(p, 2)
	in, out := paths.Ends(p, 1)
	change(p)
	if !slices.Equal(from, set(4, 0, 1, 2)) || !slices.Equal(to, set(4, 0, 1, 2, 3)) || !slices.Equal(in, []int{0, 6}) || !slices.Equal(out, []int{2}) {
		t.Errorf("%v, %v, %v, %v", from, to, in, out)
	}
}

// The result depends on nothing but the arguments: not on the calls before.
func TestAgain(t *testing.T) {
	for range 3 {
		for _, p := range []api.Plan{longer(), stars(), whole()} {
			callAll(p)
		}
		both(t, example(), 1, []int{0, 1}, []int{1, 2})
		apart(t, example(), 0, 3, true)
		excludes(t, whole(), 2, 3, true)
		ends(t, example(), 1, []int{0}, []int{1})
		without(t, example(), 1, 0)
	}
}
