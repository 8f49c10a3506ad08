package rules_test

import (
	"errors"
	"math"
	"reflect"
	"slices"
	"testing"

	"purlin/api"
	"purlin/blob"
	"purlin/plan"
	"purlin/rules"
)

// valid is a plan that keeps all rules. Its frame has free ticks, its first two cores share a gang, partition 4 is not served, and partitions 0 and 2 exclude each other.
func valid() api.Plan {
	return api.Plan{
		Frame: 100,
		Cores: [][]api.Window{
			{{Start: 0, Len: 10, Part: 0}, {Start: 10, Len: 10, Part: 1, Gang: 5}, {Start: 30, Len: 10, Part: 0}},
			{{Start: 0, Len: 5, Part: 1}, {Start: 10, Len: 10, Part: 1, Gang: 5}, {Start: 40, Len: 60, Part: 2}},
			{{Start: 5, Len: 5, Part: 3, Gang: 6}, {Start: 20, Len: 5, Part: 1}},
			nil,
		},
		Parts: []api.Part{
			{Sems: []api.Sem{{Init: 0, Max: 1}, {Init: 255, Max: 255}}, Events: 16, Procs: []uint8{0, 63}, Acts: api.Actions{0, 1, 2}},
			{Procs: []uint8{1}},
			{Procs: []uint8{2}, Acts: api.Actions{2, 2, 2}},
			{Procs: make([]uint8, 16), Sems: slices.Repeat([]api.Sem{{Init: 1, Max: 2}}, 16)},
			{Procs: []uint8{63, 0, 63}},
		},
		Channels: []api.Channel{
			{Kind: api.Queuing, From: 0, To: 4, Size: 1, Depth: 1},
			{Kind: api.Sampling, From: 4, To: 0, Size: 32, Age: 1},
			{Kind: api.Queuing, From: 2, To: 1, Size: 32, Depth: 16},
			{Kind: api.Sampling, From: 2, To: 1, Size: 32, Age: 65535},
		},
		Pairs: []api.Pair{{A: 0, B: 2}, {A: 2, B: 4}, {A: 1, B: 2}},
	}
}

// simple is a plan of so many partitions, with nothing but one process each, and of these cores.
func simple(frame uint16, parts int, cores ...[]api.Window) api.Plan {
	return api.Plan{Frame: frame, Cores: cores, Parts: slices.Repeat([]api.Part{{Procs: []uint8{0}}}, parts)}
}

// checks checks that Check gives the failure of a number at a position, or nil if that is OK, and leaves its argument as it is.
func checks(t *testing.T, name string, p api.Plan, e api.Errno, at int) {
	t.Helper()
	before := plan.Copy(p)
	err := rules.Check(p)
	if e == api.OK {
		if err != nil {
			t.Errorf("%s: %v, not nil", name, err)
		}
	} else if f, ok := err.(*api.Failure); !ok || f == nil || f.Err != e || f.At != at || !errors.Is(err, e) {
		t.Errorf("%s: %v, not %d at %d", name, err, e, at)
	}
	if !plan.Same(p, before) {
		t.Errorf("%s: Check has changed its argument", name)
	}
}

// isValid checks that Check gives nil.
func isValid(t *testing.T, name string, p api.Plan) {
	t.Helper()
	checks(t, name, p, api.OK, 0)
}

// change is what breaks one rule of valid, and the failure that tells so.
type change struct {
	name string
	turn func(p *api.Plan)
	e    api.Errno
	at   int
}

// checkAll checks the changes, each of them alone.
func checkAll(t *testing.T, changes []change) {
	t.Helper()
	for _, c := range changes {
		p := valid()
		c.turn(&p)
		checks(t, c.name, p, c.e, c.at)
	}
}

// source is a row of numbers that look drawn, and are the same each time.
type source uint32

// under is the next number, below n.
func (s *source) under(n int) int {
	*s = *s*1664525 + 1013904223
	return int(*s>>8) % n
}

// seldom is true once in n times.
func (s *source) seldom(n int) bool { return s.under(n) == 0 }

// P4.1: plans that are valid

func TestValid(t *testing.T) {
	isValid(t, "valid", valid())
	isValid(t, "one core without windows", simple(1, 1, nil))
	isValid(t, "eight cores, and the shortest frame", simple(1, 64, slices.Repeat([][]api.Window{{}}, 8)...))
	p := simple(1, 2, []api.Window{{Len: 1, Part: 1, Gang: 255}})
	isValid(t, "a gang of one core", p)
	p.Channels, p.Pairs = []api.Channel{}, []api.Pair{}
	p.Parts[0].Sems = []api.Sem{}
	isValid(t, "empty lists", p)
}

// The chapter's examples.
func TestExamples(t *testing.T) {
	checks(t, "two cores", simple(10, 1, []api.Window{{Start: 0, Len: 4}}, []api.Window{{Start: 2, Len: 4}}), api.ErrRuleSame, 0)
	gang := []api.Window{{Start: 0, Len: 4, Gang: 1}}
	isValid(t, "a gang", simple(10, 1, gang, gang))
	checks(t, "beyond the frame", simple(10, 1, []api.Window{{Start: 8, Len: 3}}), api.ErrRuleOrder, 0)
	checks(t, "no process", api.Plan{Frame: 10, Cores: [][]api.Window{{{Start: 0, Len: 4}}}, Parts: []api.Part{{}}}, api.ErrRuleObject, 0)
}

// largest reaches each limit: eight cores with 256 windows each serve 64 partitions one after the other, and all of these exclude each other.
func largest() api.Plan {
	p := api.Plan{Frame: 65535, Cores: make([][]api.Window, 8)}
	for i := range 256 {
		for core := range 8 {
			w := api.Window{Start: uint16((8*i + core) * 31), Len: 31, Part: uint8(i % 64)}
			if core == i%8 { // each gang is of one core, as no two windows begin at one tick
				w.Gang = uint8(i)
			}
			p.Cores[core] = append(p.Cores[core], w)
		}
	}
	for range 64 {
		p.Parts = append(p.Parts, api.Part{Sems: slices.Repeat([]api.Sem{{Init: 255, Max: 255}}, 16), Events: 16, Procs: slices.Repeat([]uint8{63}, 16), Acts: api.Actions{2, 2, 2}})
		p.Channels = append(p.Channels, api.Channel{Kind: api.Sampling, From: 62, To: 63, Size: 32, Age: 65535})
	}
	for b := range 64 {
		for a := range b {
			p.Pairs = append(p.Pairs, api.Pair{A: uint8(a), B: uint8(b)})
		}
	}
	return p
}

// gangs is a plan of 255 gangs, each of eight cores.
func gangs() api.Plan {
	p := simple(512, 64, make([][]api.Window, 8)...)
	for core := range 8 {
		p.Cores[core] = append(p.Cores[core], api.Window{Len: 1, Part: uint8(core)})
		for gang := 1; gang < 256; gang++ {
			p.Cores[core] = append(p.Cores[core], api.Window{Start: uint16(2 * gang), Len: 2, Part: uint8(gang % 64), Gang: uint8(gang)})
		}
	}
	return p
}

// There is no rule about how many pairs there may be: all pairs of 64 partitions are valid.
func TestLargest(t *testing.T) {
	p := largest()
	isValid(t, "largest", p)
	p.Pairs = append(p.Pairs, p.Pairs[2000])
	checks(t, "all pairs, and one of them again", p, api.ErrRulePair, 2016)
	p = largest()
	p.Cores[7][255].Start--
	checks(t, "the last window begins one tick sooner", p, api.ErrRuleSame, 6*256+255)
	p.Cores[7][255].Part = 5
	checks(t, "and is another partition's", p, api.ErrRuleClash, slices.Index(p.Pairs, api.Pair{A: 5, B: 63}))
	p = largest()
	p.Parts[63].Acts[2] = 3
	checks(t, "an error at the very end", p, api.ErrRuleObject, 63)
}

func TestManyGangs(t *testing.T) {
	p := gangs()
	isValid(t, "gangs", p)
	p.Cores[7][255].Len--
	checks(t, "the last window is shorter", p, api.ErrRuleGang, 255)
	p.Cores[7][255].Gang = 254
	checks(t, "and of another gang", p, api.ErrRuleGang, 254)
	p = gangs()
	p.Cores[7][255].Gang = 0
	checks(t, "the last window is of no gang", p, api.ErrRuleSame, 255)
}

// P4.1: rules 1 to 4

func TestFrame(t *testing.T) {
	checkAll(t, []change{
		{"no ticks", func(p *api.Plan) { p.Frame = 0 }, api.ErrRuleFrame, 0},
		{"as many as are needed", func(p *api.Plan) { p.Frame = 100 }, api.OK, 0},
		{"the most", func(p *api.Plan) { p.Frame = 65535 }, api.OK, 0},
	})
	checks(t, "an empty plan", api.Plan{}, api.ErrRuleFrame, 0)
}

func TestNumberOfCores(t *testing.T) {
	for n := range 600 {
		e := api.ErrRuleCores
		if 1 <= n && n <= 8 {
			e = api.OK
		}
		checks(t, "cores", simple(10, 1, make([][]api.Window, n)...), e, n)
	}
	checks(t, "cores", simple(10, 1, make([][]api.Window, 1<<20)...), api.ErrRuleCores, 1<<20)
	checks(t, "nil", simple(10, 1), api.ErrRuleCores, 0)
}

func TestNumberOfPartitions(t *testing.T) {
	for n := range 600 {
		e := api.ErrRuleParts
		if 1 <= n && n <= 64 {
			e = api.OK
		}
		checks(t, "partitions", simple(10, n, nil), e, n)
	}
	checks(t, "partitions", simple(10, 1<<20, nil), api.ErrRuleParts, 1<<20)
}

// row is n windows of one tick each, one after the other.
func row(n int) []api.Window {
	ws := make([]api.Window, n)
	for i := range ws {
		ws[i] = api.Window{Start: uint16(i), Len: 1}
	}
	return ws
}

func TestNumberOfWindows(t *testing.T) {
	for core := range 8 {
		for _, n := range []int{0, 1, 255, 256} {
			p := simple(60000, 1, make([][]api.Window, 8)...)
			p.Cores[core] = row(n)
			isValid(t, "windows", p)
		}
		for _, n := range []int{257, 258, 512, 65536, 65537} {
			p := simple(60000, 1, make([][]api.Window, 8)...)
			p.Cores[core] = row(n)
			checks(t, "too many windows", p, api.ErrRuleWindows, core)
			p.Cores[7] = make([]api.Window, 300)
			checks(t, "too many windows, and on the last core", p, api.ErrRuleWindows, core)
		}
	}
}

// P4.1: rule 5

func TestOrder(t *testing.T) {
	checkAll(t, []change{
		{"no tick", func(p *api.Plan) { p.Cores[0][1].Len = 0 }, api.ErrRuleOrder, 1},
		{"no tick, first window", func(p *api.Plan) { p.Cores[2][0].Len = 0 }, api.ErrRuleOrder, 512},
		{"no tick, at the frame's end", func(p *api.Plan) { p.Cores[1][2] = api.Window{Start: 100} }, api.ErrRuleOrder, 258},
		{"ahead of the end of the one before", func(p *api.Plan) { p.Cores[0][1].Start = 9 }, api.ErrRuleOrder, 1},
		{"the one before is longer", func(p *api.Plan) { p.Cores[1][1].Len = 31 }, api.ErrRuleOrder, 258},
		{"ahead of the beginning of the one before", func(p *api.Plan) { p.Cores[0][2].Start = 0 }, api.ErrRuleOrder, 2},
		{"the same twice", func(p *api.Plan) { p.Cores[2][1] = p.Cores[2][0] }, api.ErrRuleOrder, 513},
		{"swapped", func(p *api.Plan) { slices.Reverse(p.Cores[1]) }, api.ErrRuleOrder, 257},
		{"beyond the frame", func(p *api.Plan) { p.Cores[1][2].Len = 61 }, api.ErrRuleOrder, 258},
		{"the frame is shorter", func(p *api.Plan) { p.Frame = 99 }, api.ErrRuleOrder, 258},
		{"it begins at the frame's end", func(p *api.Plan) { p.Cores[3] = []api.Window{{Start: 100, Len: 1}} }, api.ErrRuleOrder, 768},
		{"it begins beyond the frame", func(p *api.Plan) { p.Cores[3] = []api.Window{{Start: 500, Len: 1}} }, api.ErrRuleOrder, 768},
		{"the last tick alone", func(p *api.Plan) { p.Cores[3] = []api.Window{{Start: 99, Len: 1, Part: 4}} }, api.ErrRuleClash, 1},
		{"the whole frame", func(p *api.Plan) { p.Cores[0] = []api.Window{{Len: 100, Part: 4}}; p.Pairs = nil }, api.OK, 0},
		{"it begins where the one before ends", func(p *api.Plan) { p.Cores[0][2].Start = 20 }, api.OK, 0},
		{"not in turn, among the same ticks of other cores", func(p *api.Plan) { p.Cores[0], p.Cores[3] = p.Cores[3], p.Cores[0] }, api.OK, 0},
	})
}

// A window's end is no number of 16 bits: it doesn't wrap around.
func TestOrderBeyond65535(t *testing.T) {
	for _, w := range []api.Window{{Start: 65535, Len: 1}, {Start: 65535, Len: 65535}, {Start: 1, Len: 65535}, {Start: 32768, Len: 32768}, {Start: 65000, Len: 600}, {Start: 40000, Len: 40000}} {
		checks(t, "alone", simple(65535, 1, []api.Window{w}), api.ErrRuleOrder, 0)
		checks(t, "behind another one", simple(65535, 1, nil, []api.Window{{Len: 1}, w}), api.ErrRuleOrder, 257)
		checks(t, "ahead of another one", simple(65535, 1, []api.Window{w, {Start: w.Start + w.Len, Len: 1}}), api.ErrRuleOrder, 0)
	}
	isValid(t, "up to 65535", simple(65535, 1, []api.Window{{Start: 0, Len: 65534}, {Start: 65534, Len: 1}}))
	isValid(t, "65535 ticks", simple(65535, 1, []api.Window{{Start: 0, Len: 65535}}))
}

func TestPartitionOfAWindow(t *testing.T) {
	for part := range 256 {
		e := api.OK
		if part >= 7 {
			e = api.ErrRulePart
		}
		checks(t, "of seven", simple(10, 7, nil, []api.Window{{Len: 1}, {Start: 1, Len: 9, Part: uint8(part)}}), e, 257)
	}
	isValid(t, "of 64", simple(10, 64, []api.Window{{Len: 1, Part: 63}}))
	checks(t, "of 64", simple(10, 64, []api.Window{{Len: 1, Part: 64}}), api.ErrRulePart, 0)
}

// Each window is asked for its order, then for its partition, and then the next one is.
func TestOrderAndPartition(t *testing.T) {
	bad := api.Window{Start: 5, Len: 0, Part: 9}
	checks(t, "both", simple(10, 1, []api.Window{bad}), api.ErrRuleOrder, 0)
	checks(t, "the first window's partition", simple(10, 1, []api.Window{{Len: 1, Part: 9}, bad}), api.ErrRulePart, 0)
	checks(t, "the first core's partition", simple(10, 1, []api.Window{{Len: 1, Part: 9}}, []api.Window{bad}), api.ErrRulePart, 0)
	checks(t, "the first window's order", simple(10, 1, []api.Window{{Len: 11}, {Len: 1, Part: 9}}), api.ErrRuleOrder, 0)
	checks(t, "the first core's order", simple(10, 1, nil, []api.Window{{Len: 1}, {Len: 1}}, []api.Window{{Len: 1, Part: 9}}), api.ErrRuleOrder, 257)
}

// P4.1: rule 6

func TestGangTwiceOnACore(t *testing.T) {
	w := api.Window{Len: 2, Gang: 9}
	at := func(start uint16) api.Window { v := w; v.Start = start; return v }
	checks(t, "side by side", simple(20, 2, []api.Window{at(0), at(2)}), api.ErrRuleGang, 1)
	checks(t, "not side by side", simple(20, 2, nil, []api.Window{at(0), {Start: 2, Len: 2}, {Start: 4, Len: 2, Gang: 8}, at(6)}), api.ErrRuleGang, 259)
	other := at(4)
	other.Part, other.Len = 1, 7
	checks(t, "unlike", simple(20, 2, []api.Window{at(0), other}), api.ErrRuleGang, 1)
	isValid(t, "two gangs", simple(20, 2, []api.Window{at(0), {Start: 2, Len: 2, Gang: 8}}))
	isValid(t, "no gang, twice", simple(20, 2, []api.Window{{Len: 2}, {Start: 2, Len: 2}}))
	// The first of both is unlike the window of the other core, and is asked first.
	checks(t, "the first one is of a gang with another core", simple(20, 2, []api.Window{at(0), at(2)}, []api.Window{at(2)}), api.ErrRuleGang, 0)
	checks(t, "the second one is", simple(20, 2, []api.Window{at(0), at(2)}, []api.Window{at(0)}), api.ErrRuleGang, 1)
}

// Windows of a gang are alike, on whatever cores: each field alone is enough to tell them apart.
func TestGangsThatAreUnlike(t *testing.T) {
	w := api.Window{Start: 4, Len: 2, Part: 1, Gang: 9}
	unlike := []api.Window{{Start: 3, Len: 2, Part: 1, Gang: 9}, {Start: 5, Len: 2, Part: 1, Gang: 9}, {Start: 10, Len: 2, Part: 1, Gang: 9}, {Start: 4, Len: 1, Part: 1, Gang: 9}, {Start: 4, Len: 3, Part: 1, Gang: 9}, {Start: 4, Len: 2, Part: 0, Gang: 9}, {Start: 4, Len: 2, Part: 2, Gang: 9}, {Start: 12, Len: 1, Part: 0, Gang: 9}}
	for a := range 8 {
		for b := range a {
			p := simple(20, 3, make([][]api.Window, 8)...)
			p.Cores[a], p.Cores[b] = []api.Window{w}, []api.Window{{Len: 1, Part: 2}, w}
			isValid(t, "alike", p)
			for _, v := range unlike {
				p.Cores[a] = []api.Window{v}
				checks(t, "unlike", p, api.ErrRuleGang, 256*b+1)
			}
		}
	}
	p := simple(20, 3, slices.Repeat([][]api.Window{{w}}, 8)...)
	isValid(t, "eight cores", p)
	for core := range 8 {
		for _, v := range unlike {
			q := plan.Copy(p)
			q.Cores[core][0] = v
			checks(t, "one of eight", q, api.ErrRuleGang, 0)
		}
	}
	for gang := range 256 { // another number: they are windows of one partition on two cores at once
		p := simple(20, 3, []api.Window{w}, []api.Window{{Start: 4, Len: 2, Part: 1, Gang: uint8(gang)}})
		if gang != 9 {
			checks(t, "another gang", p, api.ErrRuleSame, 0)
		}
	}
}

func TestSamePartitionOnTwoCores(t *testing.T) {
	w := api.Window{Start: 4, Len: 3, Part: 1}
	for start := range uint16(12) {
		for length := range uint16(8) {
			v := api.Window{Start: start, Len: length + 1, Part: 1}
			e := api.ErrRuleSame
			if start >= 7 || start+length+1 <= 4 {
				e = api.OK
			}
			checks(t, "the lower core has the window", simple(30, 2, nil, []api.Window{w}, nil, []api.Window{v}), e, 256)
			checks(t, "the higher core has it", simple(30, 2, nil, []api.Window{v}, nil, []api.Window{w}), e, 256)
			v.Gang = 3
			checks(t, "one is of a gang", simple(30, 2, []api.Window{w}, []api.Window{v}), e, 0)
			v.Part = 0
			isValid(t, "another partition", simple(30, 2, []api.Window{w}, []api.Window{v}))
		}
	}
	checks(t, "alike, and of no gang", simple(30, 2, []api.Window{w}, []api.Window{w}), api.ErrRuleSame, 0)
	checks(t, "at the frame's end", simple(65535, 2, []api.Window{{Len: 65535}}, []api.Window{{Start: 65534, Len: 1}}), api.ErrRuleSame, 0)
	checks(t, "the second windows", simple(30, 2, []api.Window{{Len: 1}, w}, []api.Window{{Start: 1, Len: 1}, w}), api.ErrRuleSame, 1)
}

// A window is asked first beside those of its own core, then beside each of the other cores, and each time first for its gang.
func TestGangAndSamePartition(t *testing.T) {
	w := api.Window{Start: 4, Len: 3, Part: 1, Gang: 1}
	same, gang := w, w
	same.Gang, gang.Len = 2, 5
	checks(t, "both with one window", simple(30, 2, []api.Window{w}, []api.Window{gang}), api.ErrRuleGang, 0)
	checks(t, "the gang first", simple(30, 2, []api.Window{w}, []api.Window{gang}, []api.Window{same}), api.ErrRuleGang, 0)
	checks(t, "the partition first", simple(30, 2, []api.Window{w}, []api.Window{same}, []api.Window{gang}), api.ErrRuleSame, 0)
	far := api.Window{Start: 20, Len: 1, Part: 1, Gang: 1}
	checks(t, "the partition first, on one core", simple(30, 2, []api.Window{w}, []api.Window{same, far}), api.ErrRuleSame, 0)
	checks(t, "its own core first", simple(30, 2, []api.Window{{Len: 1, Gang: 1}, w}, []api.Window{same}), api.ErrRuleGang, 1)
	checks(t, "the first window's partition", simple(30, 2, []api.Window{same, far, {Start: 21, Len: 1, Gang: 1}}, []api.Window{w}), api.ErrRuleSame, 0)
	checks(t, "the first core's partition", simple(30, 2, []api.Window{w}, []api.Window{same, far, {Start: 21, Len: 1, Gang: 1}}), api.ErrRuleSame, 0)
	isValid(t, "a gang, and windows of its partition beside it", simple(30, 2, []api.Window{w, {Start: 7, Len: 2, Part: 1}}, []api.Window{{Start: 3, Len: 1, Part: 1}, w}))
}

// P4.1: rule 7

func TestPairs(t *testing.T) {
	for a := range 256 {
		for b := range 256 {
			p := simple(10, 5, nil)
			p.Pairs = []api.Pair{{A: 0, B: 1}, {A: 3, B: 4}, {A: uint8(a), B: uint8(b)}}
			e := api.ErrRulePair
			if a < b && b < 5 && p.Pairs[2] != p.Pairs[0] && p.Pairs[2] != p.Pairs[1] {
				e = api.OK
			}
			checks(t, "pairs", p, e, 2)
		}
	}
	p := simple(10, 64, nil)
	p.Pairs = []api.Pair{{A: 62, B: 63}}
	isValid(t, "the last two", p)
	p.Pairs = []api.Pair{{A: 63, B: 64}}
	checks(t, "B is none", p, api.ErrRulePair, 0)
	p.Pairs = []api.Pair{{A: 0, B: 255}}
	checks(t, "B is none", p, api.ErrRulePair, 0)
}

func TestClashes(t *testing.T) {
	for start := range uint16(10) {
		for length := range uint16(5) {
			p := simple(20, 4, []api.Window{{Len: 1, Part: 3}, {Start: 4, Len: 3, Part: 1}}, []api.Window{{Start: start, Len: length + 1, Part: 2}})
			e := api.ErrRuleClash
			if start >= 7 || start+length+1 <= 4 {
				e = api.OK
			}
			p.Pairs = []api.Pair{{A: 0, B: 1}, {A: 1, B: 2}}
			checks(t, "A on the lower core", p, e, 1)
			slices.Reverse(p.Cores)
			checks(t, "B on the lower core", p, e, 1)
			p.Pairs = []api.Pair{{A: 0, B: 1}, {A: 0, B: 2}, {A: 1, B: 3}}
			isValid(t, "other pairs", p)
		}
	}
	isValid(t, "one behind the other on one core", api.Plan{Frame: 9, Cores: [][]api.Window{{{Len: 4, Part: 1}, {Start: 4, Len: 5}}}, Parts: simple(1, 2).Parts, Pairs: []api.Pair{{A: 0, B: 1}}})
}

// Any two windows may clash, on whatever cores.
func TestClashOfAnyTwoWindows(t *testing.T) {
	for a := range 8 {
		for b := range 8 {
			if a == b {
				continue
			}
			p := simple(3000, 4, make([][]api.Window, 8)...)
			for core := range 8 {
				p.Cores[core] = []api.Window{{Start: uint16(200 * core), Len: 100}, {Start: uint16(200*core + 100), Len: 100, Part: 1}}
			}
			p.Cores[a] = append(p.Cores[a], api.Window{Start: 2990, Len: 5, Part: 2})
			p.Cores[b] = append(p.Cores[b], api.Window{Start: 2994, Len: 5, Part: 3})
			isValid(t, "no pair", p)
			p.Pairs = []api.Pair{{A: 0, B: 1}, {A: 0, B: 2}, {A: 2, B: 3}}
			checks(t, "clash", p, api.ErrRuleClash, 2)
			p.Cores[b][2].Start = 2995
			isValid(t, "one behind the other", p)
		}
	}
}

// Each pair is asked whether it is one, then for clashes, and then the next one is.
func TestPairsAndClashes(t *testing.T) {
	p := simple(9, 3, []api.Window{{Len: 1}}, []api.Window{{Len: 1, Part: 1}})
	p.Pairs = []api.Pair{{A: 0, B: 1}, {A: 1, B: 1}}
	checks(t, "a clash first", p, api.ErrRuleClash, 0)
	slices.Reverse(p.Pairs)
	checks(t, "no pair first", p, api.ErrRulePair, 0)
	p.Pairs = []api.Pair{{A: 0, B: 2}, {A: 1, B: 0}, {A: 0, B: 1}}
	checks(t, "the wrong way round", p, api.ErrRulePair, 1)
	p.Pairs = []api.Pair{{A: 0, B: 1}, {A: 0, B: 1}}
	checks(t, "the same clash twice", p, api.ErrRuleClash, 0)
	gang := []api.Window{{Len: 1, Gang: 1}}
	p = simple(9, 3, gang, gang, []api.Window{{Len: 1, Part: 1, Gang: 2}})
	p.Pairs = []api.Pair{{A: 0, B: 1}}
	checks(t, "a gang clashes too", p, api.ErrRuleClash, 0)
}

// P4.1: rule 8

// channelIsRight is the chapter's rule, field by field.
func channelIsRight(c api.Channel, parts int) bool {
	if int(c.From) >= parts || int(c.To) >= parts || c.From == c.To || c.Size < 1 || c.Size > 32 {
		return false
	}
	switch c.Kind {
	case api.Queuing:
		return slices.Contains([]uint8{1, 2, 4, 8, 16}, c.Depth) && c.Age == 0
	case api.Sampling:
		return c.Depth == 0 && c.Age != 0
	}
	return false
}

// Every value of each field of both kinds, all other fields being right, and of kinds that are none.
func TestEveryFieldOfAChannel(t *testing.T) {
	right := []api.Channel{
		{Kind: api.Queuing, From: 1, To: 2, Size: 5, Depth: 8},
		{Kind: api.Sampling, From: 2, To: 1, Size: 5, Age: 8},
		{Kind: 2, From: 1, To: 2, Size: 5, Depth: 8},
		{Kind: 3, From: 2, To: 1, Size: 5, Age: 8},
	}
	kept := 0
	check := func(c api.Channel) {
		p := simple(10, 4, nil)
		p.Channels = []api.Channel{right[0], right[1], c}
		e := api.ErrRuleChannel
		if channelIsRight(c, 4) {
			e = api.OK
			kept++
		}
		checks(t, "channel", p, e, 2)
	}
	for _, c := range right {
		for x := range 256 {
			for _, field := range []func(c *api.Channel) *uint8{
				func(c *api.Channel) *uint8 { return &c.Kind },
				func(c *api.Channel) *uint8 { return &c.From },
				func(c *api.Channel) *uint8 { return &c.To },
				func(c *api.Channel) *uint8 { return &c.Size },
				func(c *api.Channel) *uint8 { return &c.Depth },
			} {
				other := c
				*field(&other) = uint8(x)
				check(other)
			}
		}
		for age := range 65536 {
			c.Age = uint16(age)
			check(c)
		}
	}
	if want := 2*(1+3+3+32) + 5 + 1 + 1 + 65535; kept != want+2 { // + 2: the kinds that are none become the right ones
		t.Errorf("%d are right, not %d", kept, want+2)
	}
}

func TestChannels(t *testing.T) {
	checkAll(t, []change{
		{"a queue with an age", func(p *api.Plan) { p.Channels[2].Age = 1 }, api.ErrRuleChannel, 2},
		{"a queue without a depth", func(p *api.Plan) { p.Channels[0].Depth = 0 }, api.ErrRuleChannel, 0},
		{"a sampling port with a depth", func(p *api.Plan) { p.Channels[3].Depth = 1 }, api.ErrRuleChannel, 3},
		{"a sampling port without an age", func(p *api.Plan) { p.Channels[1].Age = 0 }, api.ErrRuleChannel, 1},
		{"to itself", func(p *api.Plan) { p.Channels[3].To = 2 }, api.ErrRuleChannel, 3},
		{"from no partition", func(p *api.Plan) { p.Channels[3].From = 5 }, api.ErrRuleChannel, 3},
		{"to no partition", func(p *api.Plan) { p.Channels[0].To = 5 }, api.ErrRuleChannel, 0},
		{"no bytes", func(p *api.Plan) { p.Channels[0].Size = 0 }, api.ErrRuleChannel, 0},
		{"too many bytes", func(p *api.Plan) { p.Channels[1].Size = 33 }, api.ErrRuleChannel, 1},
		{"no such kind", func(p *api.Plan) { p.Channels[1].Kind = 2 }, api.ErrRuleChannel, 1},
		{"the first one of two", func(p *api.Plan) { p.Channels[3].Size, p.Channels[1].Size = 0, 0 }, api.ErrRuleChannel, 1},
		{"the same twice", func(p *api.Plan) { p.Channels[1] = p.Channels[3] }, api.OK, 0},
	})
}

func TestNumberOfChannels(t *testing.T) {
	for _, n := range []int{0, 1, 63, 64, 65, 66, 256, 100000} {
		p := valid()
		p.Channels = slices.Repeat(p.Channels[:1], n)
		e := api.OK
		if n > 64 {
			e = api.ErrRuleChannel
		}
		checks(t, "channels", p, e, 64)
		if n > 10 {
			p.Channels[10].Size = 0
			checks(t, "one of them is wrong", p, api.ErrRuleChannel, 10)
		}
	}
}

// P4.1: rule 9

// object checks a partition, the third one of four.
func object(t *testing.T, name string, part api.Part, right bool) {
	t.Helper()
	p := simple(10, 4, nil)
	p.Parts[2] = part
	e := api.ErrRuleObject
	if right {
		e = api.OK
	}
	checks(t, name, p, e, 2)
}

func TestSemaphores(t *testing.T) {
	procs := []uint8{0}
	for first := range 256 {
		for most := range 256 {
			s := api.Sem{Init: uint8(first), Max: uint8(most)}
			object(t, "a semaphore", api.Part{Procs: procs, Sems: []api.Sem{{Init: 0, Max: 1}, s}}, most > 0 && first <= most)
		}
	}
	for _, n := range []int{0, 1, 15, 16, 17, 255, 256, 100000} {
		object(t, "semaphores", api.Part{Procs: procs, Sems: slices.Repeat([]api.Sem{{Init: 1, Max: 1}}, n)}, n <= 16)
	}
	sems := slices.Repeat([]api.Sem{{Init: 1, Max: 1}}, 16)
	for i := range sems {
		sems[i].Max = 0
		object(t, "one of 16", api.Part{Procs: procs, Sems: sems}, false)
		sems[i].Max = 1
	}
}

func TestEventsProcessesAndActions(t *testing.T) {
	one := []uint8{0}
	for x := range 256 {
		object(t, "events", api.Part{Procs: one, Events: uint8(x)}, x <= 16)
		object(t, "a priority", api.Part{Procs: []uint8{uint8(x)}}, x <= 63)
		for kind := range 3 {
			part := api.Part{Procs: one}
			part.Acts[kind] = uint8(x)
			object(t, "an action", part, x <= 2)
		}
		for i := range 16 {
			procs := slices.Repeat([]uint8{63}, 16)
			procs[i] = uint8(x)
			object(t, "one of 16 priorities", api.Part{Procs: procs}, x <= 63)
		}
	}
	for _, n := range []int{0, 1, 2, 15, 16, 17, 255, 256, 100000} {
		object(t, "processes", api.Part{Procs: make([]uint8, n)}, 1 <= n && n <= 16)
	}
	object(t, "nil", api.Part{}, false)
	object(t, "empty", api.Part{Procs: []uint8{}}, false)
}

func TestFirstPartitionThatIsWrong(t *testing.T) {
	for i := range 64 {
		p := simple(10, 64, nil)
		p.Parts[i].Procs = nil
		checks(t, "one", p, api.ErrRuleObject, i)
		p.Parts[63] = api.Part{Events: 17, Acts: api.Actions{3, 3, 3}}
		checks(t, "and the last one", p, api.ErrRuleObject, i)
	}
}

// P4.1: several rules broken at once

// oneByOne breaks each rule once, in the order of the rules.
func oneByOne() []change {
	return []change{
		{"frame", func(p *api.Plan) { p.Frame = 0 }, api.ErrRuleFrame, 0},
		{"cores", func(p *api.Plan) { p.Cores = append(p.Cores, make([][]api.Window, 5)...) }, api.ErrRuleCores, 9},
		{"partitions", func(p *api.Plan) { p.Parts = append(p.Parts, make([]api.Part, 60)...) }, api.ErrRuleParts, 65},
		{"windows", func(p *api.Plan) { p.Cores[3] = make([]api.Window, 257) }, api.ErrRuleWindows, 3},
		{"order", func(p *api.Plan) { p.Cores[0][0].Len = 11 }, api.ErrRuleOrder, 1},
		{"partition", func(p *api.Plan) { p.Cores[1][2].Part = 200 }, api.ErrRulePart, 258},
		{"gang", func(p *api.Plan) { p.Cores[0][2].Gang = 5 }, api.ErrRuleGang, 2},
		{"same", func(p *api.Plan) { p.Cores[2][0] = api.Window{Start: 4, Len: 5, Part: 1, Gang: 6} }, api.ErrRuleSame, 256},
		{"pair", func(p *api.Plan) { p.Pairs[1].B = 2 }, api.ErrRulePair, 1},
		{"clash", func(p *api.Plan) { p.Pairs[2] = api.Pair{A: 0, B: 3} }, api.ErrRuleClash, 2},
		{"channel", func(p *api.Plan) { p.Channels[2].Size = 0 }, api.ErrRuleChannel, 2},
		{"object", func(p *api.Plan) { p.Parts[1].Procs = nil }, api.ErrRuleObject, 1},
	}
}

func TestEachRuleBrokenAlone(t *testing.T) {
	all := oneByOne()
	checkAll(t, all)
	if len(all) != 12 {
		t.Errorf("%d of twelve errors", len(all))
	}
}

// Whichever rules are broken, the first one of them is told.
func TestSeveralRulesBroken(t *testing.T) {
	all := oneByOne()
	for set := 1; set < 1<<len(all); set++ {
		p := valid()
		first := len(all)
		for i := len(all) - 1; i >= 0; i-- {
			if set>>i&1 == 1 {
				all[i].turn(&p)
				first = i
			}
		}
		checks(t, all[first].name, p, all[first].e, all[first].at)
	}
}

// The chapter's rules once more: oracle lists what is wrong with a plan of few ticks, in order, and tells of overlapping by going through ticks.
func oracle(p api.Plan) []api.Failure {
	var all []api.Failure
	add := func(wrong bool, e api.Errno, at int) {
		if wrong {
			all = append(all, api.Failure{At: at, Err: e})
		}
	}
	cores, parts := len(p.Cores), len(p.Parts)
	add(p.Frame == 0, api.ErrRuleFrame, 0)
	add(cores == 0 || cores > 8, api.ErrRuleCores, cores)
	add(parts == 0 || parts > 64, api.ErrRuleParts, parts)
	for core, ws := range p.Cores {
		add(len(ws) > 256, api.ErrRuleWindows, core)
	}
	for core, ws := range p.Cores {
		for i, w := range ws {
			add(w.Len == 0 || int(w.Start)+int(w.Len) > int(p.Frame) || i > 0 && int(w.Start) < int(ws[i-1].Start)+int(ws[i-1].Len), api.ErrRuleOrder, 256*core+i)
			add(int(w.Part) >= parts, api.ErrRulePart, 256*core+i)
		}
	}
	oracleOfGangs(p, add)
	oracleOfPairs(p, add)
	for i, c := range p.Channels {
		add(i >= 64 || !channelIsRight(c, parts), api.ErrRuleChannel, i)
	}
	for i, part := range p.Parts {
		add(len(part.Sems) > 16 || part.Events > 16 || len(part.Procs) == 0 || len(part.Procs) > 16, api.ErrRuleObject, i)
		for _, s := range part.Sems {
			add(s.Max == 0 || s.Max < s.Init, api.ErrRuleObject, i)
		}
		for _, prio := range part.Procs {
			add(prio > 63, api.ErrRuleObject, i)
		}
		for _, act := range part.Acts {
			add(act > 2, api.ErrRuleObject, i)
		}
	}
	return all
}

// oracleOfGangs is rule 6.
func oracleOfGangs(p api.Plan, add func(wrong bool, e api.Errno, at int)) {
	for core, ws := range p.Cores {
		for i, w := range ws {
			for j := range i {
				add(w.Gang != 0 && ws[j].Gang == w.Gang, api.ErrRuleGang, 256*core+i)
			}
			for other := core + 1; other < len(p.Cores); other++ {
				for _, v := range p.Cores[other] {
					gang := w.Gang != 0 && w.Gang == v.Gang
					if gang && w.Start == v.Start && w.Len == v.Len && w.Part == v.Part {
						continue
					}
					add(gang, api.ErrRuleGang, 256*core+i)
					add(w.Part == v.Part && haveTick(w, v), api.ErrRuleSame, 256*core+i)
				}
			}
		}
	}
}

// oracleOfPairs is rule 7.
func oracleOfPairs(p api.Plan, add func(wrong bool, e api.Errno, at int)) {
	windows := slices.Concat(p.Cores...)
	for i, pair := range p.Pairs {
		add(int(pair.A) >= len(p.Parts) || int(pair.B) >= len(p.Parts) || pair.A >= pair.B, api.ErrRulePair, i)
		for j := range i {
			add(p.Pairs[j] == pair, api.ErrRulePair, i)
		}
		for _, v := range windows {
			for _, w := range windows {
				add(v.Part == pair.A && w.Part == pair.B && haveTick(v, w), api.ErrRuleClash, i)
			}
		}
	}
}

// haveTick is whether two windows have a tick both, told tick by tick.
func haveTick(v, w api.Window) bool {
	for tick := int(v.Start); tick < int(v.Start)+int(v.Len); tick++ {
		if contains(w, tick) {
			return true
		}
	}
	return false
}

// contains is whether a tick is one of a window's.
func contains(w api.Window, tick int) bool {
	return int(w.Start) <= tick && tick < int(w.Start)+int(w.Len)
}

// plan is the next plan of few ticks: often valid, often nearly so.
func (s *source) plan() api.Plan {
	p := simple(uint16(4+s.under(12)), 3+s.under(4))
	for range 1 + s.under(4) {
		p.Cores = append(p.Cores, s.windows(p))
	}
	for range s.under(3) {
		p.Channels = append(p.Channels, []api.Channel{{Kind: api.Queuing, From: 0, To: 1, Size: 1, Depth: 2}, {Kind: api.Sampling, From: 2, To: 0, Size: 9, Age: 5}}[s.under(2)])
	}
	for range s.under(3) {
		p.Pairs = append(p.Pairs, api.Pair{A: uint8(s.under(2)), B: uint8(2 + s.under(len(p.Parts)-2))})
	}
	for range s.under(3) {
		s.spoil(&p)
	}
	return p
}

// windows is the next core's windows: some of them are those of cores before it.
func (s *source) windows(p api.Plan) []api.Window {
	var ws []api.Window
	begin := s.under(3)
	for gang := uint8(1); begin < int(p.Frame); gang++ {
		w := api.Window{Start: uint16(begin), Len: uint16(1 + s.under(min(4, int(p.Frame)-begin))), Part: uint8(s.under(len(p.Parts)))}
		if s.seldom(3) {
			w.Gang = gang
		}
		if n := len(p.Cores); n > 0 && s.seldom(2) {
			for _, other := range p.Cores[s.under(n)] {
				if other.Gang != 0 && int(other.Start) >= begin {
					w = other
					break
				}
			}
		}
		ws = append(ws, w)
		begin = int(w.Start) + int(w.Len) + s.under(6)
	}
	return ws
}

// spoil changes something about a plan, often so that it is not valid any more.
func (s *source) spoil(p *api.Plan) {
	number := func() uint8 { return uint8([]int{0, 1, 2, 3, 16, 17, 32, 33, 63, 64, 255}[s.under(11)]) }
	core, part := s.under(len(p.Cores)), &p.Parts[s.under(len(p.Parts))]
	switch s.under(8) {
	case 0:
		p.Frame = uint16(s.under(16))
	case 1:
		if ws := p.Cores[core]; len(ws) > 0 {
			ws[s.under(len(ws))] = api.Window{Start: uint16(s.under(12)), Len: uint16(s.under(5)), Part: uint8(s.under(8)), Gang: uint8(s.under(4))}
		}
	case 2:
		if ws := p.Cores[core]; len(ws) > 0 {
			ws[s.under(len(ws))].Gang = uint8(s.under(3))
		}
	case 3:
		p.Pairs = append(p.Pairs, api.Pair{A: uint8(s.under(7)), B: uint8(s.under(8))})
	case 4:
		p.Channels = append(p.Channels, api.Channel{Kind: uint8(s.under(3)), From: uint8(s.under(4)), To: uint8(s.under(6)), Size: number(), Depth: uint8(s.under(5)), Age: uint16(s.under(2))})
	case 5:
		part.Sems = append(part.Sems, api.Sem{Init: number(), Max: number()})
	case 6:
		part.Procs, part.Events = append(part.Procs, number()), number()
	case 7:
		part.Acts[s.under(3)] = uint8(s.under(4))
		if s.seldom(9) {
			part.Procs = nil
		}
		if s.seldom(9) {
			p.Cores, p.Parts = slices.Repeat(p.Cores, 1+s.under(9)), slices.Repeat(p.Parts, 1+s.under(30))
		}
		if s.seldom(9) {
			p.Cores[core] = slices.Repeat([]api.Window{{Len: 1}}, 257)
		}
	}
}

// Check gives the first failure of the oracle's, for plans of all sorts.
func TestCheckAndOracle(t *testing.T) {
	s := source(5)
	told := map[api.Errno]int{}
	for range 40000 {
		p := s.plan()
		first := api.Failure{}
		if all := oracle(p); len(all) > 0 {
			first = all[0]
		}
		checks(t, "drawn", p, first.Err, first.At)
		told[first.Err]++
		if t.Failed() {
			t.Fatalf("of %v", p)
		}
	}
	if len(told) != 13 {
		t.Errorf("only %d of OK and the twelve errors were told", len(told))
	}
	for e, n := range told {
		if n < 20 {
			t.Errorf("error %d was told only %d times", e, n)
		}
	}
	if told[api.OK] < 2000 {
		t.Errorf("only %d plans were valid", told[api.OK])
	}
}

// P4.1: Overlap and Together

// overlap checks what Overlap gives, both ways round.
func overlap(t *testing.T, v, w api.Window, want bool) {
	t.Helper()
	if rules.Overlap(v, w) != want || rules.Overlap(w, v) != want {
		t.Errorf("Overlap(%v, %v) isn't %t", v, w, want)
	}
}

func TestOverlapOfAllShortWindows(t *testing.T) {
	for i := range 8 * 8 * 8 * 8 {
		v := api.Window{Start: uint16(i % 8), Len: uint16(i / 8 % 8), Part: 1}
		w := api.Window{Start: uint16(i / 64 % 8), Len: uint16(i / 512), Gang: 2}
		overlap(t, v, w, haveTick(v, w))
		v.Start, w.Start = v.Start+65528, w.Start+65528
		overlap(t, v, w, haveTick(v, w))
	}
}

// Ticks are counted on beyond 65535: a window doesn't wrap around to the ticks from 0 on.
func TestOverlapBeyond65535(t *testing.T) {
	last, all := api.Window{Start: 65535, Len: 65535}, api.Window{Start: 0, Len: 65535}
	overlap(t, last, all, false)
	overlap(t, last, last, true)
	overlap(t, all, all, true)
	overlap(t, last, api.Window{Start: 1, Len: 65535}, true)
	overlap(t, api.Window{Start: 65535, Len: 2}, api.Window{Start: 0, Len: 1}, false)
	overlap(t, api.Window{Start: 40000, Len: 40000}, api.Window{Start: 65000, Len: 1}, true)
	overlap(t, api.Window{Start: 40000, Len: 40000}, api.Window{Start: 0, Len: 40000}, false)
	overlap(t, api.Window{Start: 40000, Len: 25536}, api.Window{Start: 50000, Len: 60000}, true)
	overlap(t, api.Window{Start: 65534, Len: 2}, api.Window{Start: 65535, Len: 1}, true)
	overlap(t, api.Window{Start: 65534, Len: 1}, api.Window{Start: 65535, Len: 1}, false)
}

func TestOverlapOfNoTicks(t *testing.T) {
	for start := range uint16(12) {
		none := api.Window{Start: start}
		overlap(t, none, none, false)
		overlap(t, none, api.Window{Start: 0, Len: 65535}, false)
		overlap(t, none, api.Window{Start: 5, Len: 1}, false)
		overlap(t, none, api.Window{Start: 65535, Len: 65535}, false)
	}
}

// together checks what Together gives, both ways round.
func together(t *testing.T, v, w api.Window, want bool) {
	t.Helper()
	if rules.Together(v, w) != want || rules.Together(w, v) != want {
		t.Errorf("Together(%v, %v) isn't %t", v, w, want)
	}
}

func TestTogether(t *testing.T) {
	w := api.Window{Start: 300, Len: 400, Part: 5, Gang: 6}
	together(t, w, w, true)
	for gang := range 256 {
		v := w
		v.Gang = uint8(gang)
		together(t, v, v, gang != 0)
		together(t, v, w, gang == 6)
	}
	for part := range 256 {
		v := w
		v.Part = uint8(part)
		together(t, v, w, part == 5)
	}
	for n := range 65536 {
		v, u := w, w
		v.Start, u.Len = uint16(n), uint16(n)
		together(t, v, w, n == 300)
		together(t, u, w, n == 400)
	}
	together(t, api.Window{}, api.Window{}, false)
	together(t, api.Window{Gang: 1}, api.Window{Gang: 1}, true)
	together(t, api.Window{Start: 65535, Len: 65535, Part: 255, Gang: 255}, api.Window{Start: 65535, Len: 65535, Part: 255, Gang: 255}, true)
}

// P4.2

// isApart checks a plan tick by tick: what the chapter says follows from its being valid.
func isApart(t *testing.T, p api.Plan) {
	t.Helper()
	for tick := range int(p.Frame) {
		var serving []api.Window
		for core, ws := range p.Cores {
			before := len(serving)
			for _, w := range ws {
				if contains(w, tick) {
					serving = append(serving, w)
				}
			}
			if len(serving) > before+1 {
				t.Errorf("core %d serves two partitions at tick %d", core, tick)
			}
		}
		for i, v := range serving {
			for _, w := range serving[:i] {
				if v.Part == w.Part && !rules.Together(v, w) {
					t.Errorf("partition %d is served twice at tick %d", v.Part, tick)
				}
				if slices.Contains(p.Pairs, api.Pair{A: min(v.Part, w.Part), B: max(v.Part, w.Part)}) {
					t.Errorf("partitions %d and %d are both served at tick %d", v.Part, w.Part, tick)
				}
			}
		}
	}
}

func TestValidPlansAreApart(t *testing.T) {
	isApart(t, valid())
	isApart(t, largest())
	isApart(t, gangs())
	s := source(9)
	found, ganged, paired := 0, 0, 0
	for range 40000 {
		p := s.plan()
		if rules.Check(p) != nil {
			continue
		}
		isApart(t, p)
		found++
		if len(p.Pairs) > 0 {
			paired++
		}
		if hasGang(p) {
			ganged++
		}
	}
	if found < 2000 || ganged < 200 || paired < 200 {
		t.Errorf("only %d were valid, %d with gangs, %d with pairs", found, ganged, paired)
	}
}

// hasGang is whether two cores of a plan share a window.
func hasGang(p api.Plan) bool {
	for core, ws := range p.Cores {
		others := slices.Concat(p.Cores[core+1:]...)
		if slices.ContainsFunc(ws, func(w api.Window) bool { return w.Gang != 0 && slices.Contains(others, w) }) {
			return true
		}
	}
	return false
}

// P1 and the rules

// any is the next plan of whatever numbers.
func (s *source) any() api.Plan {
	byte := func() uint8 { return []uint8{0, 1, 2, 63, 64, 255, uint8(s.under(256))}[s.under(7)] }
	wide := func() uint16 { return []uint16{0, 1, 255, 65535, uint16(s.under(65536))}[s.under(5)] }
	p := api.Plan{Frame: wide()}
	for range s.under(10) {
		var ws []api.Window
		for range s.under(5) {
			ws = append(ws, api.Window{Start: wide(), Len: wide(), Part: byte(), Gang: byte()})
		}
		p.Cores = append(p.Cores, ws)
	}
	for range s.under(70) {
		p.Parts = append(p.Parts, api.Part{Sems: make([]api.Sem, s.under(2)), Events: byte(), Procs: make([]uint8, s.under(20)), Acts: api.Actions{byte(), byte(), byte()}})
	}
	for range s.under(4) {
		p.Channels = append(p.Channels, api.Channel{Kind: byte(), From: byte(), To: byte(), Size: byte(), Depth: byte(), Age: wide()})
		p.Pairs = append(p.Pairs, api.Pair{A: byte(), B: byte()})
	}
	return p
}

// No plan makes Check panic, and what it refuses it refuses with one of its failures.
func TestCheckAnyPlan(t *testing.T) {
	s := source(13)
	for range 20000 {
		p := s.any()
		err := rules.Check(p)
		e, at := blob.Why(err)
		if err != nil && (e < api.ErrRuleFrame || e > api.ErrRuleObject || at < 0 || at >= 8*256) {
			t.Errorf("Check(%v) = %v", p, err)
		}
	}
}

// Whatever is longer than a rule allows is refused without being gone through again and again.
func TestCheckLongLists(t *testing.T) {
	const many = 1 << 17
	long := func(turn func(p *api.Plan)) api.Plan {
		p := largest()
		turn(&p)
		return p
	}
	checks(t, "cores", long(func(p *api.Plan) { p.Cores = slices.Repeat(p.Cores, many/8) }), api.ErrRuleCores, many)
	checks(t, "partitions", long(func(p *api.Plan) { p.Parts = slices.Repeat(p.Parts, many/64) }), api.ErrRuleParts, many)
	checks(t, "windows", long(func(p *api.Plan) { p.Cores[7] = row(many) }), api.ErrRuleWindows, 7)
	checks(t, "pairs", long(func(p *api.Plan) { p.Pairs = slices.Repeat(p.Pairs, many/2016) }), api.ErrRulePair, 2016)
	checks(t, "channels", long(func(p *api.Plan) { p.Channels = slices.Repeat(p.Channels, many/64) }), api.ErrRuleChannel, 64)
	checks(t, "semaphores", long(func(p *api.Plan) { p.Parts[9].Sems = slices.Repeat(p.Parts[9].Sems, many) }), api.ErrRuleObject, 9)
	checks(t, "processes", long(func(p *api.Plan) { p.Parts[9].Procs = slices.Repeat(p.Parts[9].Procs, many) }), api.ErrRuleObject, 9)
}

// room is a list with an element in its unused capacity.
func room[E any](es []E, e E) []E { return slices.Concat(es, []E{e})[: len(es) : len(es)+1] }

// roomy is a plan whose lists all have an element behind them.
func roomy() api.Plan {
	p := valid()
	for i, ws := range p.Cores {
		p.Cores[i] = room(ws, api.Window{Start: math.MaxUint16, Part: 77})
	}
	for i, part := range p.Parts {
		p.Parts[i].Sems, p.Parts[i].Procs = room(part.Sems, api.Sem{Init: 77}), room(part.Procs, 77)
	}
	p.Cores, p.Parts = room(p.Cores, []api.Window{{}}), room(p.Parts, api.Part{Events: 77})
	p.Channels, p.Pairs = room(p.Channels, api.Channel{Kind: 77}), room(p.Pairs, api.Pair{A: 77})
	return p
}

// behind is a roomy plan, with the elements behind its lists in them.
func behind(p api.Plan) api.Plan {
	p = api.Plan{Frame: p.Frame, Cores: slices.Clone(p.Cores[:cap(p.Cores)]), Parts: slices.Clone(p.Parts[:cap(p.Parts)]), Channels: p.Channels[:cap(p.Channels)], Pairs: p.Pairs[:cap(p.Pairs)]}
	for i, ws := range p.Cores {
		p.Cores[i] = ws[:cap(ws)]
	}
	for i, part := range p.Parts {
		p.Parts[i].Sems, p.Parts[i].Procs = part.Sems[:cap(part.Sems)], part.Procs[:cap(part.Procs)]
	}
	return p
}

// What is behind a plan's lists is neither looked at nor changed.
func TestCheckKeepsToItsArgument(t *testing.T) {
	p := roomy()
	isValid(t, "roomy", p)
	if !reflect.DeepEqual(behind(p), behind(roomy())) {
		t.Error("Check has changed what is behind a list")
	}
	for _, c := range oneByOne() {
		p, q := roomy(), roomy()
		c.turn(&p)
		c.turn(&q)
		checks(t, c.name, p, c.e, c.at)
		if !reflect.DeepEqual(behind(p), behind(q)) {
			t.Errorf("%s: Check has changed what is behind a list", c.name)
		}
	}
}

// A failure is the caller's: whoever changes it changes no other one, nor does a plan that changes later.
func TestFailuresAreNew(t *testing.T) {
	for _, c := range oneByOne() {
		p := valid()
		c.turn(&p)
		err := rules.Check(p)
		*err.(*api.Failure) = api.Failure{At: -1, Err: -1}
		checks(t, c.name, p, c.e, c.at)
		err = rules.Check(p)
		p.Frame, p.Cores, p.Parts = 0, nil, nil
		if e, at := blob.Why(err); e != c.e || at != c.at || !blob.Is(err, c.e) {
			t.Errorf("%s: the failure has become %d at %d", c.name, e, at)
		}
	}
}

// The result depends on nothing but the plan: not on those that were checked before.
func TestCheckAgain(t *testing.T) {
	for _, c := range oneByOne() {
		p := valid()
		c.turn(&p)
		for range 3 {
			checks(t, c.name, p, c.e, c.at)
			isValid(t, "valid", valid())
		}
	}
}
