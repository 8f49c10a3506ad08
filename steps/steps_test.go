package steps_test

import (
	"math"
	"slices"
	"testing"

	"purlin/api"
	"purlin/mem"
	"purlin/steps"
)

const top = math.MaxUint32 // the greatest word: 0 follows

// The kinds of tasks that the package makes.
const (
	adds = iota
	bumps
	swaps
	kinds // how many there are
)

var names = [kinds]string{"Adds", "Bumps", "Swaps"}

// job is what a task of the package is to do.
type job struct{ kind, at, times int }

// task is the task of a job.
func (j job) task() steps.Task {
	switch j.kind {
	case adds:
		return steps.Adds(j.at, j.times)
	case bumps:
		return steps.Bumps(j.at, j.times)
	}
	return steps.Swaps(j.at, j.times)
}

// name is the name of the call that makes the task.
func (j job) name() string { return names[j.kind] }

// tasks is the tasks of some jobs.
func tasks(jobs ...job) []steps.Task {
	var l []steps.Task
	for _, j := range jobs {
		l = append(l, j.task())
	}
	return l
}

// own is a task of the caller's own, of some steps. It notes each memory that it is given, and uses none.
type own struct {
	steps int
	got   []*mem.Memory
}

func (o *own) Step(m *mem.Memory) bool {
	o.got = append(o.got, m)
	return len(o.got) == o.steps
}

// step is a task that is a function: none of these is equal to another one, or can be asked whether it is.
type step func(m *mem.Memory) bool

func (s step) Step(m *mem.Memory) bool { return s(m) }

// endless is a task without a last step.
func endless() steps.Task { return step(func(*mem.Memory) bool { return false }) }

// memory is a memory of some words, and how often it has been used so far.
func memory(t *testing.T, words ...uint32) (*mem.Memory, int) {
	t.Helper()
	m, e := mem.New(len(words))
	if e != api.OK {
		t.Fatalf("New(%d) = %d", len(words), e)
	}
	for at, v := range words {
		m.Store(at, v)
	}
	return m, m.Count()
}

// holds checks all words of a memory, and how often it was used.
func holds(t *testing.T, m *mem.Memory, uses int, want ...uint32) {
	t.Helper()
	if got := m.Words(); !slices.Equal(got, want) {
		t.Errorf("the words are %v, not %v", got, want)
	}
	if n := m.Count(); n != uses {
		t.Errorf("the memory was used %d times, not %d", n, uses)
	}
}

// noTasks is numbers that are those of no task, of n.
func noTasks(n int) []int {
	return []int{
		-1, -2, -n - 1, -256, -65536, math.MinInt8, math.MinInt16, math.MinInt32, math.MinInt, math.MinInt + 1, -1 << 32,
		n, n + 1, 2*n + 1, 256 + n, 65536 + n, 1 << 31, 1 << 32, 1<<32 + n, math.MaxInt32, math.MaxInt - 1, math.MaxInt,
	}
}

// stands checks which tasks of a machine are done, and how many are not.
func stands(t *testing.T, x *steps.Machine, done ...bool) {
	t.Helper()
	left := 0
	for i, want := range done {
		if got := x.Done(i); got != want {
			t.Errorf("Done(%d) = %t", i, got)
		}
		if !want {
			left++
		}
	}
	for _, i := range noTasks(len(done)) {
		if x.Done(i) {
			t.Errorf("Done(%d) of %d = true", i, len(done))
		}
	}
	if n := x.Left(); n != left {
		t.Errorf("Left() = %d, not %d", n, left)
	}
}

// picks checks what a pick returns.
func picks(t *testing.T, x *steps.Machine, i int, want api.Errno) {
	t.Helper()
	if e := x.Pick(i); e != want {
		t.Errorf("Pick(%d) = %d, not %d", i, e, want)
	}
}

// runs checks how many steps a run has.
func runs(t *testing.T, x *steps.Machine, want int, list ...int) {
	t.Helper()
	if n := x.Run(list); n != want {
		t.Errorf("Run(%v) = %d, not %d", list, n, want)
	}
}

// rounds checks how many rounds there are.
func rounds(t *testing.T, x *steps.Machine, most, want int) {
	t.Helper()
	if n := x.Round(most); n != want {
		t.Errorf("Round(%d) = %d, not %d", most, n, want)
	}
}

// P8.1

// A machine of no task has none that could be picked, and nothing is left to do.
func TestNoTask(t *testing.T) {
	m, uses := memory(t, 7)
	for _, x := range []*steps.Machine{steps.New(m), steps.New(m, []steps.Task{}...), steps.New(m, []steps.Task(nil)...)} {
		stands(t, x)
		for _, i := range noTasks(0) {
			picks(t, x, i, api.ErrStepsTask)
		}
		runs(t, x, 0, 0, 1, -1)
		rounds(t, x, 5, 0)
		stands(t, x)
	}
	holds(t, m, uses, 7)
}

// A pick calls Step of its task once, with the machine's memory, till Step returns true; and never again.
func TestPick(t *testing.T) {
	for _, n := range []int{1, 2, 3, 7, 200} {
		for _, i := range []int{0, n / 2, n - 1} {
			m, _ := memory(t, 0)
			var all []*own
			var list []steps.Task
			for k := range n {
				all = append(all, &own{steps: 1 + k%3})
				list = append(list, all[k])
			}
			x, done := steps.New(m, list...), make([]bool, n)
			stands(t, x, done...)
			for k := range 5 {
				if k < all[i].steps {
					picks(t, x, i, api.OK)
				} else {
					picks(t, x, i, api.ErrStepsDone)
				}
				done[i] = k+1 >= all[i].steps
				stands(t, x, done...)
			}
			for k, o := range all {
				want := make([]*mem.Memory, 0)
				if k == i {
					want = slices.Repeat([]*mem.Memory{m}, o.steps)
				}
				if !slices.Equal(o.got, want) {
					t.Errorf("task %d of %d has got %v, not %v", k, n, o.got, want)
				}
			}
		}
	}
}

// A number of no task is an error, ahead of the picks, between and behind them, and changes nothing; it is the first of both, also when all tasks are done.
func TestPickOfNoTask(t *testing.T) {
	for _, n := range []int{1, 2, 5} {
		m, _ := memory(t, 0)
		x, total := steps.New(m, slices.Repeat([]steps.Task{endless()}, n)...), 0
		none := func() {
			t.Helper()
			left, uses := x.Left(), m.Count()
			for _, i := range noTasks(n) {
				picks(t, x, i, api.ErrStepsTask)
			}
			if x.Left() != left || m.Count() != uses {
				t.Errorf("%d tasks are left, not %d, or the memory was used", x.Left(), left)
			}
		}
		none()
		for range 3 {
			total += x.Run([]int{0, n - 1})
			none()
		}
		if total != 6 {
			t.Errorf("%d steps, not 6", total)
		}
		m, _ = memory(t, 0)
		x = steps.New(m, slices.Repeat([]steps.Task{steps.Adds(0, 0)}, n)...)
		rounds(t, x, 1, 1)
		none()
		picks(t, x, 0, api.ErrStepsDone)
		picks(t, x, n-1, api.ErrStepsDone)
	}
}

// Tasks are done in any order, each by itself.
func TestDoneAndLeft(t *testing.T) {
	m, _ := memory(t, 0)
	x := steps.New(m, &own{steps: 2}, &own{steps: 1}, &own{steps: 3})
	stands(t, x, false, false, false)
	picks(t, x, 2, api.OK)
	stands(t, x, false, false, false)
	picks(t, x, 1, api.OK)
	stands(t, x, false, true, false)
	picks(t, x, 1, api.ErrStepsDone)
	picks(t, x, 0, api.OK)
	stands(t, x, false, true, false)
	picks(t, x, 2, api.OK)
	picks(t, x, 2, api.OK)
	stands(t, x, false, true, true)
	picks(t, x, 0, api.OK)
	stands(t, x, true, true, true)
	for i := range 3 {
		picks(t, x, i, api.ErrStepsDone)
	}
	stands(t, x, true, true, true)
}

// A task of the caller's own uses the memory as it likes, and may ask the machine: its step is its last one only once Step has returned that.
func TestOwnTask(t *testing.T) {
	m, uses := memory(t, 5, 6)
	var x *steps.Machine
	moves := step(func(got *mem.Memory) bool {
		if got != m || x.Done(0) || x.Left() != 2 {
			t.Errorf("%p, not %p; %t; %d left", got, m, x.Done(0), x.Left())
		}
		word, _ := got.Take(0)
		got.Store(1, word)
		return word == 9
	})
	x = steps.New(m, moves, endless())
	picks(t, x, 0, api.OK)
	holds(t, m, uses+2, 0, 5)
	stands(t, x, false, false)
	m.Store(0, 9)
	runs(t, x, 3, 1, 0, 0, 1)
	holds(t, m, uses+5, 0, 9)
	stands(t, x, true, false)
}

// P8.2

// What Run counts: the picks without an error.
func TestRun(t *testing.T) {
	for _, c := range []struct {
		list []int
		want int
		done [3]bool
	}{
		{nil, 0, [3]bool{}},
		{[]int{}, 0, [3]bool{}},
		{[]int{0}, 1, [3]bool{true}},
		{[]int{1}, 1, [3]bool{}},
		{[]int{-1, 3, math.MinInt, math.MaxInt}, 0, [3]bool{}},
		{[]int{0, 0, 0}, 1, [3]bool{true}},
		{[]int{1, 1, 1}, 2, [3]bool{false, true}},
		{[]int{3, 0, -1, 0, 1, 3, 2, 0}, 3, [3]bool{true}},
		{[]int{-1, 2, 3, 2, 2, 2, 1, 0, 7, 1, 1, 0}, 6, [3]bool{true, true, true}},
		{[]int{2, 1, 0, 0, 1, 2, 2, 1, 0}, 6, [3]bool{true, true, true}},
	} {
		m, _ := memory(t, 0)
		x := steps.New(m, &own{steps: 1}, &own{steps: 2}, &own{steps: 3})
		runs(t, x, c.want, c.list...)
		stands(t, x, c.done[:]...)
	}
}

// It picks in the order that it is told, also what is picked more than once.
func TestRunInOrder(t *testing.T) {
	m, _ := memory(t, 0)
	var order []int
	var list []steps.Task
	for i := range 4 {
		list = append(list, step(func(*mem.Memory) bool {
			order = append(order, i)
			return false
		}))
	}
	want := []int{3, 0, 0, 2, 1, 3, 3, 2, 0}
	runs(t, steps.New(m, list...), len(want), want...)
	if !slices.Equal(order, want) {
		t.Errorf("the order is %v, not %v", order, want)
	}
}

// turns is the order in which rounds pick tasks of some steps each.
func turns(t *testing.T, most, want int, left ...int) []int {
	t.Helper()
	m, _ := memory(t, 0)
	var order []int
	var list []steps.Task
	for i, n := range left {
		list = append(list, step(func(*mem.Memory) bool {
			order = append(order, i)
			n--
			return n == 0
		}))
	}
	rounds(t, steps.New(m, list...), most, want)
	return order
}

// A round picks every task that is not done, once, in order: what the rounds are, with tasks that are done at different times, in fewer rounds than are needed and in more.
func TestRound(t *testing.T) {
	all := []int{0, 1, 2, 3, 0, 2, 3, 0, 3, 3}
	for _, c := range []struct{ most, want, picks int }{
		{0, 0, 0}, {-1, 0, 0}, {math.MinInt, 0, 0}, {1, 1, 4}, {2, 2, 7}, {3, 3, 9}, {4, 4, 10}, {5, 4, 10}, {1000, 4, 10}, {math.MaxInt32, 4, 10}, {math.MaxInt, 4, 10},
	} {
		if got := turns(t, c.most, c.want, 3, 1, 2, 4); !slices.Equal(got, all[:c.picks]) {
			t.Errorf("Round(%d) picks %v, not %v", c.most, got, all[:c.picks])
		}
	}
	if got := turns(t, 3, 1, 1); !slices.Equal(got, []int{0}) {
		t.Errorf("one task of one step: %v", got)
	}
	if got := turns(t, 9, 3, 1, 3, 1); !slices.Equal(got, []int{0, 1, 2, 1, 1}) {
		t.Errorf("a task that is done last: %v", got)
	}
}

// Rounds go on where others, or a run, have ended.
func TestRoundsGoOn(t *testing.T) {
	m, uses := memory(t, 0)
	x := steps.New(m, steps.Adds(0, 5), steps.Adds(0, 2), steps.Adds(0, 3))
	rounds(t, x, 1, 1)
	holds(t, m, uses+3, 3)
	stands(t, x, false, false, false)
	rounds(t, x, 0, 0)
	rounds(t, x, -7, 0)
	holds(t, m, uses+3, 3)
	rounds(t, x, 1, 1)
	holds(t, m, uses+6, 6)
	stands(t, x, false, true, false)
	runs(t, x, 2, 0, 2, 2)
	holds(t, m, uses+8, 8)
	stands(t, x, false, true, true)
	rounds(t, x, 9, 2)
	holds(t, m, uses+10, 10)
	stands(t, x, true, true, true)
	rounds(t, x, 9, 0)
	holds(t, m, uses+10, 10)
}

// With a task that is never done, all rounds are performed.
func TestRoundsWithoutEnd(t *testing.T) {
	m, uses := memory(t, 0)
	x := steps.New(m, steps.Adds(0, 3), endless())
	rounds(t, x, 1000, 1000)
	stands(t, x, true, false)
	holds(t, m, uses+3, 3)
}

// P8.3

// Each kind of task on each word: its steps, one by one, with the words behind each of them. It changes no other word, each step is one use, and the last one is the last one only.
func TestCounters(t *testing.T) {
	first := []uint32{0, 77, top, top - 1, 1 << 31}
	for kind := range kinds {
		for _, times := range []int{1, 2, 3, 7} {
			for at := range first {
				m, uses := memory(t, first...)
				words, task := slices.Clone(first), job{kind, at, times}.task()
				does := func(last bool) {
					t.Helper()
					uses++
					if got := task.Step(m); got != last {
						t.Errorf("%s(%d, %d) with the words %v: %t", names[kind], at, times, words, got)
					}
					holds(t, m, uses, words...)
				}
				for time := range times {
					if kind != adds {
						does(false)
					}
					words[at]++
					does(time == times-1)
				}
			}
		}
	}
}

// Without any times, a task is done with its first step, which does not use the memory; and whether there is such a word does not matter.
func TestNoTimes(t *testing.T) {
	for kind := range kinds {
		for _, times := range []int{0, -1, -2, math.MinInt32, math.MinInt} {
			for _, at := range []int{0, 1, 2, -1, math.MaxInt} {
				m, uses := memory(t, 5, 6)
				x := steps.New(m, job{kind, at, times}.task(), steps.Adds(1, 1))
				stands(t, x, false, false)
				picks(t, x, 0, api.OK)
				stands(t, x, true, false)
				picks(t, x, 0, api.ErrStepsDone)
				holds(t, m, uses, 5, 6)
			}
		}
	}
}

// On a word that does not exist, below or above, a task is done with its first step, which is no use.
func TestNoWord(t *testing.T) {
	for kind := range kinds {
		for _, n := range []int{1, 2, 64} {
			for _, at := range noTasks(n) {
				for _, times := range []int{1, 2, 1000, math.MaxInt} {
					m, uses := memory(t, make([]uint32, n)...)
					x := steps.New(m, job{kind, at, times}.task(), steps.Adds(0, 1))
					picks(t, x, 0, api.OK)
					stands(t, x, true, false)
					picks(t, x, 0, api.ErrStepsDone)
					holds(t, m, uses, make([]uint32, n)...)
				}
			}
		}
	}
}

// A task that has found that its word does not exist, or has done all its times, is done: whoever calls it again, it uses no memory.
func TestBehindTheLastStep(t *testing.T) {
	for kind := range kinds {
		small, few := memory(t, 5)
		great, many := memory(t, 6, 7)
		task := job{kind, 1, 4}.task()
		for _, m := range []*mem.Memory{small, great, small, great} {
			if !task.Step(m) {
				t.Errorf("%s is not done", names[kind])
			}
		}
		holds(t, small, few, 5)
		holds(t, great, many, 6, 7)
		task = job{kind, 0, 2}.task()
		x := steps.New(great, task, task)
		rounds(t, x, 9, []int{2, 3, 3}[kind]) // one round more than needed: the other number finds out that it is done
		stands(t, x, true, true)
		if task.Step(great); great.Words()[0] != 8 {
			t.Errorf("%s has made the word %d", names[kind], great.Words()[0])
		}
	}
}

// The word is found missing by the second step, if that one is given another memory.
func TestOtherMemory(t *testing.T) {
	for _, kind := range []int{bumps, swaps} {
		small, few := memory(t, 5)
		great, many := memory(t, 6, 7)
		task := job{kind, 1, 4}.task()
		if task.Step(great) || !task.Step(small) {
			t.Errorf("%s is done too early, or not in time", names[kind])
		}
		holds(t, small, few, 5)
		holds(t, great, many+1, 6, 7)
	}
}

// Many times: the tasks are done with the step that they should be, and not before.
func TestManyTimes(t *testing.T) {
	for kind, each := range []int{1, 2, 2} {
		for _, times := range []int{1, 100, 255, 256, 65535, 65536, 70001} {
			m, uses := memory(t, top-99)
			x := steps.New(m, job{kind, 0, times}.task())
			rounds(t, x, each*times-1, each*times-1)
			stands(t, x, false)
			rounds(t, x, 9, 1)
			stands(t, x, true)
			holds(t, m, uses+each*times, uint32(top-99+times))
		}
		m, uses := memory(t, 0)
		x := steps.New(m, job{kind, 0, math.MaxInt}.task(), job{kind, 0, 1 << 32}.task())
		rounds(t, x, 20, 20)
		stands(t, x, false, false)
		if m.Count() != uses+40 {
			t.Errorf("%s: %d uses", names[kind], m.Count())
		}
	}
}

// A Swap that finds another word changes nothing; its task goes on with a Load.
func TestFailedSwap(t *testing.T) {
	for _, other := range []uint32{0, 8, 9, top} {
		m, uses := memory(t, 7)
		x := steps.New(m, steps.Swaps(0, 1))
		for range 3 {
			picks(t, x, 0, api.OK) // loads 7
			m.Store(0, other)
			picks(t, x, 0, api.OK) // fails
			uses += 3
			holds(t, m, uses, other)
			stands(t, x, false)
			m.Store(0, 7)
			uses++
		}
		picks(t, x, 0, api.OK) // loads: it must not swap at once, although the word is the one that it has loaded before
		holds(t, m, uses+1, 7)
		stands(t, x, false)
		picks(t, x, 0, api.OK)
		holds(t, m, uses+2, 8)
		stands(t, x, true)
	}
}

// A Swap compares the word only: it succeeds, too, when the word was changed and changed back. A Store compares nothing.
func TestChangedBack(t *testing.T) {
	for _, c := range []struct {
		kind   int
		middle []uint32
	}{{swaps, []uint32{9, 7}}, {bumps, []uint32{9, 7}}, {bumps, []uint32{9}}} {
		m, _ := memory(t, 7)
		x := steps.New(m, job{c.kind, 0, 1}.task())
		picks(t, x, 0, api.OK)
		for _, v := range c.middle {
			m.Store(0, v)
		}
		picks(t, x, 0, api.OK)
		stands(t, x, true)
		holds(t, m, 3+len(c.middle), 8)
	}
}

// The tasks load the word anew each time.
func TestLoadedAnew(t *testing.T) {
	for _, kind := range []int{bumps, swaps} {
		m, uses := memory(t, 0)
		x := steps.New(m, job{kind, 0, 3}.task())
		for _, v := range []uint32{5, 1000, top} {
			m.Store(0, v)
			runs(t, x, 2, 0, 0)
			uses += 3
			holds(t, m, uses, v+1)
		}
		stands(t, x, true)
	}
}

// The chapter's examples.
func TestExamples(t *testing.T) {
	for _, c := range []struct {
		list []int
		want uint32
	}{{[]int{0, 1, 0, 1}, 1}, {[]int{0, 0, 1, 1}, 2}} {
		m, _ := memory(t, 0)
		x := steps.New(m, steps.Bumps(0, 1), steps.Bumps(0, 1))
		runs(t, x, 4, c.list...)
		stands(t, x, true, true)
		holds(t, m, 5, c.want)
	}
	m, _ := memory(t, 0)
	x := steps.New(m, steps.Swaps(0, 1), steps.Swaps(0, 1))
	runs(t, x, 4, 0, 1, 0, 1)
	stands(t, x, true, false)
	holds(t, m, 5, 1)
	runs(t, x, 2, 1, 1)
	stands(t, x, true, true)
	holds(t, m, 7, 2)
}

// P8.4

// replay is a machine of the tasks of some jobs on a new memory of one word, behind some picks.
func replay(t *testing.T, first uint32, jobs []job, list []int) (*steps.Machine, *mem.Memory) {
	t.Helper()
	m, uses := memory(t, first)
	x := steps.New(m, tasks(jobs...)...)
	runs(t, x, len(list), list...)
	if m.Count() != uses+len(list) {
		t.Fatalf("%v: %d uses in %d steps", jobs, m.Count()-uses, len(list))
	}
	return x, m
}

// ends calls see with the word behind each order in which the tasks of some jobs can be performed.
func ends(t *testing.T, first uint32, jobs []job, list []int, see func(list []int, word uint32)) {
	t.Helper()
	x, m := replay(t, first, jobs, list)
	if x.Left() == 0 {
		see(list, m.Words()[0])
	}
	for i := range jobs {
		if !x.Done(i) {
			ends(t, first, jobs, append(slices.Clone(list), i), see)
		}
	}
}

// Tasks of Adds and Swaps lose no update in any order, also across the wrap-around.
func TestNoLostUpdate(t *testing.T) {
	for _, c := range []struct {
		jobs   []job
		orders int
	}{
		{[]job{{adds, 0, 3}, {adds, 0, 2}, {adds, 0, 1}}, 60},
		{[]job{{swaps, 0, 1}, {swaps, 0, 1}}, 0},
		{[]job{{swaps, 0, 2}, {swaps, 0, 2}}, 0},
		{[]job{{swaps, 0, 1}, {swaps, 0, 3}}, 0},
		{[]job{{swaps, 0, 1}, {swaps, 0, 1}, {swaps, 0, 1}}, 0},
		{[]job{{adds, 0, 2}, {swaps, 0, 2}, {adds, 0, 1}}, 0},
		{[]job{{swaps, 0, 1}, {adds, 0, 2}, {swaps, 0, 1}}, 0},
	} {
		sum := 0
		for _, j := range c.jobs {
			sum += j.times
		}
		for _, first := range []uint32{0, top, top - 1} {
			orders := 0
			ends(t, first, c.jobs, nil, func(list []int, word uint32) {
				orders++
				if word != first+uint32(sum) {
					t.Errorf("%v from %d on, picked %v: %d", c.jobs, first, list, word)
				}
			})
			if orders < 2 || c.orders > 0 && orders != c.orders {
				t.Errorf("%v: %d orders", c.jobs, orders)
			}
		}
	}
}

// Tasks of Bumps lose updates in some orders and none in others; the word increases in all of them, and never by more than the sum.
func TestLostUpdates(t *testing.T) {
	for _, c := range []struct {
		jobs   []job
		orders int
		least  uint32
	}{
		{[]job{{bumps, 0, 1}, {bumps, 0, 1}}, 6, 1},
		{[]job{{bumps, 0, 1}, {bumps, 0, 2}}, 15, 1},
		{[]job{{bumps, 0, 2}, {bumps, 0, 2}}, 70, 2},
		{[]job{{bumps, 0, 3}, {bumps, 0, 2}}, 210, 2},
		{[]job{{bumps, 0, 1}, {bumps, 0, 1}, {bumps, 0, 1}}, 90, 1},
		{[]job{{bumps, 0, 1}, {adds, 0, 3}}, 10, 1},
		{[]job{{bumps, 0, 2}, {bumps, 0, 1}, {bumps, 0, 1}}, 420, 1},
	} {
		sum := uint32(0)
		for _, j := range c.jobs {
			sum += uint32(j.times)
		}
		for _, first := range []uint32{0, top, top - 1} {
			orders, seen := 0, map[uint32]int{}
			ends(t, first, c.jobs, nil, func(list []int, word uint32) {
				orders++
				seen[word-first]++
				if more := word - first; more < c.least || more > sum {
					t.Errorf("%v from %d on, picked %v: %d", c.jobs, first, list, word)
				}
			})
			// Everything in between is met as well.
			if orders != c.orders || len(seen) != int(sum-c.least)+1 {
				t.Errorf("%v: %d orders, %v", c.jobs, orders, seen)
			}
		}
	}
}

// In any order

// worker is what is known of the task of a job, step by step.
type worker struct {
	job
	made   int
	loads  bool // the next step is not a Load
	loaded uint64
	done   bool
}

// step does what the next step of the task should do with words that do not wrap around by themselves; how many uses it is.
func (w *worker) step(words []uint64) int {
	if w.times < 1 || w.at < 0 || w.at >= len(words) {
		w.done = true
		return 0
	}
	word := &words[w.at]
	switch {
	case w.kind == adds:
		*word = (*word + 1) % (1 << 32)
		w.made++
	case !w.loads:
		w.loads, w.loaded = true, *word
	default:
		w.loads = false
		if w.kind == bumps || *word == w.loaded {
			*word = (w.loaded + 1) % (1 << 32)
			w.made++
		}
	}
	w.done = w.made == w.times
	return 1
}

// source is a row of numbers that look drawn, and are the same each time.
type source uint32

// under is the next number, below n.
func (s *source) under(n int) int {
	*s = *s*1664525 + 1013904223
	return int(*s>>8) % n
}

// Picks in any order, of tasks of all kinds, do what the record of the tasks tells.
func TestManyPicks(t *testing.T) {
	s := source(8)
	for range 300 {
		first := []uint32{0, top, top - 2, uint32(s.under(1 << 20))}
		m, uses := memory(t, first...)
		words := []uint64{uint64(first[0]), uint64(first[1]), uint64(first[2]), uint64(first[3])}
		var jobs []job
		var workers []worker
		for range s.under(7) {
			j := job{s.under(kinds), s.under(6) - 1, s.under(12) - 1}
			jobs, workers = append(jobs, j), append(workers, worker{job: j})
		}
		x := steps.New(m, tasks(jobs...)...)
		for range 120 {
			i := s.under(len(jobs)+2) - 1
			want := api.OK
			switch {
			case i < 0 || i >= len(jobs):
				want = api.ErrStepsTask
			case workers[i].done:
				want = api.ErrStepsDone
			default:
				uses += workers[i].step(words)
			}
			picks(t, x, i, want)
			var done []bool
			for _, w := range workers {
				done = append(done, w.done)
			}
			stands(t, x, done...)
			holds(t, m, uses, uint32(words[0]), uint32(words[1]), uint32(words[2]), uint32(words[3]))
		}
	}
}

// Runs and rounds do what their picks do, one by one.
func TestManyRunsAndRounds(t *testing.T) {
	s := source(9)
	for range 300 {
		var jobs []job
		for range s.under(6) {
			jobs = append(jobs, job{s.under(kinds), s.under(4) - 1, s.under(9) - 1})
		}
		m, _ := memory(t, 0, top)
		n, _ := memory(t, 0, top)
		x, y := steps.New(m, tasks(jobs...)...), steps.New(n, tasks(jobs...)...)
		for range 6 {
			var list []int
			count := 0
			for range s.under(9) {
				i := s.under(len(jobs)+2) - 1
				list = append(list, i)
				if y.Pick(i) == api.OK {
					count++
				}
			}
			runs(t, x, count, list...)
			most := s.under(6) - 1
			performed := 0
			for performed < most && y.Left() > 0 {
				for i := range jobs {
					y.Pick(i)
				}
				performed++
			}
			rounds(t, x, most, performed)
			holds(t, m, n.Count(), n.Words()...)
			for i := range jobs {
				if x.Done(i) != y.Done(i) {
					t.Errorf("Done(%d) = %t", i, x.Done(i))
				}
			}
		}
	}
}

// P1 and the rules

// Any call with any arguments returns; nil is no task, and no memory has no words.
func TestAnyArguments(t *testing.T) {
	numbers := slices.Concat(noTasks(3), []int{0, 1, 2, 3})
	for kind := range kinds {
		for _, at := range numbers {
			for _, times := range numbers {
				for _, m := range []*mem.Memory{nil, {}} {
					j := job{kind, at, times}
					x := steps.New(m, nil, j.task(), nil)
					if e := x.Pick(0); e != api.ErrStepsTask || x.Done(0) || x.Left() != 1 {
						t.Errorf("Pick(0) of nil = %d", e)
					}
					runs(t, x, 1, numbers...)
					if !x.Done(1) || x.Left() != 0 || x.Round(math.MaxInt) != 0 || x.Pick(1) != api.ErrStepsDone {
						t.Errorf("%s(%d, %d) is not done, or can be picked", j.name(), at, times)
					}
				}
			}
		}
	}
}

// The list of tasks is the caller's: the machine keeps its own, and changes neither the list nor what lies behind it.
func TestListIsTheCallers(t *testing.T) {
	m, _ := memory(t, 0)
	first, second, behind, other := &own{steps: 1}, &own{steps: 1}, &own{steps: 1}, &own{steps: 1}
	list := []steps.Task{first, second, behind}
	x := steps.New(m, list[:2]...)
	if !slices.Equal(list, []steps.Task{first, second, behind}) {
		t.Errorf("the list has become %v", list)
	}
	list[0], list[1] = other, nil
	rounds(t, x, 5, 1)
	stands(t, x, true, true)
	if len(first.got) != 1 || len(second.got) != 1 || len(behind.got)+len(other.got) != 0 {
		t.Errorf("steps of %v, %v, %v, %v", first, second, behind, other)
	}
	if !slices.Equal(list, []steps.Task{other, nil, behind}) {
		t.Errorf("the list has become %v", list)
	}
}

// The picks are the caller's.
func TestPicksAreTheCallers(t *testing.T) {
	m, _ := memory(t, 0)
	list := []int{1, 0, 5, -1, 0, 1, 7, 8}
	x := steps.New(m, steps.Swaps(0, 1), steps.Bumps(0, 2))
	runs(t, x, 4, list[:6]...)
	if !slices.Equal(list, []int{1, 0, 5, -1, 0, 1, 7, 8}) {
		t.Errorf("the picks have become %v", list)
	}
	clear(list)
	stands(t, x, true, false)
}

// Machines have nothing in common but the memory that they are given, and tasks made alike have nothing at all.
func TestApart(t *testing.T) {
	m, _ := memory(t, 0)
	x, y := steps.New(m, steps.Bumps(0, 1), steps.Swaps(0, 2)), steps.New(m, steps.Bumps(0, 1), steps.Swaps(0, 2))
	runs(t, x, 2, 0, 0)
	stands(t, x, true, false)
	stands(t, y, false, false)
	runs(t, y, 1, 0)
	runs(t, x, 4, 1, 1, 1, 1)
	stands(t, x, true, true)
	stands(t, y, false, false)
	holds(t, m, 8, 3)
	rounds(t, y, 9, 4)
	stands(t, y, true, true)
}

// The results depend on nothing but the calls: the same ones again have the same results.
func TestAgain(t *testing.T) {
	play := func() []uint32 {
		s := source(10)
		m, _ := memory(t, 0, top)
		x := steps.New(m, tasks(job{adds, 0, 9}, job{bumps, 0, 9}, job{swaps, 0, 9}, job{bumps, 1, 9}, job{swaps, 1, 9})...)
		var l []uint32
		for range 100 {
			l = append(l, uint32(x.Pick(s.under(6))), uint32(x.Left()), uint32(m.Count()))
			l = append(l, m.Words()...)
		}
		return l
	}
	want := play()
	for range 3 {
		if got := play(); !slices.Equal(got, want) {
			t.Errorf("%v, not %v", got, want)
		}
	}
}
