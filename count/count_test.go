package count_test

import (
	"math"
	"slices"
	"testing"

	"purlin/api"
	"purlin/count"
)

const top = math.MaxUint32 // the last index: 0 follows

// indices holds numbers about all bounds of the index range and of the capacities.
func indices() []uint32 {
	var l []uint32
	for _, n := range []uint32{0, 5, 100, 32768, 65536, 1 << 31, 1<<31 + 12345, top - 32768} {
		l = append(l, n-2, n-1, n, n+1, n+2)
	}
	return l
}

func capacities() []uint32 {
	return []uint32{1, 2, 4, 8, 16, 32, 64, 128, 256, 512, 1024, 2048, 4096, 8192, 16384, 32768}
}

func noCapacities() []uint32 {
	l := []uint32{0, 32767, 32769, 49152, 65535, 65536, 65537, 1 << 17, 1 << 20, 1 << 30, 1 << 31, 1<<31 + 1, 1<<31 + 4, top - 1, top}
	for n := uint32(3); n <= 32768; n++ {
		if !slices.Contains(capacities(), n) {
			l = append(l, n)
		}
	}
	return l
}

// P1.1

func TestUsed(t *testing.T) {
	for _, x := range []struct{ head, tail, want uint32 }{
		{0, 0, 0}, {3, 3, 0}, {top, top, 0},
		{0, 1, 1}, {3, 10, 7}, {0, top, top}, {1, top, top - 1},
		{top, 0, 1}, {top, 2, 3}, {top - 4, 5, 10}, // across the wrap-around
		{1, 0, top}, {3, 2, top}, {1 << 31, 0, 1 << 31}, {0, 1 << 31, 1 << 31},
	} {
		if n := count.Used(x.head, x.tail); n != x.want {
			t.Errorf("Used(%d, %d) = %d, not %d", x.head, x.tail, n, x.want)
		}
	}
	for _, a := range indices() {
		for _, b := range indices() {
			if want := uint32((uint64(b) + 1<<32 - uint64(a)) % (1 << 32)); count.Used(a, b) != want {
				t.Errorf("Used(%d, %d) = %d, not %d", a, b, count.Used(a, b), want)
			}
		}
	}
}

func TestRoom(t *testing.T) {
	for _, x := range []struct {
		head, tail, places, want uint32
		e                        api.Errno
	}{
		{0, 0, 1, 1, api.OK}, {0, 1, 1, 0, api.OK}, {7, 9, 4, 2, api.OK}, {0, 4, 4, 0, api.OK},
		{0, 32768, 32768, 0, api.OK}, {9, 9, 32768, 32768, api.OK}, {1, 32768, 32768, 1, api.OK},
		{top, 2, 4, 1, api.OK}, {top, 3, 4, 0, api.OK}, {top, 0, 1, 0, api.OK}, {top, top, 2, 2, api.OK},
		{0, 5, 4, 0, api.ErrCountUsed}, {0, 2, 1, 0, api.ErrCountUsed}, {top, 4, 4, 0, api.ErrCountUsed},
		{1, 0, 4, 0, api.ErrCountUsed}, {0, top, 32768, 0, api.ErrCountUsed}, {0, 32769, 32768, 0, api.ErrCountUsed},
		{0, 0, 3, 0, api.ErrCountCap}, {0, 0, 0, 0, api.ErrCountCap}, {0, 0, 65536, 0, api.ErrCountCap},
		// Both errors apply: that of the capacity comes first.
		{0, 5, 3, 0, api.ErrCountCap}, {0, 1, 0, 0, api.ErrCountCap}, {1, 0, 65536, 0, api.ErrCountCap},
	} {
		if n, e := count.Room(x.head, x.tail, x.places); n != x.want || e != x.e {
			t.Errorf("Room(%d, %d, %d) = %d, %d, not %d, %d", x.head, x.tail, x.places, n, e, x.want, x.e)
		}
	}
}

func TestRoomOfEveryCapacity(t *testing.T) {
	for _, places := range capacities() {
		for _, head := range indices() {
			for _, used := range []uint32{0, 1, places / 2, places - 1, places} {
				if n, e := count.Room(head, head+used, places); n != places-used || e != api.OK {
					t.Errorf("Room(%d, %d, %d) = %d, %d", head, head+used, places, n, e)
				}
			}
			for _, used := range []uint32{places + 1, 2*places + 1, 1 << 31, top - places, top} {
				if n, e := count.Room(head, head+used, places); n != 0 || e != api.ErrCountUsed {
					t.Errorf("Room(%d, %d, %d) = %d, %d, not ErrCountUsed", head, head+used, places, n, e)
				}
			}
		}
	}
}

func TestSlot(t *testing.T) {
	for _, x := range []struct{ i, places, want uint32 }{
		{0, 1, 0}, {top, 1, 0}, {0, 8, 0}, {7, 8, 7}, {8, 8, 0}, {13, 8, 5},
		{top, 8, 7}, {top - 1, 4, 2}, {32767, 32768, 32767}, {32768, 32768, 0}, {top, 32768, 32767},
	} {
		if n, e := count.Slot(x.i, x.places); n != x.want || e != api.OK {
			t.Errorf("Slot(%d, %d) = %d, %d, not %d", x.i, x.places, n, e, x.want)
		}
	}
	for _, places := range capacities() {
		for _, i := range indices() {
			if n, e := count.Slot(i, places); n != i%places || e != api.OK {
				t.Errorf("Slot(%d, %d) = %d, %d, not %d", i, places, n, e, i%places)
			}
		}
	}
}

func TestRefusedCapacities(t *testing.T) {
	for _, places := range noCapacities() {
		for _, i := range []uint32{0, 1, 3, 5, top} {
			if n, e := count.Slot(i, places); n != 0 || e != api.ErrCountCap {
				t.Errorf("Slot(%d, %d) = %d, %d, not ErrCountCap", i, places, n, e)
			}
			if n, e := count.Room(0, i, places); n != 0 || e != api.ErrCountCap {
				t.Errorf("Room(0, %d, %d) = %d, %d, not ErrCountCap", i, places, n, e)
			}
		}
	}
}

// P1.2

func TestBefore(t *testing.T) {
	for _, x := range []struct {
		a, b uint32
		want bool
	}{
		{0, 1, true}, {1, 0, false}, {3, 9, true}, {9, 3, false},
		{0, 0, false}, {7, 7, false}, {top, top, false}, {1 << 31, 1 << 31, false},
		{top, 0, true}, {0, top, false}, {top - 3, 4, true}, {4, top - 3, false}, // across the wrap-around
		{0, 1<<31 - 1, true}, {0, 1 << 31, false}, {0, 1<<31 + 1, false},
		{1<<31 - 1, 0, false}, {1 << 31, 0, false}, {1<<31 + 1, 0, true},
		{5, 1<<31 + 4, true}, {5, 1<<31 + 5, false}, {5, 1<<31 + 6, false},
		{top, 1<<31 - 2, true}, {top, 1<<31 - 1, false}, {top, 1 << 31, false},
	} {
		if got := count.Before(x.a, x.b); got != x.want {
			t.Errorf("Before(%d, %d) = %t", x.a, x.b, got)
		}
	}
}

// P1.3

func TestOf(t *testing.T) {
	for _, x := range []struct {
		cores []int
		want  api.Set
	}{
		{nil, 0}, {[]int{}, 0},
		{[]int{0}, 1}, {[]int{1}, 2}, {[]int{2}, 4}, {[]int{3}, 8}, {[]int{4}, 16}, {[]int{5}, 32}, {[]int{6}, 64}, {[]int{7}, 128},
		{[]int{2, 0, 2}, 5}, {[]int{3, 3}, 8}, {[]int{3, 3, 3, 3}, 8}, {[]int{7, 0}, 129}, {[]int{0, 7}, 129},
		{[]int{7, 6, 5, 4, 3, 2, 1, 0}, 255}, {[]int{0, 1, 2, 3, 4, 5, 6, 7, 0, 1, 2, 3, 4, 5, 6, 7}, 255},
		{slices.Repeat([]int{6, 1}, 10000), 66},
	} {
		if s, e := count.Of(x.cores...); s != x.want || e != api.OK {
			t.Errorf("Of(%v) = %d, %d, not %d", x.cores, s, e, x.want)
		}
	}
}

// noCores holds numbers that are no cores; some of them are one if only some of their bits count.
func noCores() []int {
	return []int{-1, -2, -7, -8, -9, -256, 8, 9, 15, 16, 31, 32, 63, 64, 255, 256, 257, 65536, 1 << 32, 1<<32 + 1, math.MaxInt, math.MinInt, math.MinInt + 1}
}

func TestOfWithNoCores(t *testing.T) {
	for _, c := range noCores() {
		for _, l := range [][]int{{c}, {c, 1}, {1, c}, {0, c, 7}, {c, c}, {0, 1, 2, 3, 4, 5, 6, 7, c}} {
			if s, e := count.Of(l...); s != 0 || e != api.ErrCountCore {
				t.Errorf("Of(%v) = %d, %d, not ErrCountCore", l, s, e)
			}
		}
	}
}

func TestOfLeavesItsArguments(t *testing.T) {
	all := []int{5, 2, 7, 2, 0, 9, 9}
	if s, e := count.Of(all[:5]...); s != 0xa5 || e != api.OK {
		t.Errorf("Of = %d, %d", s, e)
	}
	if !slices.Equal(all, []int{5, 2, 7, 2, 0, 9, 9}) {
		t.Errorf("Of changed its arguments, or what lies behind them: %v", all)
	}
}

func TestHas(t *testing.T) {
	for core := range api.MaxCores {
		for n := range 256 {
			if got, want := count.Has(api.Set(n), core), n>>core&1 == 1; got != want {
				t.Errorf("Has(%d, %d) = %t", n, core, got)
			}
		}
	}
	for _, c := range noCores() {
		for _, s := range []api.Set{0, 1, 128, 255} {
			if count.Has(s, c) {
				t.Errorf("Has(%d, %d) = true", s, c)
			}
		}
	}
}

func TestCores(t *testing.T) {
	for _, x := range []struct {
		s    api.Set
		want []int
	}{{0, nil}, {1, []int{0}}, {5, []int{0, 2}}, {0x80, []int{7}}, {0x89, []int{0, 3, 7}}, {0x56, []int{1, 2, 4, 6}}, {255, []int{0, 1, 2, 3, 4, 5, 6, 7}}} {
		if l := count.Cores(x.s); !slices.Equal(l, x.want) {
			t.Errorf("Cores(%d) = %v, not %v", x.s, l, x.want)
		}
	}
}

func TestCoresIsNewEachTime(t *testing.T) {
	l := count.Cores(255)
	clear(l)
	_ = append(count.Cores(3), 99)
	if got := count.Cores(255); !slices.Equal(got, []int{0, 1, 2, 3, 4, 5, 6, 7}) {
		t.Errorf("Cores(255) = %v once an earlier result was changed", got)
	}
}

func TestSetsThereAndBack(t *testing.T) {
	for n := range 256 {
		l := count.Cores(api.Set(n))
		if s, e := count.Of(l...); s != api.Set(n) || e != api.OK {
			t.Errorf("Of(Cores(%d)...) = %d, %d", n, s, e)
		}
		if !slices.IsSorted(l) {
			t.Errorf("Cores(%d) = %v", n, l)
		}
		for core := range api.MaxCores {
			if count.Has(api.Set(n), core) != slices.Contains(l, core) {
				t.Errorf("Has(%d, %d), but Cores %v", n, core, l)
			}
		}
	}
}

func TestFirst(t *testing.T) {
	for _, x := range []struct {
		s    api.Set
		want int
		ok   bool
	}{{0, 0, false}, {1, 0, true}, {3, 0, true}, {255, 0, true}, {2, 1, true}, {0x88, 3, true}, {0xc0, 6, true}, {0x80, 7, true}} {
		if c, ok := count.First(x.s); c != x.want || ok != x.ok {
			t.Errorf("First(%d) = %d, %t", x.s, c, ok)
		}
	}
	for n := 1; n < 256; n++ {
		if c, ok := count.First(api.Set(n)); !ok || c != count.Cores(api.Set(n))[0] {
			t.Errorf("First(%d) = %d, %t", n, c, ok)
		}
	}
}

// manyCores holds bounds for Where, and up to which core it has to ask.
var manyCores = []struct{ n, cores int }{
	{math.MinInt, 0}, {-9, 0}, {-1, 0}, {0, 0}, {1, 1}, {2, 2}, {3, 3}, {5, 5}, {7, 7}, {8, 8}, {9, 8}, {64, 8}, {256, 8}, {1 << 32, 8}, {math.MaxInt, 8},
}

func TestWhere(t *testing.T) {
	for _, x := range manyCores {
		for want := range 256 {
			s := count.Where(x.n, func(core int) bool { return want>>core&1 == 1 })
			if below := api.Set(want) & api.Set(1<<x.cores-1); s != below {
				t.Errorf("Where(%d, those of %d) = %d, not %d", x.n, want, s, below)
			}
		}
	}
}

func TestWhereAsksEachCoreOnceInOrder(t *testing.T) {
	for _, x := range manyCores {
		for _, yes := range []func(core int) bool{
			func(core int) bool { return true },
			func(core int) bool { return false },
			func(core int) bool { return core%2 == 0 },
			func(core int) bool { return core%2 == 1 },
		} {
			var asked []int
			count.Where(x.n, func(core int) bool {
				asked = append(asked, core)
				return yes(core)
			})
			if want := []int{0, 1, 2, 3, 4, 5, 6, 7}[:x.cores]; !slices.Equal(asked, want) {
				t.Errorf("Where(%d) asked about %v, not %v", x.n, asked, want)
			}
		}
	}
}

// A predicate that counts its calls tells whether an answer is kept from an earlier call.
func TestWhereAsksAnew(t *testing.T) {
	calls := 0
	every := func(core int) bool {
		calls++
		return calls%2 == 1
	}
	if s := count.Where(3, every); s != 5 {
		t.Errorf("the first one: %d", s)
	}
	if s := count.Where(3, every); s != 2 {
		t.Errorf("the second one: %d", s)
	}
}

// P1: no call panics, whatever it is given.
func TestWherePanicsNever(t *testing.T) {
	for _, x := range manyCores {
		if s := count.Where(x.n, nil); s != 0 {
			t.Errorf("Where(%d, nil) = %d", x.n, s)
		}
	}
	var asked []int
	s := count.Where(6, func(core int) bool {
		asked = append(asked, core)
		if core == 2 || core == 3 {
			panic("no answer")
		}
		return core != 4
	})
	if s != 0x23 || !slices.Equal(asked, []int{0, 1, 2, 3, 4, 5}) {
		t.Errorf("Where = %d, asked about %v", s, asked)
	}
}

// P1.4

func TestUsedAndRoomAddUp(t *testing.T) {
	for _, places := range capacities() {
		for _, head := range indices() {
			for _, tail := range []uint32{head, head + 1, head + places/2, head + places} {
				if n, e := count.Room(head, tail, places); e == api.OK && n+count.Used(head, tail) != places {
					t.Errorf("of %d slots, %d are free and %d used", places, n, count.Used(head, tail))
				} else if e != api.OK && count.Used(head, tail) <= places {
					t.Errorf("Room(%d, %d, %d) = error %d", head, tail, places, e)
				}
			}
		}
	}
}

func TestSlotsRepeat(t *testing.T) {
	for _, places := range capacities() {
		for _, i := range indices() {
			a, e := count.Slot(i, places)
			b, f := count.Slot(i+places, places)
			if a != b || a >= places || e != api.OK || f != api.OK {
				t.Errorf("of %d slots, %d has %d (%d), and %d has %d (%d)", places, i, a, e, i+places, b, f)
			}
			next, _ := count.Slot(i+1, places)
			if next != (a+1)%places {
				t.Errorf("of %d slots, %d has %d, and %d has %d", places, i, a, i+1, next)
			}
		}
	}
}

func TestOneIsBefore(t *testing.T) {
	for _, a := range indices() {
		for _, b := range indices() {
			both, one := count.Before(a, b) && count.Before(b, a), count.Before(a, b) || count.Before(b, a)
			if apart := a != b && b-a != 1<<31; both || one != apart {
				t.Errorf("Before(%d, %d) is %t, and the other way round %t", a, b, count.Before(a, b), count.Before(b, a))
			}
		}
	}
}
