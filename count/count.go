// Package count is layer 1: see shared/doc/01-count.md.
package count

import (
	"slices"

	"purlin/api"
)

// half is half of the index range.
const half = 1 << 31

// The bits of a set, core by core: iota is the number of the bit.
const (
	bit0 api.Set = 1 << iota
	bit1
	bit2
	bit3
	bit4
	bit5
	bit6
	bit7
)

// A table, and no shift by the number of a core: it has no bit for a number that is no core.
var bits = [api.MaxCores]api.Set{bit0, bit1, bit2, bit3, bit4, bit5, bit6, bit7}

// Used is how many lie between two indices.
func Used(head, tail uint32) uint32 { return tail - head }

// Room is how many more a ring takes.
func Room(head, tail, places uint32) (uint32, api.Errno) {
	if !isCapacity(places) {
		return 0, api.ErrCountCap
	}
	used := Used(head, tail)
	if used > places {
		return 0, api.ErrCountUsed
	}
	return places - used, api.OK
}

// Slot is the place of an index.
func Slot(i, places uint32) (uint32, api.Errno) {
	if !isCapacity(places) {
		return 0, api.ErrCountCap
	}
	return i % places, api.OK
}

// isCapacity is whether a ring may have so many places: only powers of two divide the index range, so that slots go on in turn where indices wrap around.
func isCapacity(places uint32) bool {
	return 0 < places && places <= api.MaxCap && places&(places-1) == 0
}

// Before is whether an index comes ahead of another one, by less than half of all.
func Before(a, b uint32) bool {
	// Taken modulo 2^32, so that an index that has wrapped around is still behind those before it.
	ahead := b - a
	return 0 < ahead && ahead < half
}

// Of is the set of some cores.
func Of(cores ...int) (api.Set, api.Errno) {
	for _, core := range cores {
		if !isCore(core) {
			return 0, api.ErrCountCore
		}
	}
	return Where(api.MaxCores, func(core int) bool { return slices.Contains(cores, core) }), api.OK
}

// Has is whether a core is in a set.
func Has(s api.Set, core int) bool { return isCore(core) && s&bits[core] != 0 }

// Cores is the cores of a set, rising.
func Cores(s api.Set) []int {
	var cores []int
	for core := range api.MaxCores {
		if Has(s, core) {
			cores = append(cores, core)
		}
	}
	return cores
}

// First is the least core of a set; false: it has none.
func First(s api.Set) (int, bool) {
	for core := range api.MaxCores {
		if Has(s, core) {
			return core, true
		}
	}
	return 0, false
}

// Where is the cores, below n, for which something holds.
func Where(n int, is func(core int) bool) api.Set {
	var s api.Set
	for core := range min(n, api.MaxCores) {
		if holds(is, core) {
			s |= bits[core]
		}
	}
	return s
}

// holds is whether a predicate returns true. One that panics, or is nil, does not: no call of this package may panic, whatever it is given.
func holds(is func(core int) bool, core int) (yes bool) {
	defer func() { recover() }()
	return is(core)
}

// isCore is whether a number is that of a core.
func isCore(core int) bool { return 0 <= core && core < api.MaxCores }
