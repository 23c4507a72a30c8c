package agg_test

import (
	"math"
	"math/big"
	"math/rand/v2"
	"slices"

	"watershed/api"
)

// This file reads the chapter a second time, by other means than the program's, to hold every call against it.

// wrongKinds are ints at and around those of kinds, and far beyond them; some are kinds if only part of their bits counts.
var wrongKinds = []int{
	0, 5, 6, -1, -2, -3, -4, -5, 1 << 8, 1<<8 + 1, 1<<16 + 2, 1 << 31, 1 << 32, 1<<32 + 1, 1<<32 + 2, 1<<32 + 3, 1<<32 + 4, 1 - 1<<32, 4 - 1<<32,
	math.MinInt, math.MinInt + 1, math.MinInt + 4, math.MaxInt - 1, math.MaxInt,
}

// numbers are ints of which some sums wrap around, and some do not.
var numbers = []int{
	0, 1, -1, 2, -2, 7, -7, 1 << 31, -1 << 31, 1 << 32, -1 << 32, 1 << 62, -1 << 62, 1<<62 - 1, -1<<62 - 1,
	math.MinInt, math.MinInt + 1, math.MaxInt - 1, math.MaxInt,
}

// source gives arbitrary arguments.
type source struct{ *rand.Rand }

func newSource(n uint64) source {
	return source{rand.New(rand.NewPCG(10, n))}
}

// number is an int of any size, often a small one or one at the ends.
func (s source) number() int {
	if s.IntN(4) == 0 {
		return numbers[s.IntN(len(numbers))]
	}
	return int(s.Uint64()) >> s.IntN(64)
}

// acc is of any fields, also of ones that no values have; every fourth has the Count 0.
func (s source) acc() api.Acc {
	a := acc(s.number(), s.number(), s.number(), s.number())
	switch s.IntN(8) {
	case 0:
		a.Count = 0
	case 1:
		return empties[s.IntN(len(empties))]
	case 2:
		return others[s.IntN(len(others))]
	}
	return a
}

// values are n of any size.
func (s source) values(n int) []int {
	l := make([]int, n)
	for i := range l {
		l[i] = s.number()
	}
	return l
}

// wrapped returns the int of 64 bits that differs from x by a multiple of 2^64.
func wrapped(x *big.Int) int {
	round := new(big.Int).Lsh(big.NewInt(1), 64)
	rest := new(big.Int).Mod(x, round) // from 0 on
	if rest.Bit(63) == 1 {
		rest.Sub(rest, round)
	}
	return int(rest.Int64())
}

// total is the sum of numbers, which wraps around at its end alone.
func total(l ...int) int {
	sum := new(big.Int)
	for _, x := range l {
		sum.Add(sum, big.NewInt(int64(x)))
	}
	return wrapped(sum)
}

// secondJoin takes those of the two that have values, and goes by how many these are.
func secondJoin(both ...api.Acc) api.Acc {
	some := slices.DeleteFunc(slices.Clone(both), func(a api.Acc) bool { return a.Count == 0 })
	if len(some) == 0 {
		return api.Acc{}
	}
	if len(some) == 1 {
		return some[0]
	}
	a, b := some[0], some[1]
	lesser, greater := a.Min, a.Max
	if b.Min < lesser {
		lesser = b.Min
	}
	if b.Max > greater {
		greater = b.Max
	}
	return acc(total(a.Count, b.Count), total(a.Sum, b.Sum), lesser, greater)
}

// secondValue asks one thing after the other, as the promise does.
func secondValue(kind int, a api.Acc) (int, api.Errno) {
	fields := map[int]int{1: a.Count, 2: a.Sum, 3: a.Min, 4: a.Max}
	if _, there := fields[kind]; !there {
		return 0, api.ErrArg
	}
	if a.Count == 0 {
		return 0, api.ErrNone
	}
	return fields[kind], api.OK
}

// secondOf is the accumulator of values, by what an accumulator contains.
func secondOf(values []int) api.Acc {
	if len(values) == 0 {
		return api.Acc{}
	}
	return acc(len(values), total(values...), slices.Min(values), slices.Max(values))
}
