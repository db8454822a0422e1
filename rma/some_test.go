package rma_test

import (
	"math"
	"slices"

	"recoup/rma"
)

const (
	greatest = math.MaxInt
	smallest = math.MinInt
	richest  = 1 << 50
)

// sample is a right return that stays right, if any one number of it becomes
// any other from the one end of what is right to the other.
func sample() rma.RMA {
	return rma.RMA{
		Number: 3, Order: 2, Reason: 1, Want: 258, Reserved: 7, Credit: true, State: rma.Docked, Day: 66051,
		Units: []int{4, 9, 10, 77}, Grades: []int{-1, 2, 0, -1}, Worth: 900, Paid: 10, Credited: 1 << 40, Given: 3,
	}
}

// many is a return of n units, from 0 on; some of them have a grade.
func many(n int) rma.RMA {
	r := rma.RMA{Number: 1 + n%100, Reserved: -1, State: rma.Open, Worth: int64(n)}
	for k := range n {
		r.Units, r.Grades = append(r.Units, k), append(r.Grades, k%6-1)
	}
	return r
}

// someReturns are right, small and large.
func someReturns() []rma.RMA {
	least := rma.RMA{Number: 1, Reserved: -1, State: 1, Units: []int{0}, Grades: []int{-1}}
	most := rma.RMA{
		Number: 100, Order: 19, Reason: 3, Want: 1000, Reserved: 199, Credit: true, State: 9, Day: 100000,
		Units: []int{199}, Grades: []int{4}, Worth: richest, Paid: richest, Credited: richest, Given: richest,
	}
	whole := many(200)
	whole.Grades = slices.Repeat([]int{4}, 200)
	odd := sample()
	odd.Credit = false
	return []rma.RMA{least, most, sample(), odd, many(1), many(2), many(3), many(50), many(199), many(200), whole}
}

// number is one of a return, with the ends of what is right.
type number struct {
	get         func() int64
	set         func(v int64)
	least, most int64
}

func from[T int | int64](v *T, least, most int64) number {
	return number{get: func() int64 { return int64(*v) }, set: func(n int64) { *v = T(n) }, least: least, most: most}
}

// fields are all of a return's numbers but its units and grades.
func fields(r *rma.RMA) []number {
	return []number{
		from(&r.Number, 1, 100), from(&r.Order, 0, 19), from(&r.Reason, 0, 3), from(&r.Want, 0, 1000), from(&r.Reserved, -1, 199), from(&r.State, 1, 9), from(&r.Day, 0, 100000),
		from(&r.Worth, 0, richest), from(&r.Paid, 0, richest), from(&r.Credited, 0, richest), from(&r.Given, 0, richest),
	}
}

// numbers are all of a return's; a unit's ends are next to the other ones.
func numbers(r *rma.RMA) []number {
	l := fields(r)
	for k := range r.Units {
		least, most := int64(0), int64(199)
		if k > 0 {
			least = int64(r.Units[k-1] + 1)
		}
		if k < len(r.Units)-1 {
			most = int64(r.Units[k+1] - 1)
		}
		l = append(l, from(&r.Units[k], least, most))
	}
	for k := range r.Grades {
		l = append(l, from(&r.Grades[k], -1, 4))
	}
	return l
}

// with is the sample, of which numbers have other values: a number's place, its
// value, the next one's place, its value.
func with(changes ...int64) rma.RMA {
	r := sample()
	for l := range slices.Chunk(changes, 2) {
		numbers(&r)[l[0]].set(l[1])
	}
	return r
}

// wrongNumbers are wrong as any number of a return; some of them are right, if
// they lose their upper half or their sign.
func wrongNumbers() []int64 {
	return []int64{-2, -3, -5, -256, -1000, -1 << 32, 1<<50 + 1, 1<<50 + 4, 1 << 51, 1 << 62, 1<<62 + 1, 1<<63 - 2, greatest, greatest - 1, smallest, smallest + 1, smallest + 5}
}

// lists are a return of these units and grades, right otherwise.
func lists(units, grades []int) rma.RMA {
	r := sample()
	r.Units, r.Grades = units, grades
	return r
}

// wrongReturns aren't right, but may be copied, held against each other, put,
// and asked for their units.
func wrongReturns() []rma.RMA {
	l := []rma.RMA{
		{}, {Units: []int{1}}, {Grades: []int{1}}, many(0), many(201), many(300),
		lists([]int{4, 1}, []int{-1, -1}), lists([]int{4, 4}, []int{1, -1}), lists([]int{4, 5}, []int{1}), lists([]int{4}, []int{1, 2}), lists(nil, nil), lists([]int{1}, nil), lists(nil, []int{1}),
		lists([]int{4, 200}, []int{-1, 3}), lists([]int{-1, 4}, []int{-1, 3}), lists([]int{4, 5}, []int{5, -1}), lists([]int{4, 5}, []int{-2, 0}), lists([]int{5, 4, 5}, []int{0, -1, 2}),
	}
	r := sample()
	for k := range numbers(&r) {
		l = append(l, with(int64(k), smallest+int64(k)), with(int64(k), greatest-int64(k)))
	}
	return l
}

// allNumbers are units, grades, states, or none of them; some are, if they lose
// their upper half or their sign.
func allNumbers() []int {
	l := []int{-256, -255, -200, 199, 200, 201, 255, 256, 257, 260, 265, 1 << 16, 1<<16 + 4, 1 << 31, 1 << 32, 1<<32 + 1, 1<<32 + 4, 1<<32 + 9, -1 << 32, 1 << 62, greatest, greatest - 1, smallest, smallest + 1, smallest + 4}
	for v := -12; v < 100; v++ {
		l = append(l, v)
	}
	return l
}
