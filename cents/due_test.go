package cents_test

import (
	"math"
	"math/big"
	"testing"

	"recoup/api"
	"recoup/cents"
)

const (
	most     = 1 << 50
	least    = -most
	greatest = math.MaxInt64
	smallest = math.MinInt64
)

// answer is what a call tells, or is due to tell.
type answer struct {
	n int64
	e api.Errno
}

// told makes one of what a call tells.
func told(n int64, e api.Errno) answer { return answer{n, e} }

// refused is an answer of an error alone.
func refused(e api.Errno) answer { return answer{0, e} }

// must checks one answer; of is what was asked.
func must(t *testing.T, call string, got, want answer, of ...any) {
	t.Helper()
	if got != want {
		t.Errorf("%s of %v: %d, %d; want %d, %d", call, of, got.n, got.e, want.n, want.e)
	}
}

// The dues are told by another hand: with numbers of any length.

func number(v int64) *big.Int { return big.NewInt(v) }

// within tells whether a number is from low to high.
func within(v *big.Int, low, high int64) bool {
	return v.Cmp(number(low)) >= 0 && v.Cmp(number(high)) <= 0
}

// isRight is due of Right.
func isRight(v *big.Int) bool { return within(v, -1<<50, 1<<50) }

// dueOf is due of what comes of some sums; all of them are checked.
func dueOf(came *big.Int, sums ...int64) answer {
	for _, a := range sums {
		if !isRight(number(a)) {
			return refused(9)
		}
	}
	if !isRight(came) {
		return refused(9)
	}
	return answer{came.Int64(), 0}
}

func dueAdd(a, b int64) answer {
	return dueOf(new(big.Int).Add(number(a), number(b)), a, b)
}

func dueSub(a, b int64) answer {
	return dueOf(new(big.Int).Sub(number(a), number(b)), a, b)
}

func dueTimes(a int64, n int) answer {
	return dueOf(new(big.Int).Mul(number(a), number(int64(n))), a)
}

func duePart(a, n, of int64) answer {
	if !within(number(a), 0, 1<<50) {
		return refused(9)
	}
	if of <= 0 || n < 0 || n > of {
		return refused(1)
	}
	share := new(big.Int).Mul(number(a), number(n))
	return answer{share.Div(share, number(of)).Int64(), 0}
}

func duePoints(a int64, points int) answer { return duePart(a, int64(points), 10000) }

func dueSum(l []int64) answer {
	all := new(big.Int)
	for _, a := range l {
		if all.Add(all, number(a)); dueOf(all, a).e != 0 {
			return refused(9)
		}
	}
	return answer{all.Int64(), 0}
}

// mustAllOfTwo checks all that is asked of a sum and another number.
func mustAllOfTwo(t *testing.T, a, b int64) {
	t.Helper()
	if got := cents.Right(a); got != isRight(number(a)) {
		t.Errorf("Right of %d: %v", a, got)
	}
	must(t, "Add", told(cents.Add(a, b)), dueAdd(a, b), a, b)
	must(t, "Sub", told(cents.Sub(a, b)), dueSub(a, b), a, b)
	must(t, "Times", told(cents.Times(a, int(b))), dueTimes(a, int(b)), a, b)
	must(t, "Points", told(cents.Points(a, int(b))), duePoints(a, int(b)), a, b)
	must(t, "Sum", told(cents.Sum([]int64{a, b})), dueSum([]int64{a, b}), a, b)
}

// edges are numbers at, and one off, what the document names and what a
// machine's numbers end at.
func edges() []int64 {
	l := []int64{smallest, smallest + 1, greatest, greatest - 1}
	for _, v := range []int64{0, 2, 10, 7500, 10000, 1 << 13, 1 << 25, 1 << 31, 1 << 32, 1 << 49, most / 3, most, 1 << 51, 1 << 62} {
		l = append(l, v-1, v, v+1, -v-1, -v, -v+1)
	}
	return l
}
