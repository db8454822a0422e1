package cents_test

import (
	"math/rand"
	"testing"

	"recoup/cents"
)

// someNumber is as often short as long; now and then it is an edge.
func someNumber(r *rand.Rand) int64 {
	if l := edges(); r.Intn(4) == 0 {
		return l[r.Intn(len(l))]
	}
	v := r.Int63() >> r.Intn(63)
	if r.Intn(3) == 0 {
		return -v
	}
	return v
}

func TestAllIsDue(t *testing.T) {
	r := rand.New(rand.NewSource(5))
	for range 100000 {
		mustAllOfTwo(t, someNumber(r), someNumber(r))
	}
}

// Most of these parts aren't refused.
func TestPartIsDue(t *testing.T) {
	r := rand.New(rand.NewSource(6))
	for range 100000 {
		a, n, of := r.Int63n(most+1)>>r.Intn(51), someNumber(r), someNumber(r)
		if n > of && r.Intn(9) != 0 {
			n, of = of, n
		}
		must(t, "Part", told(cents.Part(a, n, of)), duePart(a, n, of), a, n, of)
	}
}

// Long lists go near the limits and off again.
func TestSumIsDue(t *testing.T) {
	taken := 0
	for seed := range int64(5000) {
		r := rand.New(rand.NewSource(seed))
		l := make([]int64, r.Intn(40))
		for k := range l {
			l[k] = (r.Int63n(2*most+1) - most) >> r.Intn(9)
		}
		must(t, "Sum", told(cents.Sum(l)), dueSum(l), l)
		if _, e := cents.Sum(l); e == 0 {
			taken++
		}
	}
	if taken < 500 || taken > 4500 {
		t.Error(taken, "of 5000 are taken")
	}
}

// A part and what is left of it, to the whole.
func TestPartsAreNeverMoreThanTheWhole(t *testing.T) {
	r := rand.New(rand.NewSource(7))
	for range 10000 {
		a, of := r.Int63n(most+1), 1+r.Int63()>>r.Intn(63)
		n := r.Int63n(of)
		one, _ := cents.Part(a, n, of)
		other, _ := cents.Part(a, of-n, of)
		if all, e := cents.Add(one, other); e != 0 || all > a || all < a-1 {
			t.Fatal(a, n, of, one, other)
		}
	}
}
