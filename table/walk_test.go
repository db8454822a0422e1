package table_test

import (
	"bytes"
	"math/rand"
	"slices"
	"testing"

	"recoup/api"
	"recoup/table"
)

// upTo is as often short as long; now and then it is an end.
func upTo(r *rand.Rand, most int) int {
	switch r.Intn(8) {
	case 0:
		return 0
	case 1:
		return most
	}
	return r.Intn(most+1) >> r.Intn(12)
}

// someGrade is right.
func someGrade(r *rand.Rand) api.Grade {
	if r.Intn(4) == 0 {
		return api.Grade{}
	}
	return api.Grade{Share: upTo(r, 10000), To: 3 + r.Intn(3)}
}

// somePolicy is right.
func somePolicy(r *rand.Rand) api.Policy {
	p := api.Policy{Window: upTo(r, 1000), Final: r.Intn(2) == 0, Exchange: r.Intn(2) == 0, Credit: r.Intn(2) == 0}
	for n := range 4 {
		p.Fee[n], p.Grades[n] = upTo(r, 10000), someGrade(r)
	}
	return p
}

// someTable is right.
func someTable(r *rand.Rand) []api.Policy {
	l := make([]api.Policy, r.Intn(17))
	for k := range l {
		l[k] = somePolicy(r)
	}
	return l
}

func TestSomeTablesAreRight(t *testing.T) {
	r := rand.New(rand.NewSource(1))
	for range 5000 {
		mustBeRight(t, someTable(r))
	}
}

// Some numbers are changed, by little or to any other.
func TestWrongTablesAreDue(t *testing.T) {
	r := rand.New(rand.NewSource(2))
	right := 0
	for range 20000 {
		l := append(someTable(r), somePolicy(r))
		for range 1 + r.Intn(3) {
			v := numbers(&l[r.Intn(len(l))])[r.Intn(13)]
			switch r.Intn(4) {
			case 0:
				*v = wrongNumbers()[r.Intn(len(wrongNumbers()))]
			case 1:
				*v = upTo(r, 10000)
			default:
				*v += r.Intn(5) - 2
			}
		}
		mustBeDue(t, l)
		if table.Right(l) {
			right++
		}
	}
	if right < 2000 || right > 15000 {
		t.Error(right, "are right")
	}
}

// A table's bytes, some of them changed, left out, or put in.
func TestChangedBytesAreDue(t *testing.T) {
	r := rand.New(rand.NewSource(3))
	right := 0
	for range 50000 {
		b := dueBytes(someTable(r))
		for range 1 + r.Intn(2) {
			at := r.Intn(len(b))
			switch r.Intn(10) {
			case 0:
				b = slices.Delete(b, at, min(at+1+r.Intn(30), len(b)))
			case 1:
				b = slices.Insert(b, at, make([]byte, 1+r.Intn(30))...)
			case 2:
				b[at] = byte(r.Intn(256))
			default:
				b[at] += byte(r.Intn(5) - 2)
			}
			b = append(b, 0)[:max(1, len(b))]
		}
		if mustDecodeAsDue(t, b) {
			right++
			mustBeItsOwn(t, b)
		}
	}
	if right < 5000 || right > 45000 {
		t.Error(right, "are right")
	}
}

// mustBeItsOwn checks that a table's bytes are the only ones that are its.
func mustBeItsOwn(t *testing.T, b []byte) {
	t.Helper()
	l, _ := table.Decode(b)
	if own, e := table.Encode(l); e != 0 || !bytes.Equal(own, b) {
		t.Fatal(b, own, e)
	}
}

// Any bytes, that tell how many policies there are.
func TestAnyBytesAreDue(t *testing.T) {
	r := rand.New(rand.NewSource(4))
	for range 20000 {
		n := r.Intn(19)
		b := make([]byte, 2+23*n)
		r.Read(b)
		if r.Intn(2) == 0 {
			clear(b)
			for range r.Intn(4) {
				b[r.Intn(len(b))] = byte(r.Intn(9))
			}
		}
		b[0], b[1] = byte(n), 0
		mustDecodeAsDue(t, b)
		mustDecodeAsDue(t, b[:r.Intn(len(b))])
	}
}

func TestSomeTablesAreEqualAsDue(t *testing.T) {
	r := rand.New(rand.NewSource(5))
	for range 10000 {
		a := append(someTable(r), somePolicy(r))
		b := slices.Clone(a)
		mustEqual(t, a, b, true)
		at := r.Intn(len(a))
		b[at] = somePolicy(r)
		mustEqual(t, a, b, a[at] == b[at])
		mustEqual(t, a, a[:at], false)
		if p, e := table.Of(b, at); e != 0 || p != b[at] {
			t.Fatal(p, e)
		}
	}
}
