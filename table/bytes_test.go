package table_test

import (
	"slices"
	"testing"

	"recoup/api"
	"recoup/table"
)

func TestBytesOfNoPolicies(t *testing.T) {
	for _, l := range [][]api.Policy{nil, {}} {
		if b, e := table.Encode(l); e != 0 || !slices.Equal(b, []byte{0, 0}) {
			t.Error(b, e)
		}
	}
	mustDecode(t, []byte{0, 0}, nil)
}

// The bytes stand here one by one, as they are to be.
func TestBytesOfPolicies(t *testing.T) {
	l := []api.Policy{
		sample(),
		{Window: 1000, Final: true, Fee: [4]int{10000, 258, 0, 256}, Grades: [4]api.Grade{{}, {Share: 9999, To: 5}, {Share: 255, To: 3}, {Share: 256, To: 4}}},
		{},
	}
	want := []byte{
		3, 0,
		2, 1, 6, 1, 0, 2, 0, 3, 0, 16, 39, 16, 39, 3, 136, 19, 4, 2, 3, 5, 0, 0, 0,
		232, 3, 1, 16, 39, 2, 1, 0, 0, 0, 1, 0, 0, 0, 15, 39, 5, 255, 0, 3, 0, 1, 4,
		0, 0, 0, 0, 0, 0, 0, 0, 0, 0, 0, 0, 0, 0, 0, 0, 0, 0, 0, 0, 0, 0, 0,
	}
	for n := range l {
		long := 2 + 23*(n+1)
		part := append([]byte{byte(n + 1), 0}, want[2:long]...)
		if b, e := table.Encode(l[:n+1]); e != 0 || !slices.Equal(b, part) {
			t.Error(b, e)
		}
		mustDecode(t, part, l[:n+1])
	}
}

func TestTheKindIsOneByte(t *testing.T) {
	for k, p := range []api.Policy{
		{}, {Final: true}, {Exchange: true}, {Final: true, Exchange: true},
		{Credit: true}, {Final: true, Credit: true}, {Exchange: true, Credit: true}, {Final: true, Exchange: true, Credit: true},
	} {
		want := make([]byte, 25)
		want[0], want[4] = 1, byte(k)
		mustBeBytes(t, p, want)
	}
}

// Each number has a place of its own among the bytes.
func TestEachNumberIsAtItsPlace(t *testing.T) {
	for n, place := range []int{2, 5, 7, 9, 11, 13, 16, 19, 22} {
		p, want := with(api.Policy{}, n, 261), make([]byte, 25)
		want[0], want[place], want[place+1] = 1, 5, 1
		if n >= 5 {
			// A share goes with a place.
			p, want[place+2] = with(p, n+4, 3), 3
		}
		mustBeBytes(t, p, want)
	}
	for n, place := range []int{15, 18, 21, 24} {
		want := make([]byte, 25)
		want[0], want[place] = 1, 5
		mustBeBytes(t, with(api.Policy{}, 9+n, 5), want)
	}
}

// mustBeBytes checks the bytes of a policy alone.
func mustBeBytes(t *testing.T, p api.Policy, want []byte) {
	t.Helper()
	if b, e := table.Encode(alone(p)); e != 0 || !slices.Equal(b, want) {
		t.Error(p, b, e, want)
	}
	mustDecode(t, want, alone(p))
}

// What follows: what is encoded is decoded as the same.
func TestWhatIsEncodedIsDecoded(t *testing.T) {
	for _, p := range somePolicies() {
		for _, l := range [][]api.Policy{alone(p), {p, p}, {p, sample()}, {sample(), p}, slices.Repeat(alone(p), 16)} {
			b, e := table.Encode(l)
			if e != 0 {
				t.Error(l, e)
			}
			mustDecode(t, b, l)
		}
	}
}

// somePolicies are right, and at the ends of what is.
func somePolicies() []api.Policy {
	l := []api.Policy{{}, sample()}
	for n := range 13 {
		switch {
		case n == 0:
			l = append(l, with(sample(), n, 0), with(sample(), n, 1000))
		case n < 5:
			l = append(l, with(sample(), n, 0), with(sample(), n, 10000))
		case n < 9:
			l = append(l, withGrade(sample(), n-5, 0, 3), withGrade(sample(), n-5, 10000, 4), withGrade(sample(), n-5, 1, 5), withGrade(sample(), n-5, 0, 0))
		}
	}
	return l
}
