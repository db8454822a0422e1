package table_test

import (
	"bytes"
	"slices"
	"testing"

	"recoup/api"
)

// someTables are right, short and long.
func someTables() [][]api.Policy {
	return [][]api.Policy{nil, {{}}, alone(sample()), {sample(), {}}, somePolicies()[:16], times(3), times(15), times(16)}
}

func TestBytesCutShortAreNone(t *testing.T) {
	for _, l := range someTables() {
		b := dueBytes(l)
		for n := range b {
			mustNotDecode(t, b[:n])
			mustNotDecode(t, bytes.Clone(b[:n]))
		}
	}
	mustNotDecode(t, nil)
	mustNotDecode(t, []byte{})
}

func TestBytesBehindATableAreNone(t *testing.T) {
	for _, l := range someTables() {
		b := dueBytes(l)
		for _, more := range []int{1, 2, 22, 23, 24, 46, 1000} {
			mustNotDecode(t, append(bytes.Clone(b), make([]byte, more)...))
			mustNotDecode(t, append(bytes.Clone(b), bytes.Repeat([]byte{1}, more)...))
		}
		mustNotDecode(t, append(bytes.Clone(b), b...))
		mustNotDecode(t, append([]byte{0}, b...))
	}
}

func TestTheNumberOfPoliciesIsHowManyThereAre(t *testing.T) {
	for _, l := range someTables() {
		b := dueBytes(l)
		for n := range 1 << 16 {
			if n != len(l) {
				b[0], b[1] = byte(n), byte(n>>8)
				mustNotDecode(t, b)
			}
		}
	}
}

// So many bytes as are told, but more policies than may be.
func TestMorePoliciesThanMayBeAreNone(t *testing.T) {
	for _, n := range []int{17, 18, 32, 33, 255, 256, 257, 271, 272, 273} {
		b := make([]byte, 2+23*n)
		b[0], b[1] = byte(n), byte(n>>8)
		mustNotDecode(t, b)
		mustNotDecode(t, append([]byte{b[0], b[1]}, bytes.Repeat(dueBytes(alone(sample()))[2:], n)...))
	}
	mustDecode(t, append([]byte{16, 0}, make([]byte, 23*16)...), make([]api.Policy, 16))
}

// Each value of each byte of a policy, wherever the policy stands.
func TestEachByteIsAskedOfEachPolicy(t *testing.T) {
	for _, many := range []int{1, 2, 16} {
		for at := range many {
			right := 0
			for place := range 23 {
				b := dueBytes(slices.Repeat(alone(sample()), many))
				for v := range 256 {
					b[2+23*at+place] = byte(v)
					if mustDecodeAsDue(t, b) {
						right++
					}
				}
			}
			if right < 1000 || right > 23*256-1000 {
				t.Error(right, "are right")
			}
		}
	}
}

func TestAKindThatIsNoneIsNone(t *testing.T) {
	b := dueBytes(alone(sample()))
	for k := range 256 {
		b[4] = byte(k)
		if right := mustDecodeAsDue(t, b); right != (k < 8) {
			t.Error(k, right)
		}
	}
}

func TestAPlaceThatIsNoneIsNone(t *testing.T) {
	for n, place := range []int{15, 18, 21, 24} {
		for _, share := range []byte{0, 1} {
			b := dueBytes(alone(withGrade(sample(), n, int(share), 3)))
			for to := range 256 {
				b[place] = byte(to)
				right := to >= 3 && to <= 5 || to == 0 && share == 0
				if got := mustDecodeAsDue(t, b); got != right {
					t.Error(n, share, to, got)
				}
			}
		}
	}
}

// Each U16 of a policy, with each value it can have.
func TestANumberThatIsMoreThanMayBeIsNone(t *testing.T) {
	for k, place := range []int{2, 5, 7, 9, 11, 13, 16, 19, 22} {
		p := sample()
		p.Grades = [4]api.Grade{{To: 3}, {To: 4}, {To: 5}, {To: 3}}
		b, most := dueBytes(alone(p)), 10000
		if k == 0 {
			most = 1000
		}
		for v := range 1 << 16 {
			b[place], b[place+1] = byte(v), byte(v>>8)
			if right := mustDecodeAsDue(t, b); right != (v <= most) {
				t.Error(place, v, right)
			}
		}
	}
}

// A wrong policy is wrong behind, and ahead of, right ones.
func TestBytesOfWrongPoliciesAreNone(t *testing.T) {
	wrong := []api.Policy{
		with(sample(), 0, 1001), with(sample(), 0, 65535), with(sample(), 1, 10001), with(sample(), 4, 65535), withGrade(sample(), 0, 10001, 3),
		withGrade(sample(), 3, 1, 0), withGrade(sample(), 1, 0, 1), withGrade(sample(), 2, 0, 2), withGrade(sample(), 3, 0, 6), withGrade(sample(), 0, 5, 255),
	}
	for _, p := range wrong {
		mustNotDecode(t, dueBytes(alone(p)))
		for at := range 16 {
			l := times(16)
			l[at] = p
			mustNotDecode(t, dueBytes(l))
		}
	}
}

func TestBytesOfOneKindAreNone(t *testing.T) {
	for n := range 600 {
		for _, v := range []byte{0, 1, 2, 3, 4, 5, 7, 8, 16, 127, 128, 255} {
			mustDecodeAsDue(t, bytes.Repeat([]byte{v}, n))
		}
	}
}
