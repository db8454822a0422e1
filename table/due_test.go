package table_test

import (
	"encoding/binary"
	"math"
	"slices"
	"testing"

	"recoup/api"
	"recoup/table"
)

const (
	greatest = math.MaxInt64
	smallest = math.MinInt64
)

// sample is a right policy that has no two numbers of one field alike.
func sample() api.Policy {
	return api.Policy{
		Window: 258, Exchange: true, Credit: true,
		Fee:    [4]int{1, 2, 3, 10000},
		Grades: [4]api.Grade{{Share: 10000, To: 3}, {Share: 5000, To: 4}, {Share: 770, To: 5}, {}},
	}
}

// times is n policies, by their Window told from each other.
func times(n int) []api.Policy {
	l := make([]api.Policy, n)
	for k := range l {
		l[k] = sample()
		l[k].Window = k
	}
	return l
}

// alone is a table of one policy.
func alone(p api.Policy) []api.Policy { return []api.Policy{p} }

// numbers are all numbers of a policy: at 0 the Window, from 1 the Fees, from 5
// the Shares, from 9 where they go.
func numbers(p *api.Policy) []*int {
	return []*int{
		&p.Window, &p.Fee[0], &p.Fee[1], &p.Fee[2], &p.Fee[3],
		&p.Grades[0].Share, &p.Grades[1].Share, &p.Grades[2].Share, &p.Grades[3].Share,
		&p.Grades[0].To, &p.Grades[1].To, &p.Grades[2].To, &p.Grades[3].To,
	}
}

// with is a policy, one of whose numbers is v.
func with(p api.Policy, n, v int) api.Policy {
	*numbers(&p)[n] = v
	return p
}

// withGrade is a policy, one of whose grades is another.
func withGrade(p api.Policy, n, share, to int) api.Policy {
	p.Grades[n] = api.Grade{Share: share, To: to}
	return p
}

// wrongNumbers are wrong as any number of a policy.
func wrongNumbers() []int {
	return []int{-1, -2, -256, -10000, 10001, 1 << 16, 1<<16 + 3, 1<<16 - 1, 1 << 32, 1<<32 + 5, 1 << 62, smallest, smallest + 1, smallest + 3, greatest, greatest - 1}
}

// mustBeRight checks all that holds of a table: it is one, has these bytes, and
// they have it.
func mustBeRight(t *testing.T, l []api.Policy) {
	t.Helper()
	want := dueBytes(l)
	b, e := table.Encode(l)
	if !table.Right(l) || e != 0 || !slices.Equal(b, want) {
		t.Errorf("of %v: %v, %v, %d; want %v", l, table.Right(l), b, e, want)
	}
	mustDecode(t, want, l)
}

// mustBeWrong checks that policies are no table.
func mustBeWrong(t *testing.T, l []api.Policy) {
	t.Helper()
	b, e := table.Encode(l)
	if table.Right(l) || e != 1 || len(b) != 0 {
		t.Errorf("of %v: %v, %v, %d", l, table.Right(l), b, e)
	}
}

// mustBeDue checks whether policies are a table.
func mustBeDue(t *testing.T, l []api.Policy) {
	t.Helper()
	if dueRight(l) {
		mustBeRight(t, l)
	} else {
		mustBeWrong(t, l)
	}
}

// mustDecode checks that bytes are a table's.
func mustDecode(t *testing.T, b []byte, want []api.Policy) {
	t.Helper()
	got, e := table.Decode(b)
	if e != 0 || !slices.Equal(got, want) || !table.Equal(got, want) {
		t.Errorf("of %v: %v, %d; want %v", b, got, e, want)
	}
}

// mustNotDecode checks that bytes are no table's.
func mustNotDecode(t *testing.T, b []byte) {
	t.Helper()
	if got, e := table.Decode(b); e != 3 || len(got) != 0 {
		t.Errorf("of %v: %v, %d", b, got, e)
	}
}

// mustDecodeAsDue checks bytes, be they a table's or not.
func mustDecodeAsDue(t *testing.T, b []byte) (right bool) {
	t.Helper()
	l, right := dueTable(b)
	if right {
		mustDecode(t, b, l)
	} else {
		mustNotDecode(t, b)
	}
	return right
}

// The dues are told by another hand: each byte by where it is.

// oneLong is how many bytes a policy has: those of a Window, a U8, four Fees,
// and four grades.
const oneLong = 2 + 1 + 4*2 + 4*3

func dueRight(l []api.Policy) bool {
	for _, p := range l {
		for n, v := range numbers(&p) {
			if *v < 0 || n == 0 && *v > 1000 || n > 0 && *v > 10000 {
				return false
			}
		}
		for _, g := range p.Grades {
			if !slices.Contains([]int{0, 3, 4, 5}, g.To) || g.To == 0 && g.Share > 0 {
				return false
			}
		}
	}
	return len(l) < 17
}

func dueBytes(l []api.Policy) []byte {
	b := make([]byte, 2+oneLong*len(l))
	b[0] = byte(len(l))
	for k, p := range l {
		one := b[2+oneLong*k:]
		binary.LittleEndian.PutUint16(one, uint16(p.Window))
		one[2] = dueKind(p)
		for n := range 4 {
			binary.LittleEndian.PutUint16(one[3+2*n:], uint16(p.Fee[n]))
			binary.LittleEndian.PutUint16(one[11+3*n:], uint16(p.Grades[n].Share))
			one[13+3*n] = byte(p.Grades[n].To)
		}
	}
	return b
}

func dueKind(p api.Policy) byte {
	for k := range byte(8) {
		if p.Final == (k%2 == 1) && p.Exchange == (k/2%2 == 1) && p.Credit == (k/4 == 1) {
			return k
		}
	}
	return 255
}

func dueTable(b []byte) ([]api.Policy, bool) {
	if len(b) < 2 || b[1] != 0 || len(b) != 2+oneLong*int(b[0]) {
		return nil, false
	}
	l := make([]api.Policy, b[0])
	for k := range l {
		one := b[2+oneLong*k:]
		p := api.Policy{Window: int(one[0]) + 256*int(one[1])}
		p.Final, p.Exchange, p.Credit = one[2]%2 == 1, one[2]/2%2 == 1, one[2]/4%2 == 1
		if one[2] > 7 {
			return nil, false
		}
		for n := range 4 {
			p.Fee[n] = int(one[3+2*n]) + 256*int(one[4+2*n])
			p.Grades[n] = api.Grade{Share: int(one[11+3*n]) + 256*int(one[12+3*n]), To: int(one[13+3*n])}
		}
		l[k] = p
	}
	return l, dueRight(l)
}
