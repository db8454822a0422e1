package table_test

import (
	"slices"
	"testing"

	"recoup/api"
	"recoup/table"
)

func mustNotBeOf(t *testing.T, l []api.Policy, category int) {
	t.Helper()
	if p, e := table.Of(l, category); e != 10 || p != (api.Policy{}) {
		t.Error(len(l), category, p, e)
	}
}

func TestOfTellsTheCategorysPolicy(t *testing.T) {
	for _, l := range someTables() {
		for category, want := range l {
			if p, e := table.Of(l, category); e != 0 || p != want {
				t.Error(l, category, p, e)
			}
		}
	}
}

func TestOfNoSuchCategoryIsAnError(t *testing.T) {
	for _, l := range someTables() {
		for _, category := range []int{-1, -2, -16, smallest, smallest + 1, len(l), len(l) + 1, len(l) + 16, 16, 17, 256, 1 << 16, 1 << 32, greatest - 1, greatest} {
			mustNotBeOf(t, l, category)
		}
	}
	for category := -20; category <= 20; category++ {
		mustNotBeOf(t, nil, category)
		mustNotBeOf(t, []api.Policy{}, category)
	}
}

// Whether the policies are a table isn't asked.
func TestOfPoliciesThatAreNoTable(t *testing.T) {
	wrong := with(sample(), 0, -1)
	if p, e := table.Of([]api.Policy{sample(), wrong}, 1); e != 0 || p != wrong {
		t.Error(p, e)
	}
	l := times(20)
	if p, e := table.Of(l, 19); e != 0 || p != l[19] {
		t.Error(p, e)
	}
	mustNotBeOf(t, l, 20)
	mustNotBeOf(t, l, -1)
}

// mustEqual checks it both ways round.
func mustEqual(t *testing.T, a, b []api.Policy, want bool) {
	t.Helper()
	if table.Equal(a, b) != want || table.Equal(b, a) != want {
		t.Error(a, b, !want)
	}
}

func TestEqualTablesAreEqual(t *testing.T) {
	for n, a := range someTables() {
		for m, b := range someTables() {
			mustEqual(t, a, b, n == m)
		}
	}
	mustEqual(t, nil, []api.Policy{}, true)
	mustEqual(t, nil, nil, true)
	mustEqual(t, nil, make([]api.Policy, 1), false)
}

func TestEachNumberMakesUnequal(t *testing.T) {
	for _, many := range []int{1, 2, 16} {
		for at := range many {
			for n := range 13 {
				for _, by := range []int{1, -1, 256, 1 << 16, 1 << 32, smallest} {
					a, b := times(many), times(many)
					*numbers(&b[at])[n] += by
					mustEqual(t, a, b, false)
					*numbers(&a[at])[n] += by
					mustEqual(t, a, b, true)
				}
			}
		}
	}
}

func TestEachKindMakesUnequal(t *testing.T) {
	for k, turn := range []func(p *api.Policy){
		func(p *api.Policy) { p.Final = !p.Final },
		func(p *api.Policy) { p.Exchange = !p.Exchange },
		func(p *api.Policy) { p.Credit = !p.Credit },
		func(p *api.Policy) { p.Final, p.Exchange = !p.Final, !p.Exchange },
		func(p *api.Policy) { p.Exchange, p.Credit = !p.Exchange, p.Final },
	} {
		for at := range 3 {
			a, b := times(3), times(3)
			turn(&b[at])
			mustEqual(t, a, b, false)
			turn(&a[at])
			mustEqual(t, a, b, true)
			if k < 3 {
				turn(&a[(at+1)%3])
				mustEqual(t, a, b, false)
			}
		}
	}
}

func TestOtherOrderOrNumberIsUnequal(t *testing.T) {
	l := times(4)
	back := times(4)
	slices.Reverse(back)
	mustEqual(t, l, back, false)
	for n := range 5 {
		for m := range 5 {
			mustEqual(t, l[:n], l[:m], n == m)
			mustEqual(t, l[n:], l[m:], n == m)
		}
	}
	mustEqual(t, []api.Policy{sample(), sample()}, alone(sample()), false)
	mustEqual(t, times(20), times(20), true)
}
