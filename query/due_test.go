package query_test

import (
	"fmt"
	"slices"
	"testing"

	"recoup/api"
	"recoup/order"
	"recoup/query"
	"recoup/rma"
	"recoup/saga"
)

// The answers are told here by another hand, out of a saga's parts.

func isReturn(p saga.Parts, number int) bool { return number > 0 && number <= len(p.RMAs) }

func dueStatus(p saga.Parts, number int) (query.Status, api.Errno) {
	if !isReturn(p, number) {
		return query.Status{}, api.ErrNone
	}
	r := p.RMAs[number-1]
	s := query.Status{State: r.State, Worth: r.Worth, Paid: r.Paid, Credited: r.Credited, Given: r.Given}
	if r.State >= 5 {
		s.Owed = s.Worth - (s.Paid + s.Credited + s.Given)
	}
	for _, m := range p.Out {
		if m.RMA == number && m.Kind > 1 {
			s.Waits++
		}
	}
	return s, api.OK
}

// dueHolder is the number of the first return, not done, that has a unit.
func dueHolder(p saga.Parts, unit int) int {
	k := slices.IndexFunc(p.RMAs, func(r rma.RMA) bool { return r.State < 6 && slices.Contains(r.Units, unit) })
	return k + 1
}

func dueUnit(p saga.Parts, unit int) (query.Unit, api.Errno) {
	units, _ := order.Units(p.Config)
	if unit < 0 || unit >= len(units) {
		return query.Unit{}, api.ErrNone
	}
	return query.Unit{Place: p.Places[unit], SKU: units[unit].SKU, RMA: dueHolder(p, unit), Share: units[unit].Share}, api.OK
}

func dueMay(p saga.Parts, unit int, wants bool) api.Errno {
	units, _ := order.Units(p.Config)
	if unit < 0 || unit >= len(units) {
		return api.ErrNone
	}
	if units[unit].Order == -1 || p.Places[unit] > 0 || dueHolder(p, unit) > 0 {
		return api.ErrTaken
	}
	policy := p.Config.Table[units[unit].Category]
	if policy.Final || policy.Exchange && !wants {
		return api.ErrFinal
	}
	if age := p.Now - p.Config.Orders[units[unit].Order].Day; age < 0 || age > policy.Window {
		return api.ErrWindow
	}
	return api.OK
}

func dueLine(p saga.Parts, number int) (string, api.Errno) {
	if !isReturn(p, number) {
		return "", api.ErrNone
	}
	r := p.RMAs[number-1]
	states := []string{"open", "labelled", "moving", "docked", "settling", "closed", "denied", "expired", "cancelled"}
	line := fmt.Sprintf("return %d: %s", number, states[r.State-1])
	for k, sum := range []int64{r.Worth, r.Paid, r.Credited, r.Given} {
		line += fmt.Sprintf(" %s %d.%02d", []string{"worth", "paid", "credited", "given"}[k], sum/100, sum%100)
	}
	return line, api.OK
}

// mustTellReturn checks all that is told of a return.
func mustTellReturn(t *testing.T, s *saga.Saga, p saga.Parts, number int) {
	t.Helper()
	want, e := dueStatus(p, number)
	if got, f := query.Of(s, number); got != want || f != e {
		t.Fatalf("Of(%d): %+v, %d; want %+v, %d", number, got, f, want, e)
	}
	line, e := dueLine(p, number)
	if got, f := query.Line(s, number); got != line || f != e {
		t.Fatalf("Line(%d): %q, %d; want %q, %d", number, got, f, line, e)
	}
}

// mustTellUnit checks all that is told of a unit.
func mustTellUnit(t *testing.T, s *saga.Saga, p saga.Parts, unit int) {
	t.Helper()
	want, e := dueUnit(p, unit)
	if got, f := query.UnitOf(s, unit); got != want || f != e {
		t.Fatalf("UnitOf(%d): %+v, %d; want %+v, %d", unit, got, f, want, e)
	}
	for _, wants := range []bool{false, true} {
		if got, want := query.May(s, unit, wants), dueMay(p, unit, wants); got != want {
			t.Fatalf("May(%d, %v): %d; want %d", unit, wants, got, want)
		}
	}
}

// mustTell checks all that is told of a saga.
func mustTell(t *testing.T, s *saga.Saga) {
	t.Helper()
	p := s.Parts()
	for number := -1; number < len(p.RMAs)+3; number++ {
		mustTellReturn(t, s, p, number)
	}
	var counts [9]int
	for unit, place := range p.Places {
		counts[place]++
		mustTellUnit(t, s, p, unit)
	}
	mustTellUnit(t, s, p, -1)
	mustTellUnit(t, s, p, len(p.Places))
	if got := query.Counts(s); got != counts {
		t.Fatalf("Counts: %v; want %v", got, counts)
	}
	var open []int
	for _, r := range p.RMAs {
		if r.State < 6 {
			open = append(open, r.Number)
		}
	}
	if got := query.Open(s); !slices.Equal(got, open) {
		t.Fatalf("Open: %v; want %v", got, open)
	}
}

func TestSomeSagasAreToldAsDue(t *testing.T) {
	for _, s := range someSagas(t) {
		mustTell(t, s)
		p := s.Parts()
		for _, n := range someNumbers() {
			mustTellReturn(t, s, p, n)
			mustTellUnit(t, s, p, n)
		}
	}
}
