package query_test

import (
	"math/rand"
	"slices"
	"testing"

	"recoup/api"
	"recoup/command"
	"recoup/outbox"
	"recoup/query"
	"recoup/rma"
	"recoup/saga"
)

// somePolicy is right.
func somePolicy(r *rand.Rand) api.Policy {
	p := api.Policy{Window: r.Intn(200), Final: r.Intn(12) == 0, Exchange: r.Intn(6) == 0, Credit: r.Intn(4) == 0, Grades: grades()}
	for k := range p.Fee {
		p.Fee[k] = r.Intn(3) * r.Intn(5001)
	}
	r.Shuffle(4, func(a, b int) { p.Grades[a], p.Grades[b] = p.Grades[b], p.Grades[a] })
	return p
}

// someConfig is right.
func someConfig(r *rand.Rand) api.Config {
	var c api.Config
	for range 1 + r.Intn(3) {
		c.Table = append(c.Table, somePolicy(r))
	}
	for range 1 + r.Intn(3) {
		o := api.Order{Day: r.Intn(10), Tax: int64(r.Intn(50)), Shipping: int64(r.Intn(50))}
		for range 1 + r.Intn(3) {
			o.Lines = append(o.Lines, api.Line{SKU: 1 + r.Intn(4), Category: r.Intn(len(c.Table)), Price: int64(r.Intn(1000)), Count: 1 + r.Intn(3)})
		}
		o.Discount = r.Int63n(o.Lines[0].Price + 1)
		c.Orders = append(c.Orders, o)
	}
	for _, k := range r.Perm(4)[:r.Intn(5)] {
		c.Supplies = append(c.Supplies, api.Supply{SKU: 1 + k, Price: int64(r.Intn(600)), Count: 1 + r.Intn(2)})
	}
	return c
}

func someRequest(r *rand.Rand, s *saga.Saga) command.Command {
	c := ask(r.Intn(len(s.Config().Orders)))
	for unit, u := range s.Units() {
		if u.Order == c.Order && r.Intn(3) == 0 {
			c.Units = append(c.Units, unit)
		}
	}
	c.Reason, c.Credit, c.Want = r.Intn(4), r.Intn(4) == 0, r.Intn(2)*r.Intn(5)
	return c
}

// someChange is one of a return, mostly one that it needs to go on.
func someChange(r *rand.Rand, one rma.RMA) command.Command {
	switch {
	case r.Intn(10) == 0:
		return of(command.Cancel+r.Intn(4), one.Number)
	case one.State == rma.Labelled:
		return of(command.Pick, one.Number)
	case one.State == rma.Moving:
		return of(command.Receive, one.Number)
	}
	return grade(one.Number, one.Units[r.Intn(len(one.Units))], r.Intn(4))
}

// some is any command, mostly one that may be taken.
func some(r *rand.Rand, s *saga.Saga) command.Command {
	p := s.Parts()
	switch n := r.Intn(10); {
	case n < 3 && len(p.Out) > 0:
		return reply(p.Out[r.Intn(len(p.Out))].Key, r.Intn(3) > 0)
	case n < 6:
		return someRequest(r, s)
	case n < 7:
		return tick(1 + r.Intn([]int{2, 2, 5, 40}[r.Intn(4)]))
	case len(p.RMAs) > 0:
		return someChange(r, p.RMAs[r.Intn(len(p.RMAs))])
	}
	return reply(r.Intn(9), true)
}

// mustHold checks what holds of what is told, whatever was taken: all units are in
// some place, and what is owed is what the account has.
func mustHold(t *testing.T, s *saga.Saga) {
	t.Helper()
	all := 0
	for _, n := range query.Counts(s) {
		all += n
	}
	if all != len(s.Units()) {
		t.Fatal(query.Counts(s))
	}
	open := query.Open(s)
	var owed int64
	for _, r := range s.RMAs() {
		q, _ := query.Of(s, r.Number)
		owed += q.Owed
		if isOpen := slices.Contains(open, r.Number); q.Owed < 0 || !isOpen && (q.Owed != 0 || q.Waits != 0) || isOpen == rma.Done(r) {
			t.Fatalf("%+v of %+v, with %v open", q, r, open)
		}
	}
	if have := s.Ledger().Have[1]; have != owed {
		t.Fatalf("%d; %d is owed", have, owed)
	}
}

// end goes on until nothing is open.
func end(t *testing.T, r *rand.Rand, s *saga.Saga) {
	t.Helper()
	for range 1000 {
		for _, m := range s.Outbox().All() {
			s.Take(reply(m.Key, r.Intn(2) == 0))
		}
		for _, number := range query.Open(s) {
			if one := s.RMAs()[number-1]; one.State == rma.Docked {
				s.Take(grade(number, one.Units[slices.Index(one.Grades, -1)], r.Intn(4)))
			}
		}
		s.Take(tick(1 + r.Intn(5)))
		mustHold(t, s)
		if len(query.Open(s)) == 0 {
			return
		}
	}
	t.Fatalf("%+v doesn't come to an end", s.Parts())
}

func TestAnySagasAreToldAsDue(t *testing.T) {
	r := rand.New(rand.NewSource(1))
	var states [10]int
	answers := map[api.Errno]int{}
	owed, ok, refused := 0, 0, 0
	for range 300 {
		s := create(t, someConfig(r))
		for range r.Intn(120) {
			s.Take(some(r, s))
			if r.Intn(4) > 0 {
				continue
			}
			mustTell(t, s)
			mustHold(t, s)
			a, b := mustMayAsTaken(t, s)
			ok, refused = ok+a, refused+b
			for unit := range s.Units() {
				answers[query.May(s, unit, r.Intn(2) == 0)]++
			}
			for number := range s.RMAs() {
				q, _ := query.Of(s, number+1)
				states[q.State]++
				if q.Owed > 0 && q.Owed < q.Worth {
					owed++
				}
			}
		}
		end(t, r, s)
		mustTell(t, s)
	}
	for state := rma.Open; state <= rma.Cancelled; state++ {
		if states[state] < 100 {
			t.Error(state, states[state])
		}
	}
	for _, e := range []api.Errno{api.OK, api.ErrTaken, api.ErrFinal, api.ErrWindow} {
		if answers[e] < 1000 {
			t.Error(e, answers[e])
		}
	}
	if owed < 20 || ok < 1000 || refused < 1000 {
		t.Error(owed, ok, refused)
	}
}

// spoil changes parts, so that they are some, whether they fit each other or not.
func spoil(r *rand.Rand, p *saga.Parts) {
	for range r.Intn(10) {
		p.Places[r.Intn(len(p.Places))] = r.Intn(9)
	}
	p.Out = slices.DeleteFunc(p.Out, func(m outbox.Message) bool { return m.Kind == outbox.Label })
	for k := range p.RMAs {
		one := &p.RMAs[k]
		for _, sum := range []*int64{&one.Worth, &one.Paid, &one.Credited, &one.Given} {
			if r.Intn(2) == 0 {
				*sum = r.Int63n(richest+1) >> r.Intn(51)
			}
		}
		if r.Intn(2) == 0 {
			one.State = 1 + r.Intn(9)
		}
		if one.Units[0] = r.Intn(one.Units[0] + 1); r.Intn(2) == 0 {
			p.Out = append(p.Out, outbox.Message{Key: p.Next, Kind: 2 + r.Intn(3), RMA: 1 + k, Value: int64(r.Uint64()), Tries: 1})
			p.Next++
		}
	}
	if r.Intn(2) == 0 {
		p.Now = r.Intn(80)
	}
}

func TestSagasOfAnyPartsAreToldAsDue(t *testing.T) {
	r := rand.New(rand.NewSource(2))
	returns := 0
	for range 1000 {
		s := create(t, someConfig(r))
		for range r.Intn(60) {
			s.Take(some(r, s))
		}
		p := s.Parts()
		spoil(r, &p)
		mustTell(t, makeOf(t, p))
		returns += len(p.RMAs)
	}
	if returns < 1500 {
		t.Error(returns)
	}
}
