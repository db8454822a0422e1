package image_test

import (
	"bytes"
	"math/rand"
	"slices"
	"testing"

	"recoup/api"
	"recoup/command"
	"recoup/image"
	"recoup/outbox"
	"recoup/rma"
	"recoup/saga"
	"recoup/timer"
)

// somePolicy is right.
func somePolicy(r *rand.Rand) api.Policy {
	p := api.Policy{Window: r.Intn(200), Final: r.Intn(12) == 0, Exchange: r.Intn(10) == 0, Credit: r.Intn(4) == 0}
	for k := range p.Fee {
		p.Fee[k] = []int{0, 1000, r.Intn(10001)}[r.Intn(3)]
	}
	for k := range p.Grades {
		if to := []int{0, 3, 4, 5}[r.Intn(4)]; to > 0 {
			p.Grades[k] = api.Grade{To: to, Share: []int{0, 10000, r.Intn(10001)}[r.Intn(3)]}
		}
	}
	return p
}

// someConfig is right.
func someConfig(r *rand.Rand) api.Config {
	var c api.Config
	for range 1 + r.Intn(3) {
		c.Table = append(c.Table, somePolicy(r))
	}
	for range 1 + r.Intn(3) {
		o := api.Order{Day: r.Intn(10), Tax: int64(r.Intn(50)), Shipping: int64(r.Intn(50))}
		for range 1 + r.Intn(3) {
			line := api.Line{SKU: 1 + r.Intn(4), Category: r.Intn(len(c.Table)), Price: int64(r.Intn(1000)), Count: 1 + r.Intn(3)}
			o.Lines = append(o.Lines, line)
			o.Discount += line.Price / int64(1+r.Intn(9))
		}
		c.Orders = append(c.Orders, o)
	}
	for _, k := range r.Perm(4)[:r.Intn(5)] {
		c.Supplies = append(c.Supplies, api.Supply{SKU: 1 + k, Price: int64(r.Intn(600)), Count: 1 + r.Intn(2)})
	}
	return c
}

// some is any command, mostly one that may be taken.
func some(r *rand.Rand, s *saga.Saga) command.Command {
	p := s.Parts()
	switch n := r.Intn(10); {
	case n < 3 && len(p.Out) > 0:
		return reply(p.Out[r.Intn(len(p.Out))].Key, r.Intn(3) > 0)
	case n < 5:
		return someRequest(r, s)
	case n < 6:
		return tick(1 + r.Intn([]int{2, 2, 5, 40}[r.Intn(4)]))
	case n < 9 && len(p.RMAs) > 0:
		return someChange(r, p.RMAs[r.Intn(len(p.RMAs))])
	}
	return someCommands()[r.Intn(len(someCommands()))]
}

func someRequest(r *rand.Rand, s *saga.Saga) command.Command {
	c := ask(r.Intn(len(s.Config().Orders)))
	for unit, u := range s.Units() {
		if u.Order == c.Order && r.Intn(3) == 0 {
			c.Units = append(c.Units, unit)
		}
	}
	c.Reason, c.Credit = r.Intn(4), r.Intn(4) == 0
	if r.Intn(2) == 0 {
		c.Want = 1 + r.Intn(4)
	}
	return c
}

// someChange is one of a return, mostly one that it needs to go on.
func someChange(r *rand.Rand, one rma.RMA) command.Command {
	switch {
	case r.Intn(12) == 0:
		return of(command.Cancel+r.Intn(4), one.Number)
	case one.State == rma.Labelled:
		return of(command.Pick, one.Number)
	case one.State == rma.Moving:
		return of(command.Receive, one.Number)
	}
	return grade(one.Number, one.Units[r.Intn(len(one.Units))], r.Intn(4))
}

// mustEnd answers all that is said, and grades all, of two sagas, until nothing is
// left to say of either.
func mustEnd(t *testing.T, r *rand.Rand, a, b *saga.Saga) {
	t.Helper()
	for range 1000 {
		p := a.Parts()
		for _, m := range p.Out {
			if r.Intn(2) == 0 {
				mustGoOnAlike(t, a, b, reply(m.Key, r.Intn(2) == 0))
			}
		}
		for _, one := range p.RMAs {
			if one.State == rma.Docked {
				mustGoOnAlike(t, a, b, grade(one.Number, one.Units[slices.Index(one.Grades, -1)], r.Intn(4)))
			}
		}
		mustGoOnAlike(t, a, b, tick(1+r.Intn(5)))
		if p = a.Parts(); len(p.Out) == 0 && !slices.ContainsFunc(p.RMAs, func(r rma.RMA) bool { return !rma.Done(r) }) {
			mustBeEven(t, b)
			return
		}
	}
	t.Fatalf("%+v doesn't come to an end", a.Parts())
}

// mustBeEven checks the accounts of a saga that came to its end: what each return
// is worth was paid, and no more.
func mustBeEven(t *testing.T, s *saga.Saga) {
	t.Helper()
	var want [5]int64
	for _, r := range s.RMAs() {
		if r.Worth != r.Paid+r.Credited+r.Given {
			t.Errorf("%+v", r)
		}
		want = [5]int64{want[0] - r.Worth, 0, want[2] + r.Paid, want[3] + r.Credited, want[4] + r.Given}
	}
	if s.Ledger().Have != want {
		t.Errorf("%v; want %v", s.Ledger().Have, want)
	}
}

// Beside a saga that was never encoded goes one that is decoded now and then: to
// the end they answer alike, and have the same bytes.
func TestAnySagasGoOn(t *testing.T) {
	r := rand.New(rand.NewSource(1))
	var states [10]int
	decoded, taken, waited := 0, 0, 0
	for range 400 {
		a := create(t, someConfig(r))
		b := a.Clone()
		for range r.Intn(150) {
			c := some(r, a)
			before := len(a.Parts().Out)
			mustGoOnAlike(t, a, b, c)
			if r.Intn(3) > 0 {
				continue
			}
			b = again(t, b)
			decoded++
			if before > 0 {
				waited++
			}
		}
		for _, one := range a.RMAs() {
			states[one.State]++
			taken++
		}
		mustEnd(t, r, a, again(t, b))
	}
	if decoded < 5000 || waited < 1000 || taken < 1000 {
		t.Error(decoded, waited, taken)
	}
	for state := rma.Open; state <= rma.Cancelled; state++ {
		if states[state] < 10 {
			t.Error(state, states[state])
		}
	}
}

// Two go on from the same bytes, each its own way.
func TestAnyTwoOfTheSameBytesAreApart(t *testing.T) {
	r := rand.New(rand.NewSource(2))
	for range 100 {
		s := create(t, someConfig(r))
		for range r.Intn(60) {
			s.Take(some(r, s))
		}
		a, b := again(t, s), again(t, s)
		x, y := s.Clone(), s.Clone()
		for range 30 {
			if r.Intn(2) == 0 {
				mustGoOnAlike(t, x, a, some(r, x))
			} else {
				mustGoOnAlike(t, y, b, some(r, y))
			}
		}
		mustEqual(t, a, b, alike(x.Parts(), y.Parts()))
	}
}

// someParts are any that a saga may have, whether they fit each other or not.
func someParts(t *testing.T, r *rand.Rand) saga.Parts {
	t.Helper()
	s := create(t, someConfig(r))
	for range r.Intn(80) {
		s.Take(some(r, s))
	}
	p := s.Parts()
	for range r.Intn(10) {
		k := r.Intn(len(p.Places))
		p.Places[k], p.Seen[k] = r.Intn(9), [3][2]bool{{}, {true, false}, {true, true}}[r.Intn(3)]
		p.Ledger.Have[r.Intn(5)] = r.Int63n(2*richest+1) - richest
	}
	for k := range p.RMAs {
		someSums(r, &p.RMAs[k])
		if m := (outbox.Message{Key: p.Next, Kind: 2 + r.Intn(3), RMA: 1 + k, Value: int64(r.Uint64()), Tries: 1 + r.Intn(65535), Due: int(r.Uint32())}); r.Intn(3) == 0 {
			p.Out = append(p.Out, m)
			p.Next += 1 + r.Intn(1<<24)
		}
	}
	if r.Intn(2) == 0 {
		p.Now = r.Intn(api.MaxDay + 1)
	}
	p.Timers = nil
	for _, k := range r.Perm(len(p.RMAs)) {
		if r.Intn(2) == 0 {
			p.Timers = append(p.Timers, timer.Timer{Day: int(r.Uint32() >> r.Intn(32)), Number: k + 1})
		}
	}
	return p
}

// someSums changes a return, so that it is right.
func someSums(r *rand.Rand, one *rma.RMA) {
	for _, sum := range []*int64{&one.Worth, &one.Paid, &one.Credited, &one.Given} {
		if r.Intn(2) == 0 {
			*sum = r.Int63n(richest + 1)
		}
	}
	one.Day, one.Want, one.Reason = r.Intn(api.MaxDay+1), r.Intn(1001), r.Intn(4)
	for k := range one.Grades {
		one.Grades[k] = r.Intn(6) - 1
	}
}

// Of whatever parts a saga is made, it has the bytes that are due, and is decoded
// of them.
func TestAnyPartsAreDecoded(t *testing.T) {
	r := rand.New(rand.NewSource(3))
	returns := 0
	for range 300 {
		p := someParts(t, r)
		s := makeOf(t, p)
		other := again(t, s)
		mustEqual(t, s, other, true)
		for range 5 {
			c := some(r, s)
			_, said, e := s.Take(c)
			if _, l, f := other.Take(c); e != f || !slices.Equal(said, l) || !alike(s.Parts(), other.Parts()) {
				t.Fatal(c, e, f, said, l)
			}
		}
		returns += len(p.RMAs)
	}
	if returns < 500 {
		t.Error(returns)
	}
}

// A saga's bytes, some of them changed, left out, or put in.
func TestChangedBytesAreDue(t *testing.T) {
	r := rand.New(rand.NewSource(4))
	decoded := 0
	for range 300 {
		whole := dueBytes(makeOf(t, someParts(t, r)).Parts())
		for range 20 {
			b := bytes.Clone(whole)
			for range 1 + r.Intn(2) {
				at := r.Intn(len(b))
				switch r.Intn(8) {
				case 0:
					b = slices.Delete(b, at, min(at+1+r.Intn(30), len(b)))
				case 1:
					b = slices.Insert(b, at, make([]byte, 1+r.Intn(30))...)
				case 2:
					b[at] = byte(r.Intn(256))
				default:
					b[at] += byte(r.Intn(5) - 2)
				}
				b = append(b, 0)[:max(1, len(b))]
			}
			if mustDecodeAsDue(t, b) {
				decoded++
			}
		}
	}
	if decoded < 1500 || decoded > 5000 {
		t.Error(decoded, "are decoded")
	}
}

func TestAnyBytesAreDue(t *testing.T) {
	r := rand.New(rand.NewSource(5))
	decoded := 0
	head := []byte{6, 0, 2, 0, 0, 0, 0, 0}
	for range 20000 {
		b := make([]byte, 40+5+1+1+6)
		for k := range b {
			if r.Intn(8) == 0 && k%8 < 6 {
				b[k] = byte(r.Intn(1 << r.Intn(9)))
			}
		}
		b = append(bytes.Clone(head), b[:r.Intn(2)*(len(b)-52)+52]...)
		if mustDecodeAsDue(t, b) {
			decoded++
		}
		noise := make([]byte, r.Intn(200))
		r.Read(noise)
		mustDecodeAsDue(t, noise)
	}
	if decoded < 100 || decoded > 15000 {
		t.Error(decoded, "are decoded")
	}
}

// Any two are equal just if they have the same parts.
func TestAnySagasAreEqualAsDue(t *testing.T) {
	r := rand.New(rand.NewSource(6))
	equal := 0
	for range 300 {
		a := makeOf(t, someParts(t, r))
		b := a.Clone()
		for range r.Intn(3) {
			b.Take(some(r, b))
		}
		want := alike(a.Parts(), b.Parts())
		mustEqual(t, a, b, want)
		mustEqual(t, a, makeOf(t, someParts(t, r)), false)
		if want {
			equal++
		}
		if image.Equal(a, nil) {
			t.Error("nil")
		}
	}
	if equal < 100 || equal > 250 {
		t.Error(equal)
	}
}
