package image_test

import (
	"slices"
	"testing"

	"recoup/api"
	"recoup/command"
	"recoup/rma"
	"recoup/saga"
)

// again is a saga that was encoded and decoded.
func again(t *testing.T, s *saga.Saga) *saga.Saga {
	t.Helper()
	return mustDecode(t, mustEncode(t, s), s.Parts())
}

// mustGoOnAlike checks that both answer a command alike, and have the same then.
func mustGoOnAlike(t *testing.T, a, b *saga.Saga, c command.Command) {
	t.Helper()
	value, said, e := a.Take(c)
	v, l, f := b.Take(c)
	if value != v || e != f || !slices.Equal(said, l) {
		t.Fatalf("Take(%+v): %d, %v, %d; want %d, %v, %d", c, v, l, f, value, said, e)
	}
	mustTellAlike(t, b, a)
	mustEqual(t, a, b, true)
}

// What follows: what is decoded goes on as the other one does.
func TestWhatIsDecodedGoesOn(t *testing.T) {
	for _, s := range []*saga.Saga{busy(t), create(t, sample()), inState(t, rma.Docked), inState(t, rma.Settling), inState(t, rma.Closed)} {
		for _, c := range someCommands() {
			one := s.Clone()
			mustGoOnAlike(t, one, again(t, s), c)
			mustGoOnAlike(t, one, again(t, one), tick(1))
		}
	}
}

// Command by command, decoded ahead of each.
func TestItGoesOnByItsBytesAlone(t *testing.T) {
	for _, s := range []*saga.Saga{busy(t), create(t, sample())} {
		other := s
		for _, c := range someCommands() {
			other = again(t, other)
			mustGoOnAlike(t, s, other, c)
		}
	}
}

// All that happens to one return, from the bytes of each state that it is in.
func TestAReturnGoesOnFromEachState(t *testing.T) {
	for _, path := range [][]command.Command{
		{reply(1, true), of(command.Pick, 1), of(command.Receive, 1), grade(1, 0, 1), grade(1, 1, 0), reply(2, true), reply(3, true)},
		{reply(1, true), of(command.Pick, 1), of(command.Receive, 1), grade(1, 1, 3), grade(1, 0, 0), reply(3, false), reply(4, false), reply(5, true), reply(2, false)},
		{reply(1, true), of(command.Pick, 1), tick(29), tick(1), tick(3), reply(2, true), tick(8), reply(3, false)},
		{tick(1), tick(2), tick(4), tick(6), tick(1)},
		{tick(1), tick(2), tick(4), tick(6), reply(1, true), tick(1)},
		{reply(1, true), of(command.Cancel, 1), ask(0, 1)},
		{of(command.Deny, 1), wanting(ask(0, 0), 2), ask(0, 1)},
	} {
		for from := range len(path) + 1 {
			s := inState(t, rma.Open)
			take(t, s, path[:from]...)
			other := again(t, s)
			for _, c := range path[from:] {
				mustGoOnAlike(t, s, other, c)
			}
		}
	}
}

// What a stock can't tell of a unit, that it was received but isn't graded, and is
// away from the dock, is decoded, and stays.
func TestReceivedOnceStays(t *testing.T) {
	for place := range 9 {
		p := create(t, small()).Parts()
		p.Places[0], p.Seen[0] = place, [2]bool{true, false}
		s := makeOf(t, p)
		for range 3 {
			s = again(t, s)
			take(t, s, tick(1))
		}
		if got := s.Parts().Seen[0]; got != [2]bool{true, false} {
			t.Error(place, got)
		}
	}
}

// The keys and the returns' numbers go on where they were.
func TestNumbersGoOn(t *testing.T) {
	s := again(t, busy(t))
	next := s.Parts().Next
	v, said, e := s.Take(ask(0, 7))
	if v != 10 || len(said) != 1 || said[0].Key != next || e != api.OK {
		t.Error(v, said, e)
	}
	s = again(t, s)
	if _, _, e := s.Take(ask(0, 7)); e != api.ErrTaken {
		t.Error(e)
	}
	if _, _, e := s.Take(reply(next, true)); e != api.OK || s.RMAs()[9].State != rma.Labelled {
		t.Error(e)
	}
	s = again(t, s)
	if _, _, e := s.Take(reply(next, true)); e != api.ErrOld {
		t.Error(e)
	}
}

// What was paid once isn't paid again, however often it is decoded.
func TestPaidOnce(t *testing.T) {
	s := again(t, inState(t, rma.Settling))
	for range 3 {
		for _, m := range s.Parts().Out {
			s.Take(reply(m.Key, true))
			s = again(t, s)
			if _, _, e := s.Take(reply(m.Key, true)); e != api.ErrOld {
				t.Error(m, e)
			}
			s = again(t, s)
		}
	}
	if r := s.RMAs()[0]; r.State != rma.Closed || r.Worth != 1000 || r.Paid != 100 || r.Given != 900 || s.Ledger().Have != [5]int64{-1000, 0, 100, 0, 900} {
		t.Errorf("%+v, %v", r, s.Ledger())
	}
}
