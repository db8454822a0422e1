package query_test

import (
	"slices"
	"testing"

	"recoup/api"
	"recoup/command"
	"recoup/outbox"
	"recoup/query"
	"recoup/rma"
	"recoup/saga"
)

func mustBe(t *testing.T, s *saga.Saga, number int, want query.Status) {
	t.Helper()
	if got, e := query.Of(s, number); got != want || e != api.OK {
		t.Errorf("Of(%d): %+v, %d; want %+v", number, got, e, want)
	}
}

func TestAReturnInEachState(t *testing.T) {
	s := busy(t)
	for number, want := range map[int]query.Status{
		1: {State: rma.Open},
		2: {State: rma.Labelled},
		3: {State: rma.Moving},
		4: {State: rma.Docked, Waits: 1},
		5: {State: rma.Settling, Worth: 990, Owed: 990, Waits: 2},
		6: {State: rma.Closed, Worth: 495, Credited: 495},
		7: {State: rma.Denied},
		8: {State: rma.Expired},
		9: {State: rma.Cancelled},
	} {
		mustBe(t, s, number, want)
	}
}

// What a return is worth by now isn't owed before all of it is graded.
func TestWhatIsOwed(t *testing.T) {
	s := create(t, sample())
	dock(t, s, wanting(ask(0, 0, 1), 2))
	mustBe(t, s, 1, query.Status{State: rma.Docked})
	take(t, s, grade(1, 1, 1))
	mustBe(t, s, 1, query.Status{State: rma.Docked, Worth: 495})
	said := take(t, s, grade(1, 0, 0))
	mustBe(t, s, 1, query.Status{State: rma.Settling, Worth: 1485, Owed: 1485, Waits: 2})
	take(t, s, reply(said[0].Key, true))
	mustBe(t, s, 1, query.Status{State: rma.Settling, Worth: 1485, Given: 900, Owed: 585, Waits: 1})
	take(t, s, tick(1))
	mustBe(t, s, 1, query.Status{State: rma.Settling, Worth: 1485, Given: 900, Owed: 585, Waits: 1})
	take(t, s, reply(said[1].Key, true))
	mustBe(t, s, 1, query.Status{State: rma.Closed, Worth: 1485, Given: 900, Paid: 585})
}

func TestWhatIsOwedIfAReplyIsNo(t *testing.T) {
	s := create(t, sample())
	dock(t, s, because(wanting(ask(0, 0, 1), 2), 1))
	take(t, s, grade(1, 1, 0))
	said := take(t, s, grade(1, 0, 0))
	mustBe(t, s, 1, query.Status{State: rma.Settling, Worth: 1782, Owed: 1782, Waits: 2})
	take(t, s, reply(said[1].Key, false))
	mustBe(t, s, 1, query.Status{State: rma.Settling, Worth: 1782, Credited: 882, Owed: 900, Waits: 1})
	said = take(t, s, reply(said[0].Key, false))
	mustBe(t, s, 1, query.Status{State: rma.Settling, Worth: 1782, Credited: 882, Owed: 900, Waits: 1})
	take(t, s, reply(said[0].Key, true))
	mustBe(t, s, 1, query.Status{State: rma.Closed, Worth: 1782, Credited: 882, Paid: 900})
}

func TestWhatIsOwedForALostOne(t *testing.T) {
	s := busy(t)
	take(t, s, tick(30))
	mustBe(t, s, 3, query.Status{State: rma.Settling, Worth: 990, Owed: 990, Waits: 1})
}

// Whatever a return has, nothing is owed for it ahead of settling; from there on it
// is what is left, also less than nothing.
func TestWhatIsOwedInEachState(t *testing.T) {
	for state := rma.Open; state <= rma.Cancelled; state++ {
		for _, l := range [][5]int64{
			{0, 0, 0, 0, 0}, {1000, 0, 0, 0, 1000}, {1000, 1, 0, 0, 999}, {1000, 0, 20, 0, 980}, {1000, 0, 0, 300, 700},
			{1000, 1, 20, 300, 679}, {1000, 300, 300, 400, 0}, {0, 1, 2, 4, -7}, {richest, 0, 0, 0, richest},
			{0, richest, richest, richest, -3 * richest}, {richest, richest, 0, 0, 0}, {richest, 1, richest, 0, -1},
		} {
			want := query.Status{State: state, Worth: l[0], Paid: l[1], Credited: l[2], Given: l[3]}
			if state >= rma.Settling {
				want.Owed = l[4]
			}
			mustBe(t, with(t, state, l[0], l[1], l[2], l[3]), 1, want)
		}
	}
}

// A Label isn't waited for, but each other kind is; so is none of another return.
func TestHowManyMessagesWait(t *testing.T) {
	s := changed(t, func(p *saga.Parts) {
		p.Out = nil
		for k, m := range [][2]int{{outbox.Label, 1}, {outbox.Pay, 1}, {outbox.Ship, 1}, {outbox.Back, 1}, {outbox.Back, 1}, {outbox.Pay, 2}, {outbox.Ship, 9}, {outbox.Label, 1}} {
			p.Out = append(p.Out, outbox.Message{Key: k + 1, Kind: m[0], RMA: m[1], Tries: 1})
		}
	})
	for number, want := range []int{4, 1, 0, 0, 0, 0, 0, 0, 1} {
		if got, e := query.Of(s, number+1); got.Waits != want || e != api.OK {
			t.Errorf("Of(%d): %+v, %d; want %d", number+1, got, e, want)
		}
	}
}

func TestOpen(t *testing.T) {
	s := busy(t)
	mustBeOpen(t, s, 1, 2, 3, 4, 5)
	take(t, s, of(command.Cancel, 2))
	mustBeOpen(t, s, 1, 3, 4, 5)
	take(t, s, tick(11))
	mustBeOpen(t, s, 3, 4, 5)
	take(t, s, grade(4, 3, 2))
	mustBeOpen(t, s, 3, 4, 5)
	for _, m := range s.Outbox().All() {
		take(t, s, reply(m.Key, true))
	}
	mustBeOpen(t, s, 3)
	take(t, s, of(command.Receive, 3), grade(3, 2, 2))
	mustBeOpen(t, s)
	take(t, create(t, sample()), ask(0, 0))
	mustBeOpen(t, create(t, sample()))
	mustBeOpen(t, many(t), 60, 70, 80, 90, 100)
}

func mustBeOpen(t *testing.T, s *saga.Saga, want ...int) {
	t.Helper()
	if got := query.Open(s); !slices.Equal(got, want) {
		t.Errorf("Open: %v; want %v", got, want)
	}
}
