package image_test

import (
	"math"
	"testing"

	"recoup/api"
	"recoup/image"
	"recoup/outbox"
	"recoup/rma"
	"recoup/saga"
)

// Each number that may be greater than its bytes, just in and just not.
func TestNumbersThatDoNotGoIn(t *testing.T) {
	for k, c := range []struct {
		set  func(p *saga.Parts, v int)
		most int
	}{
		{func(p *saga.Parts, v int) { p.Timers[0].Day = v }, math.MaxUint32},
		{func(p *saga.Parts, v int) { p.Timers[2].Day = v }, math.MaxUint32},
		{func(p *saga.Parts, v int) { p.Next = v }, math.MaxUint32},
		{func(p *saga.Parts, v int) { p.Out[0].Tries = v }, math.MaxUint16},
		{func(p *saga.Parts, v int) { p.Out[3].Tries = v }, math.MaxUint16},
		{func(p *saga.Parts, v int) { p.Out[0].Due = v }, math.MaxUint32},
		{func(p *saga.Parts, v int) { p.Out[3].Due = v }, math.MaxUint32},
	} {
		for _, v := range []int{c.most - 1, c.most} {
			s := changed(t, func(p *saga.Parts) { c.set(p, v) })
			mustDecode(t, mustEncode(t, s), s.Parts())
		}
		for _, v := range []int{c.most + 1, c.most + 2, 2*c.most + 2, 1 << 32, 1<<32 + 5, 1 << 40, greatest} {
			if s := changed(t, func(p *saga.Parts) { c.set(p, v) }); v <= c.most {
				t.Error(k, v)
			} else {
				mustNotEncode(t, s)
			}
		}
	}
}

// A message's day isn't asked when a saga is made: so it may be below 0.
func TestADayBelowZeroDoesNotGoIn(t *testing.T) {
	for k := range 4 {
		for _, v := range []int{-1, -2, -1 << 32, -1<<32 + 5, smallest, smallest + 5} {
			mustNotEncode(t, changed(t, func(p *saga.Parts) { p.Out[k].Due = v }))
		}
	}
}

// A key that doesn't go in is below a next one that doesn't, either.
func TestKeysThatDoNotGoIn(t *testing.T) {
	for _, key := range []int{math.MaxUint32, math.MaxUint32 + 1, 1<<32 + 5, greatest - 1} {
		mustNotEncode(t, changed(t, func(p *saga.Parts) { p.Out[3].Key, p.Next = key, key+1 }))
	}
	s := changed(t, func(p *saga.Parts) { p.Out[3].Key, p.Next = math.MaxUint32-1, math.MaxUint32 })
	b := mustEncode(t, s)
	mustDecode(t, b, s.Parts())
	take(t, s, ask(0, 7))
	mustNotEncode(t, s)
	mustDecode(t, b, changed(t, func(p *saga.Parts) { p.Out[3].Key, p.Next = math.MaxUint32-1, math.MaxUint32 }).Parts())
}

// manyMessages is a saga with so many messages.
func manyMessages(t *testing.T, n int) *saga.Saga {
	t.Helper()
	return changed(t, func(p *saga.Parts) {
		p.Out, p.Next = make([]outbox.Message, n), n+1
		for k := range p.Out {
			p.Out[k] = outbox.Message{Key: k + 1, Kind: 2 + k%3, RMA: 1 + k%9, Value: int64(k), Tries: 1 + k%7, Due: k}
		}
	})
}

// More messages than a U16 tells don't go in.
func TestHowManyMessagesGoIn(t *testing.T) {
	for _, n := range []int{0, 1, 255, 256, 65534, 65535} {
		s := manyMessages(t, n)
		mustDecode(t, mustEncode(t, s), s.Parts())
	}
	for _, n := range []int{65536, 65537} {
		mustNotEncode(t, manyMessages(t, n))
	}
}

// What goes in may come to what doesn't; and what doesn't, to what does.
func TestNumbersGrowTooGreat(t *testing.T) {
	s := changed(t, func(p *saga.Parts) { p.Out[3].Tries, p.Out[3].Due = math.MaxUint16-1, 6 })
	take(t, s, tick(1))
	b := mustEncode(t, s)
	got := mustDecode(t, b, s.Parts())
	for _, one := range []*saga.Saga{s, got} {
		take(t, one, tick(8))
		mustNotEncode(t, one)
		mustNotEncode(t, one)
		take(t, one, reply(one.Parts().Out[len(one.Parts().Out)-1].Key, true))
		mustEncode(t, one)
	}
	mustEqual(t, s, got, true)
}

// A saga in which all numbers are as great as they may be.
func TestTheGreatestNumbersGoIn(t *testing.T) {
	p := create(t, fullest()).Parts()
	for unit := range p.Places {
		p.Places[unit], p.Seen[unit] = 8, [2]bool{true, true}
	}
	r := rma.RMA{Order: 19, Reason: 3, Want: 1000, Reserved: 199, Credit: true, State: 9, Day: api.MaxDay, Worth: richest, Paid: richest, Credited: richest, Given: richest}
	for unit := range 200 {
		r.Units, r.Grades = append(r.Units, unit), append(r.Grades, 4)
	}
	for number := 1; number <= 100; number++ {
		r.Number = number
		p.RMAs = append(p.RMAs, r)
	}
	p.Ledger.Have = [5]int64{richest, richest, richest, richest, richest}
	p.Now, p.Next = api.MaxDay, math.MaxUint32
	p.Out = []outbox.Message{{Key: math.MaxUint32 - 1, Kind: 4, RMA: 100, Value: greatest, Tries: math.MaxUint16, Due: math.MaxUint32}}
	s := makeOf(t, p)
	mustDecode(t, mustEncode(t, s), p)
}

// A saga in which a number doesn't go in has no bytes: so it has no others' bytes,
// and not its own.
func TestNoBytesAreNotTheSame(t *testing.T) {
	one := changed(t, func(p *saga.Parts) { p.Next = 1 << 32 })
	other := changed(t, func(p *saga.Parts) { p.Next = 1<<32 + 1 })
	for _, s := range []*saga.Saga{one, one.Clone(), other, busy(t), create(t, api.Config{}), nil} {
		mustEqual(t, one, s, false)
	}
	if _, e := image.Encode(one); e != api.ErrRange {
		t.Error(e)
	}
}
