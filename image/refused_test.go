package image_test

import (
	"bytes"
	"math"
	"slices"
	"testing"

	"recoup/api"
	"recoup/order"
	"recoup/outbox"
	"recoup/rma"
	"recoup/saga"
	"recoup/timer"
)

func TestBytesCutShortAreNone(t *testing.T) {
	for _, s := range append(someSagas(t)[2:], busy(t)) {
		b := dueBytes(s.Parts())
		for n := range b {
			mustNotDecode(t, b[:n])
			mustNotDecode(t, bytes.Clone(b[:n]))
		}
	}
	b := dueBytes(many(t).Parts())
	for n := 0; n < len(b); n += 1 + n/40 {
		mustNotDecode(t, b[:n])
	}
	mustNotDecode(t, b[:len(b)-1])
	mustNotDecode(t, nil)
	mustNotDecode(t, []byte{})
}

func TestBytesBehindASagaAreNone(t *testing.T) {
	for _, s := range someSagas(t) {
		b := dueBytes(s.Parts())
		for _, more := range []int{1, 2, 5, 20, 24, 60, 1000} {
			for _, v := range []byte{0, 1, 255} {
				mustNotDecode(t, append(bytes.Clone(b), bytes.Repeat([]byte{v}, more)...))
			}
		}
		mustNotDecode(t, append(bytes.Clone(b), b...))
		mustNotDecode(t, append([]byte{0}, b...))
		mustNotDecode(t, b[1:])
	}
}

// Each byte, with each value it can have.
func TestEachByteIsAsked(t *testing.T) {
	for _, s := range []*saga.Saga{create(t, api.Config{}), create(t, small()), inState(t, 1)} {
		right := 0
		b := dueBytes(s.Parts())
		for at, was := range b {
			for v := range 256 {
				b[at] = byte(v)
				if mustDecodeAsDue(t, b) {
					right++
				}
			}
			b[at] = was
		}
		if right < 2*len(b) || right > 200*len(b) {
			t.Error(right, "of", 256*len(b), "are right")
		}
	}
}

// Each byte of others, with some values.
func TestEachByteOfBusySagasIsAsked(t *testing.T) {
	for _, s := range []*saga.Saga{busy(t), inState(t, 5), inState(t, 6)} {
		b := dueBytes(s.Parts())
		for at, was := range b {
			for _, v := range []byte{0, 1, 2, 3, 8, 9, 16, 32, 48, 64, 128, 255, was - 1, was + 1, was ^ 64, was ^ 128} {
				b[at] = v
				mustDecodeAsDue(t, b)
			}
			b[at] = was
		}
	}
}

// Two bytes at once: what one says may be made good by the other.
func TestTwoBytesAreAsked(t *testing.T) {
	b := dueBytes(inState(t, 1).Parts())
	for one := range b {
		for other := range one {
			c := bytes.Clone(b)
			c[one], c[other] = c[one]+1, c[other]+1
			mustDecodeAsDue(t, c)
			c[other] -= 2
			mustDecodeAsDue(t, c)
			c[one], c[other] = b[other], b[one]
			mustDecodeAsDue(t, c)
		}
	}
}

// A unit's byte is a place, which was not seen, received, or received and graded,
// and nothing else.
func TestWhatAUnitsByteMayBe(t *testing.T) {
	s := create(t, small())
	b := dueBytes(s.Parts())
	for unit := range 3 {
		at := len(b) - 12 - 40 - 3 + unit
		for v := range 256 {
			c := bytes.Clone(b)
			c[at] = byte(v)
			place, seen := v&15, v>>4
			if place > 8 || seen != 0 && seen != 1 && seen != 3 {
				mustNotDecode(t, c)
				continue
			}
			p := s.Parts()
			p.Places[unit], p.Seen[unit] = place, [2]bool{seen >= 1, seen == 3}
			mustDecode(t, c, p)
		}
	}
}

// Timers are told by day, of the same day by number; no saga's bytes tell them
// otherwise, nor twice.
func TestTimersInAnyOtherOrderAreNone(t *testing.T) {
	p := busy(t).Parts()
	p.Timers = []timer.Timer{{Day: 4, Number: 2}, {Day: 4, Number: 7}, {Day: 5, Number: 1}, {Day: 300, Number: 9}}
	s := makeOf(t, p)
	mustDecode(t, mustEncode(t, s), p)
	orders := 0
	permute(p.Timers, 0, func(l []timer.Timer) {
		orders++
		other := p
		other.Timers = l
		if slices.Equal(l, []timer.Timer{{Day: 4, Number: 2}, {Day: 4, Number: 7}, {Day: 5, Number: 1}, {Day: 300, Number: 9}}) {
			mustDecode(t, dueBytes(other), s.Parts())
		} else {
			mustNotDecode(t, dueBytes(other))
		}
		// The saga that is made of them in any order has them in this one.
		mustEqual(t, makeOf(t, other), s, true)
	})
	if orders != 24 {
		t.Error(orders)
	}
	for k := range p.Timers {
		twice := p
		twice.Timers = slices.Insert(slices.Clone(p.Timers), k, p.Timers[k])
		mustNotDecode(t, dueBytes(twice))
	}
}

// permute tells each order that a list may have.
func permute[T any](l []T, at int, tell func(l []T)) {
	if at == len(l) {
		tell(slices.Clone(l))
	}
	for k := at; k < len(l); k++ {
		l[at], l[k] = l[k], l[at]
		permute(l, at+1, tell)
		l[at], l[k] = l[k], l[at]
	}
}

// What Make refuses is no saga's, though it is written as one would be.
func TestBytesOfWhatMakeRefusesAreNone(t *testing.T) {
	for k, change := range []func(p *saga.Parts){
		func(p *saga.Parts) { p.Places[0] = 9 },
		func(p *saga.Parts) { p.Places[11] = 15 },
		func(p *saga.Parts) { p.Seen[0] = [2]bool{false, true} },
		func(p *saga.Parts) { p.Places = p.Places[:11] },
		func(p *saga.Parts) { p.Places, p.Seen = append(p.Places, 0), append(p.Seen, [2]bool{}) },
		func(p *saga.Parts) { p.Ledger.Have[0] = richest + 1 },
		func(p *saga.Parts) { p.Ledger.Have[2] = -richest - 1 },
		func(p *saga.Parts) { p.Ledger.Have[4] = smallest },
		func(p *saga.Parts) { p.Now = api.MaxDay + 1 },
		func(p *saga.Parts) { p.Now = math.MaxUint32 },
		func(p *saga.Parts) { p.RMAs[0].Number = 2 },
		func(p *saga.Parts) { p.RMAs[0], p.RMAs[1] = p.RMAs[1], p.RMAs[0] },
		func(p *saga.Parts) { p.RMAs = p.RMAs[1:] },
		func(p *saga.Parts) { p.RMAs = p.RMAs[:2] },
		func(p *saga.Parts) { p.RMAs = nil },
		func(p *saga.Parts) { p.RMAs[1].Order = 2 },
		func(p *saga.Parts) { p.RMAs[1].Reason = 4 },
		func(p *saga.Parts) { p.RMAs[1].Want = 1001 },
		func(p *saga.Parts) { p.RMAs[1].Reserved = 12 },
		func(p *saga.Parts) { p.RMAs[1].State = 0 },
		func(p *saga.Parts) { p.RMAs[1].State = 10 },
		func(p *saga.Parts) { p.RMAs[1].Day = api.MaxDay + 1 },
		func(p *saga.Parts) { p.RMAs[1].Units = nil },
		func(p *saga.Parts) { p.RMAs[1].Units, p.RMAs[1].Grades = nil, nil },
		func(p *saga.Parts) { p.RMAs[1].Units[0] = 12 },
		func(p *saga.Parts) { p.RMAs[3].Units[0] = 4 },
		func(p *saga.Parts) { p.RMAs[3].Units[1] = 3 },
		func(p *saga.Parts) { p.RMAs[3].Grades[1] = 5 },
		func(p *saga.Parts) { p.RMAs[3].Grades = p.RMAs[3].Grades[:1] },
		func(p *saga.Parts) { p.RMAs[3].Grades = append(p.RMAs[3].Grades, 0) },
		func(p *saga.Parts) { p.RMAs[3].Worth = -1 },
		func(p *saga.Parts) { p.RMAs[3].Given = richest + 1 },
		func(p *saga.Parts) { p.Timers[0].Number = 0 },
		func(p *saga.Parts) { p.Timers[2].Number = 10 },
		func(p *saga.Parts) { p.Timers[2].Number = p.Timers[0].Number },
		func(p *saga.Parts) { p.Next = 0 },
		func(p *saga.Parts) { p.Next = p.Out[3].Key },
		func(p *saga.Parts) { p.Out[0].Key = 0 },
		func(p *saga.Parts) { p.Out[1].Key = p.Out[0].Key },
		func(p *saga.Parts) { p.Out[0], p.Out[1] = p.Out[1], p.Out[0] },
		func(p *saga.Parts) { p.Out[2].Kind = 0 },
		func(p *saga.Parts) { p.Out[2].Kind = 5 },
		func(p *saga.Parts) { p.Out[2].Kind = outbox.Label },
		func(p *saga.Parts) { p.Out[0].RMA = 2 },
		func(p *saga.Parts) { p.Out[2].RMA = 0 },
		func(p *saga.Parts) { p.Out[2].RMA = 10 },
		func(p *saga.Parts) { p.Out[2].Tries = 0 },
		func(p *saga.Parts) { p.RMAs[0].State = rma.Labelled },
	} {
		p := busy(t).Parts()
		change(&p)
		if _, e := saga.Make(p); e == api.OK {
			t.Errorf("%d: %+v", k, p)
		}
		mustNotDecode(t, dueBytes(p))
	}
}

// Of 100 returns there may not be one more, whatever its number is.
func TestBytesOfTooManyReturnsAreNone(t *testing.T) {
	p := many(t).Parts()
	p.RMAs = append(p.RMAs, p.RMAs[99])
	for _, number := range []int{0, 1, 100, 101, 255} {
		p.RMAs[100].Number = number
		mustNotDecode(t, dueBytes(p))
	}
	p.RMAs = p.RMAs[:99]
	mustNotDecode(t, dueBytes(p))
}

// How many units a return has is asked ahead of all others.
func TestBytesOfTooManyUnitsAreNone(t *testing.T) {
	p := create(t, fullest()).Parts()
	for _, n := range []int{1, 199, 200, 201, 256, 300} {
		r := rma.RMA{Number: 1, Reserved: -1, State: 1}
		for unit := range n {
			r.Units, r.Grades = append(r.Units, unit), append(r.Grades, -1)
		}
		p.RMAs = []rma.RMA{r}
		if mustDecodeAsDue(t, dueBytes(p)) != (n <= 200) {
			t.Error(n)
		}
	}
}

// withConfig are a new saga's bytes, but its config's.
func withConfig(config []byte, rest []byte) []byte {
	return append(append(le.AppendUint16(nil, uint16(len(config))), config...), rest...)
}

// A config's bytes that are cut short, have more behind them, or are none; all
// else is right.
func TestAConfigsBytesMustBeAConfigs(t *testing.T) {
	for _, c := range []api.Config{{}, small()} {
		b := dueBytes(create(t, c).Parts())
		config, _ := order.Encode(c)
		rest := b[2+len(config):]
		if !mustDecodeAsDue(t, withConfig(config, rest)) {
			t.Error(b)
		}
		for n := range config {
			mustNotDecode(t, withConfig(config[:n], rest))
			mustNotDecode(t, append(withConfig(config[:n], config[n:]), rest...))
		}
		for _, more := range []int{1, 2, 12, 100} {
			mustNotDecode(t, withConfig(append(bytes.Clone(config), make([]byte, more)...), rest))
		}
		mustNotDecode(t, withConfig(nil, rest))
	}
	// The bytes of an empty saga behind what is no config's.
	empty := dueBytes(create(t, api.Config{}).Parts())[8:]
	for _, config := range [][]byte{{}, {0}, {2, 0, 0, 0, 0}, {2, 0, 0, 0, 0, 0, 0}, {2, 0, 1, 0, 0, 0}, {2, 0, 0, 0, 1, 0}, {0, 0, 0, 0, 0, 0}} {
		mustNotDecode(t, withConfig(config, empty))
	}
}

// How long the config is, told as any number.
func TestTheConfigsBytesAreAsMany(t *testing.T) {
	b := dueBytes(busy(t).Parts())
	was := int(le.Uint16(b))
	for n := range 1 << 16 {
		if n == was || n > 500 && n%37 > 0 {
			continue
		}
		le.PutUint16(b, uint16(n))
		mustNotDecode(t, b)
	}
}

// How many returns, timers and messages there are, told as any number.
func TestHowManyThereAreIsAsked(t *testing.T) {
	s := inState(t, 5)
	b := dueBytes(s.Parts())
	messages := len(b) - 2 - 3*20
	timers := messages - 4 - 1
	returns := timers - (15 + 2*2 + 32) - 1
	if b[returns] != 1 || b[timers] != 0 || le.Uint16(b[messages:]) != 3 {
		t.Fatal(b)
	}
	for _, at := range []int{returns, timers, messages, messages + 1} {
		was := b[at]
		for v := range 256 {
			b[at] = byte(v)
			if mustDecodeAsDue(t, b) != (b[at] == was) {
				t.Error(at, v)
			}
		}
		b[at] = was
	}
}

// Many messages are told in few bytes, and aren't there.
func TestBytesThatTellOfMoreThanTheyHave(t *testing.T) {
	b := dueBytes(create(t, small()).Parts())
	for _, n := range []int{1, 2, 255, 256, 65535} {
		le.PutUint16(b[len(b)-2:], uint16(n))
		mustNotDecode(t, b)
		mustNotDecode(t, append(bytes.Clone(b), make([]byte, 20*(n-1))...))
		mustNotDecode(t, append(bytes.Clone(b), make([]byte, 20*n)...))
		mustNotDecode(t, append(bytes.Clone(b), bytes.Repeat([]byte{1}, 20*n)...))
	}
}

func TestBytesOfOneKindAreNone(t *testing.T) {
	for n := range 600 {
		for _, v := range []byte{0, 1, 2, 3, 6, 20, 127, 128, 255} {
			mustNotDecode(t, bytes.Repeat([]byte{v}, n))
		}
	}
	for _, v := range []byte{0, 1, 255} {
		mustNotDecode(t, bytes.Repeat([]byte{v}, 1<<20))
	}
}

// What may come of a saga whose parts don't fit each other: two labels of one
// return, one of which is heard. It has bytes, of which Make makes none.
func TestALabelTooMany(t *testing.T) {
	s := changed(t, func(p *saga.Parts) {
		p.Out, p.Next = append(p.Out, outbox.Message{Key: p.Next, Kind: outbox.Label, RMA: 1, Tries: 1}), p.Next+1
	})
	mustDecode(t, mustEncode(t, s), s.Parts())
	take(t, s, reply(s.Parts().Out[0].Key, true))
	mustNotDecode(t, mustEncode(t, s))
	take(t, s, of(2, 1))
	mustDecode(t, mustEncode(t, s), s.Parts())
}
