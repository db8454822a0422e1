package image_test

import (
	"bytes"
	"testing"

	"recoup/api"
	"recoup/image"
	"recoup/ledger"
	"recoup/outbox"
	"recoup/rma"
	"recoup/saga"
	"recoup/timer"
)

// mustBeBytes checks the bytes of a saga, both ways.
func mustBeBytes(t *testing.T, s *saga.Saga, want []byte) {
	t.Helper()
	if b, e := image.Encode(s); e != api.OK || !bytes.Equal(b, want) {
		t.Errorf("of %+v: %v, %d; want %v", s.Parts(), b, e, want)
	}
	mustDecode(t, want, s.Parts())
}

// The bytes stand here one by one, as they are to be.
func TestBytesOfANewSaga(t *testing.T) {
	mustBeBytes(t, create(t, api.Config{}), []byte{
		6, 0, 2, 0, 0, 0, 0, 0,
		0, 0, 0, 0, 0, 0, 0, 0, 0, 0, 0, 0, 0, 0, 0, 0, 0, 0, 0, 0, 0, 0, 0, 0, 0, 0, 0, 0, 0, 0, 0, 0, 0, 0, 0, 0, 0, 0, 0, 0,
		0, 0, 0, 0,
		0, 0,
		1, 0, 0, 0, 0, 0,
	})
	mustBeBytes(t, create(t, api.Config{Supplies: []api.Supply{{SKU: 258, Price: 3, Count: 2}}}), []byte{
		17, 0, 2, 0, 0, 0, 0, 1, 2, 1, 3, 0, 0, 0, 0, 0, 0, 0, 2,
		3, 3,
		0, 0, 0, 0, 0, 0, 0, 0, 0, 0, 0, 0, 0, 0, 0, 0, 0, 0, 0, 0, 0, 0, 0, 0, 0, 0, 0, 0, 0, 0, 0, 0, 0, 0, 0, 0, 0, 0, 0, 0,
		0, 0, 0, 0,
		0, 0,
		1, 0, 0, 0, 0, 0,
	})
}

func TestBytesOfASaga(t *testing.T) {
	c := api.Config{
		Table:    []api.Policy{{Window: 30}},
		Orders:   []api.Order{{Day: 7, Lines: []api.Line{{SKU: 1, Price: 1000, Count: 4}}}},
		Supplies: []api.Supply{{SKU: 2, Price: 900, Count: 5}},
	}
	r := rma.RMA{Number: 1, Reason: 2, Want: 258, Reserved: 5, Credit: true, State: 5, Day: 66051, Units: []int{1, 3}, Grades: []int{-1, 4}, Worth: 900, Paid: 10, Credited: 1 << 40, Given: 3}
	s := makeOf(t, saga.Parts{
		Config: c,
		Places: []int{0, 1, 2, 3, 4, 5, 6, 7, 8},
		Seen:   [][2]bool{{}, {}, {true, false}, {true, true}, {true, true}, {}, {true, false}, {}, {true, true}},
		RMAs:   []rma.RMA{r, {Number: 2, Reserved: -1, State: 1, Units: []int{0}, Grades: []int{-1}}},
		Timers: []timer.Timer{{Day: 0, Number: 2}, {Day: 1<<32 - 1, Number: 1}},
		Next:   1<<32 - 1,
		Out:    []outbox.Message{{Key: 258, Kind: 4, RMA: 1, Value: -2, Tries: 65535, Due: 1<<32 - 1}, {Key: 1<<32 - 2, Kind: 1, RMA: 2, Value: 772, Tries: 1, Due: 0}},
		Now:    100000,
		Ledger: ledger.Ledger{Have: [5]int64{-1, 258, 1 << 50, -(1 << 50), 7}},
	})
	mustBeBytes(t, s, []byte{
		81, 0,
		25, 0, 1, 0, 30, 0, 0, 0, 0, 0, 0, 0, 0, 0, 0, 0, 0, 0, 0, 0, 0, 0, 0, 0, 0, 0, 0,
		1, 7, 0, 0, 0, 0, 0, 0, 0, 0, 0, 0, 0, 0, 0, 0, 0, 0, 0, 0, 0, 0, 0, 0, 0, 0, 0, 0, 0, 1, 1, 0, 0, 232, 3, 0, 0, 0, 0, 0, 0, 4,
		1, 2, 0, 132, 3, 0, 0, 0, 0, 0, 0, 5,
		0, 1, 18, 51, 52, 5, 22, 7, 56,
		255, 255, 255, 255, 255, 255, 255, 255, 2, 1, 0, 0, 0, 0, 0, 0, 0, 0, 0, 0, 0, 0, 4, 0, 0, 0, 0, 0, 0, 0, 252, 255, 7, 0, 0, 0, 0, 0, 0, 0,
		160, 134, 1, 0,
		2,
		1, 0, 2, 2, 1, 6, 0, 1, 5, 3, 2, 1, 0, 2, 0, 1, 3, 0, 5,
		132, 3, 0, 0, 0, 0, 0, 0, 10, 0, 0, 0, 0, 0, 0, 0, 0, 0, 0, 0, 0, 1, 0, 0, 3, 0, 0, 0, 0, 0, 0, 0,
		2, 0, 0, 0, 0, 0, 0, 0, 1, 0, 0, 0, 0, 1, 0, 0, 0,
		0, 0, 0, 0, 0, 0, 0, 0, 0, 0, 0, 0, 0, 0, 0, 0, 0, 0, 0, 0, 0, 0, 0, 0, 0, 0, 0, 0, 0, 0, 0, 0,
		2, 0, 0, 0, 0, 2, 255, 255, 255, 255, 1,
		255, 255, 255, 255, 2, 0,
		2, 1, 0, 0, 4, 1, 254, 255, 255, 255, 255, 255, 255, 255, 255, 255, 255, 255, 255, 255,
		254, 255, 255, 255, 1, 2, 4, 3, 0, 0, 0, 0, 0, 0, 1, 0, 0, 0, 0, 0,
	})
}

// What a Request changes of a saga's bytes, one by one.
func TestBytesOfARequest(t *testing.T) {
	s := create(t, small())
	before := mustEncode(t, s)
	take(t, s, tick(3), wanting(ask(0, 1), 2))
	head := len(before) - 3 - 40 - 12
	want := append(bytes.Clone(before[:head]), 0, 0, 7)
	want = append(want, make([]byte, 40)...)
	want = append(want, 3, 0, 0, 0)
	want = append(want, 1, 1, 0, 0, 2, 0, 3, 0, 0, 1, 3, 0, 0, 0, 1, 0, 1, 0)
	want = append(want, make([]byte, 32)...)
	want = append(want, 1, 17, 0, 0, 0, 1, 2, 0, 0, 0, 1, 0)
	want = append(want, 1, 0, 0, 0, 1, 1, 0, 0, 0, 0, 0, 0, 0, 0, 1, 0, 4, 0, 0, 0)
	mustBeBytes(t, s, want)
}

// What follows: what is encoded is decoded, and encoded again has the same bytes.
func TestWhatIsEncodedIsDecoded(t *testing.T) {
	for _, s := range someSagas(t) {
		b := mustEncode(t, s)
		got := mustDecode(t, b, s.Parts())
		if again := mustEncode(t, got); !bytes.Equal(again, b) {
			t.Error(b, again)
		}
		mustEqual(t, s, got, true)
		mustTellAlike(t, got, s)
	}
}

// mustTellAlike checks all that both tell of themselves.
func mustTellAlike(t *testing.T, a, b *saga.Saga) {
	t.Helper()
	if !alike(a.Parts(), b.Parts()) {
		t.Fatalf("%+v; want %+v", a.Parts(), b.Parts())
	}
	one, other := a.Stock(), b.Stock()
	for unit := range other.Len() + 1 {
		received, graded := one.Seen(unit)
		r, g := other.Seen(unit)
		if one.Place(unit) != other.Place(unit) || one.SKU(unit) != other.SKU(unit) || received != r || graded != g {
			t.Fatal(unit, one.Place(unit), other.Place(unit), received, r, graded, g)
		}
	}
	if a.Now() != b.Now() || a.Ledger() != b.Ledger() || a.Outbox().NextKey() != b.Outbox().NextKey() || a.Timers().Len() != b.Timers().Len() || len(a.Units()) != len(b.Units()) {
		t.Fatalf("%+v; want %+v", a.Parts(), b.Parts())
	}
}

// Each place, and each way in which a unit may be seen there.
func TestBytesOfUnits(t *testing.T) {
	at := len(mustEncode(t, create(t, small()))) - 3 - 40 - 12
	for unit := range 3 {
		for place := range 9 {
			for more, seen := range map[int][2]bool{0: {}, 16: {true, false}, 48: {true, true}} {
				p := create(t, small()).Parts()
				p.Places[unit], p.Seen[unit] = place, seen
				b := mustEncode(t, makeOf(t, p))
				if got := int(b[at+unit]); got != place+more {
					t.Error(unit, place, seen, got)
				}
				mustTellAlike(t, mustDecode(t, b, p), makeOf(t, p))
			}
		}
	}
}

// A saga of a full config, with as many returns as there may be.
func TestBytesOfManyReturns(t *testing.T) {
	s := many(t)
	b := mustEncode(t, s)
	c := len(mustEncode(t, create(t, fullest())))
	if len(b) != c+100*(15+2*60+32)+300*20 || len(b) > api.MaxFrame {
		t.Error(len(b), c)
	}
	if again := mustDecode(t, b, s.Parts()); len(again.RMAs()) != 100 || len(again.Outbox().All()) != 300 {
		t.Error(again.Parts())
	}
	take(t, s, tick(1000))
	mustDecode(t, mustEncode(t, s), s.Parts())
}

// Other numbers have other bytes: each that a saga's parts have, changed by a bit.
func TestEachPartIsInTheBytes(t *testing.T) {
	first := mustEncode(t, busy(t))
	for k, change := range changes() {
		s := changed(t, change)
		b := mustEncode(t, s)
		if bytes.Equal(b, first) {
			t.Error(k, b)
		}
		mustDecode(t, b, s.Parts())
	}
}

// changes are such that busy's parts with one of them are still a saga's.
func changes() []func(p *saga.Parts) {
	return []func(p *saga.Parts){
		func(p *saga.Parts) { p.Config.Table[0].Window++ },
		func(p *saga.Parts) { p.Config.Table = p.Config.Table[:1] },
		func(p *saga.Parts) { p.Config.Orders[1].Day++ },
		func(p *saga.Parts) { p.Config.Orders[0].Discount++ },
		func(p *saga.Parts) { p.Config.Orders[1].Lines[0].SKU++ },
		func(p *saga.Parts) { p.Config.Supplies[0].Price-- },
		func(p *saga.Parts) { p.Places[8] = 5 },
		func(p *saga.Parts) { p.Seen[8][0] = true },
		func(p *saga.Parts) { p.Seen[5] = [2]bool{} },
		func(p *saga.Parts) { p.Seen[5][1] = false },
		func(p *saga.Parts) { p.Ledger.Have[0]++ },
		func(p *saga.Parts) { p.Ledger.Have[1]++ },
		func(p *saga.Parts) { p.Ledger.Have[2] = -1 },
		func(p *saga.Parts) { p.Ledger.Have[3] = richest },
		func(p *saga.Parts) { p.Ledger.Have[4] = -richest },
		func(p *saga.Parts) { p.Now++ },
		func(p *saga.Parts) { p.Now = 100000 },
		func(p *saga.Parts) { p.Now = 0 },
		func(p *saga.Parts) { p.RMAs = p.RMAs[:8] },
		func(p *saga.Parts) { p.RMAs[0].Order++ },
		func(p *saga.Parts) { p.RMAs[1].Reason++ },
		func(p *saga.Parts) { p.RMAs[2].Want++ },
		func(p *saga.Parts) { p.RMAs[3].Reserved++ },
		func(p *saga.Parts) { p.RMAs[4].Credit = true },
		func(p *saga.Parts) { p.RMAs[5].State-- },
		func(p *saga.Parts) { p.RMAs[6].Day = 100000 },
		func(p *saga.Parts) { p.RMAs[7].Units[0]++ },
		func(p *saga.Parts) { p.RMAs[8].Grades[0]++ },
		func(p *saga.Parts) { p.RMAs[8].Worth++ },
		func(p *saga.Parts) { p.RMAs[8].Paid++ },
		func(p *saga.Parts) { p.RMAs[8].Credited++ },
		func(p *saga.Parts) { p.RMAs[8].Given++ },
		func(p *saga.Parts) { p.Timers[0].Day-- },
		func(p *saga.Parts) { p.Timers[2].Number = 9 },
		func(p *saga.Parts) { p.Timers = p.Timers[1:] },
		func(p *saga.Parts) { p.Timers = nil },
		func(p *saga.Parts) { p.Next++ },
		func(p *saga.Parts) { p.Next = 1<<32 - 1 },
		func(p *saga.Parts) { p.Out[0].Key++ },
		func(p *saga.Parts) { p.Out[1].Kind-- },
		func(p *saga.Parts) { p.Out[2].RMA++ },
		func(p *saga.Parts) { p.Out[3].Value-- },
		func(p *saga.Parts) { p.Out[3].Value = smallest },
		func(p *saga.Parts) { p.Out[3].Value = greatest },
		func(p *saga.Parts) { p.Out[3].Tries++ },
		func(p *saga.Parts) { p.Out[3].Tries = 65535 },
		func(p *saga.Parts) { p.Out[3].Due++ },
		func(p *saga.Parts) { p.Out[3].Due = 0 },
		func(p *saga.Parts) { p.Out = p.Out[:3] },
		func(p *saga.Parts) { p.Out = nil },
	}
}

// What was refused leaves the bytes as they are.
func TestWhatIsRefusedLeavesTheBytes(t *testing.T) {
	s := busy(t)
	before := mustEncode(t, s)
	refused := 0
	for _, c := range someCommands() {
		one := s.Clone()
		if _, _, e := one.Take(c); e == api.OK {
			if bytes.Equal(mustEncode(t, one), before) {
				t.Error(c)
			}
			continue
		}
		refused++
		if !bytes.Equal(mustEncode(t, one), before) {
			t.Error(c)
		}
	}
	if refused < 50 || refused == len(someCommands()) {
		t.Error(refused)
	}
}

// A zero saga, which is none that was made, ends in no panic.
func TestAZeroSaga(t *testing.T) {
	b, e := image.Encode(new(saga.Saga))
	if len(b) != 60 || e != api.OK {
		t.Error(b, e)
	}
	mustNotDecode(t, b)
	if !image.Equal(new(saga.Saga), new(saga.Saga)) || image.Equal(new(saga.Saga), nil) || image.Equal(new(saga.Saga), create(t, api.Config{})) {
		t.Error("Equal")
	}
}

func TestNilSagas(t *testing.T) {
	for range 2 {
		if b, e := image.Encode(nil); len(b) != 0 || e != api.ErrArg {
			t.Error(b, e)
		}
	}
	var none *saga.Saga
	if !image.Equal(nil, nil) || !image.Equal(none, none) {
		t.Error("two nil ones aren't equal")
	}
	for _, s := range someSagas(t) {
		mustEqual(t, s, nil, false)
	}
}
