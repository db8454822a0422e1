package image_test

import (
	"bytes"
	"encoding/binary"
	"reflect"
	"slices"
	"testing"

	"recoup/api"
	"recoup/image"
	"recoup/order"
	"recoup/outbox"
	"recoup/rma"
	"recoup/saga"
	"recoup/timer"
)

var le = binary.LittleEndian

// dueBytes are a saga's bytes, told by another hand; of a number that is too great
// they are too few.
func dueBytes(p saga.Parts) []byte {
	config, _ := order.Encode(p.Config)
	b := append(le.AppendUint16(nil, uint16(len(config))), config...)
	for unit := range p.Places {
		v := p.Places[unit]
		if p.Seen[unit][0] {
			v += 16
		}
		if p.Seen[unit][1] {
			v += 32
		}
		b = append(b, byte(v))
	}
	for _, sum := range p.Ledger.Have {
		b = le.AppendUint64(b, uint64(sum))
	}
	b = append(le.AppendUint32(b, uint32(p.Now)), byte(len(p.RMAs)))
	for _, r := range p.RMAs {
		b = append(b, dueReturn(r)...)
	}
	b = append(b, byte(len(p.Timers)))
	for _, one := range p.Timers {
		b = append(le.AppendUint32(b, uint32(one.Day)), byte(one.Number))
	}
	b = le.AppendUint16(le.AppendUint32(b, uint32(p.Next)), uint16(len(p.Out)))
	for _, m := range p.Out {
		b = append(le.AppendUint32(b, uint32(m.Key)), byte(m.Kind), byte(m.RMA))
		b = le.AppendUint64(b, uint64(m.Value))
		b = le.AppendUint32(le.AppendUint16(b, uint16(m.Tries)), uint32(m.Due))
	}
	return b
}

func dueReturn(r rma.RMA) []byte {
	b := []byte{byte(r.Number), byte(r.Order), byte(r.Reason)}
	b = le.AppendUint16(le.AppendUint16(b, uint16(r.Want)), uint16(r.Reserved+1))
	credit := byte(0)
	if r.Credit {
		credit = 1
	}
	b = le.AppendUint32(append(b, credit, byte(r.State)), uint32(r.Day))
	b = le.AppendUint16(b, uint16(len(r.Units)))
	for _, unit := range r.Units {
		b = append(b, byte(unit))
	}
	for _, grade := range r.Grades {
		b = append(b, byte(grade+1))
	}
	for _, sum := range []int64{r.Worth, r.Paid, r.Credited, r.Given} {
		b = le.AppendUint64(b, uint64(sum))
	}
	return b
}

// rest is bytes that are read by another hand: who reads beyond their end panics.
type rest []byte

func (b *rest) number(size int) (v uint64) {
	for k, c := range (*b)[:size] {
		v += uint64(c) << (8 * k)
	}
	*b = (*b)[size:]
	return v
}

func (b *rest) int(size int) int { return int(b.number(size)) }

func (b *rest) list(n, less int) (l []int) {
	for range n {
		l = append(l, b.int(1)-less)
	}
	return l
}

// dueDecode tells by another hand the parts of which these are the bytes, and
// whether there are such.
func dueDecode(b []byte) (p saga.Parts, ok bool) {
	defer func() {
		if recover() != nil {
			p, ok = saga.Parts{}, false
		}
	}()
	i := rest(bytes.Clone(b))
	n := i.int(2)
	config, e := order.Decode(i[:n])
	if i = i[n:]; e != api.OK {
		return saga.Parts{}, false
	}
	p.Config = config
	units, _ := order.Units(config)
	for range units {
		v := i.int(1)
		p.Places = append(p.Places, v%16+v/64*64)
		p.Seen = append(p.Seen, [2]bool{v/16%2 == 1, v/32%2 == 1})
	}
	for k := range 5 {
		p.Ledger.Have[k] = int64(i.number(8))
	}
	p.Now = i.int(4)
	for range i.int(1) {
		p.RMAs = append(p.RMAs, i.one())
	}
	for range i.int(1) {
		p.Timers = append(p.Timers, timer.Timer{Day: i.int(4), Number: i.int(1)})
	}
	p.Next = i.int(4)
	for range i.int(2) {
		p.Out = append(p.Out, outbox.Message{Key: i.int(4), Kind: i.int(1), RMA: i.int(1), Value: int64(i.number(8)), Tries: i.int(2), Due: i.int(4)})
	}
	if len(i) > 0 || !mayBe(p, len(units)) {
		return saga.Parts{}, false
	}
	return p, true
}

// one is a return.
func (b *rest) one() rma.RMA {
	r := rma.RMA{Number: b.int(1), Order: b.int(1), Reason: b.int(1), Want: b.int(2), Reserved: b.int(2) - 1}
	credit := b.int(1)
	if r.Credit = credit == 1; credit > 1 {
		panic("no flag")
	}
	r.State, r.Day = b.int(1), b.int(4)
	n := b.int(2)
	if n > 200 {
		panic("too many")
	}
	r.Units, r.Grades = b.list(n, 0), b.list(n, 1)
	for _, sum := range []*int64{&r.Worth, &r.Paid, &r.Credited, &r.Given} {
		*sum = int64(b.number(8))
	}
	return r
}

// mayBe tells by another hand whether a saga has these parts, of so many units.
func mayBe(p saga.Parts, units int) bool {
	for unit, place := range p.Places {
		if place > 8 || p.Seen[unit] == [2]bool{false, true} {
			return false
		}
	}
	for _, sum := range p.Ledger.Have {
		if sum < -richest || sum > richest {
			return false
		}
	}
	for k, r := range p.RMAs {
		if r.Number != k+1 || r.Number > 100 || !mayBeReturn(r, len(p.Config.Orders), units) {
			return false
		}
	}
	numbers := map[int]int{}
	for k, one := range p.Timers {
		if one.Number < 1 || one.Number > len(p.RMAs) || numbers[one.Number] > 0 {
			return false
		}
		if k > 0 && (one.Day < p.Timers[k-1].Day || one.Day == p.Timers[k-1].Day && one.Number < p.Timers[k-1].Number) {
			return false
		}
		numbers[one.Number]++
	}
	last := 0
	for _, m := range p.Out {
		if m.Key <= last || m.Key >= p.Next || m.Kind < 1 || m.Kind > 4 || m.Tries < 1 || m.RMA < 1 || m.RMA > len(p.RMAs) || m.Kind == 1 && p.RMAs[m.RMA-1].State != 1 {
			return false
		}
		last = m.Key
	}
	return p.Next >= 1 && p.Now <= 100000
}

func mayBeReturn(r rma.RMA, orders, units int) bool {
	for k, unit := range r.Units {
		if unit >= units || k > 0 && unit <= r.Units[k-1] || r.Grades[k] > 4 {
			return false
		}
	}
	for _, sum := range []int64{r.Worth, r.Paid, r.Credited, r.Given} {
		if sum < 0 || sum > richest {
			return false
		}
	}
	return r.Order < orders && r.Order < 20 && r.Reason < 4 && r.Want < 1001 && r.Reserved < units && r.State > 0 && r.State < 10 && r.Day <= 100000 && len(r.Units) > 0
}

// alike tells whether both are alike; nil lists are empty ones.
func alike(a, b saga.Parts) bool {
	return order.Equal(a.Config, b.Config) && slices.Equal(a.Places, b.Places) && slices.Equal(a.Seen, b.Seen) &&
		a.Ledger == b.Ledger && slices.EqualFunc(a.RMAs, b.RMAs, func(a, b rma.RMA) bool { return reflect.DeepEqual(a, b) }) &&
		slices.Equal(a.Timers, b.Timers) && a.Next == b.Next && slices.Equal(a.Out, b.Out) && a.Now == b.Now
}

// mustEncode checks that a saga has the bytes that are due, and tells them.
func mustEncode(t *testing.T, s *saga.Saga) []byte {
	t.Helper()
	want := dueBytes(s.Parts())
	if b, e := image.Encode(s); e != api.OK || !bytes.Equal(b, want) {
		t.Fatalf("of %+v: %v, %d; want %v", s.Parts(), b, e, want)
	}
	return want
}

// mustNotEncode checks that a number of a saga doesn't go in.
func mustNotEncode(t *testing.T, s *saga.Saga) {
	t.Helper()
	if b, e := image.Encode(s); len(b) != 0 || e != api.ErrRange {
		t.Errorf("of %+v: %v, %d; want ErrRange alone", s.Parts(), b, e)
	}
}

// mustDecode checks that bytes are those of a saga with these parts, and tells it.
func mustDecode(t *testing.T, b []byte, want saga.Parts) *saga.Saga {
	t.Helper()
	s, e := image.Decode(b)
	if e != api.OK || s == nil || !alike(s.Parts(), want) {
		t.Fatalf("of %v: %+v, %d; want %+v", b, s.Parts(), e, want)
	}
	return s
}

// mustNotDecode checks that bytes are no saga's.
func mustNotDecode(t *testing.T, b []byte) {
	t.Helper()
	if s, e := image.Decode(b); s != nil || e != api.ErrForm {
		t.Errorf("of %v: %+v, %d; want ErrForm alone", b, s.Parts(), e)
	}
}

// mustDecodeAsDue checks bytes, whatever they are, and tells whether they are a
// saga's; those that are, are its own.
func mustDecodeAsDue(t *testing.T, b []byte) (ok bool) {
	t.Helper()
	want, ok := dueDecode(b)
	if !ok {
		mustNotDecode(t, b)
		return ok
	}
	own, e := image.Encode(mustDecode(t, b, want))
	if e != api.OK || !bytes.Equal(own, b) {
		t.Errorf("of %v: %v, %d", b, own, e)
	}
	return ok
}

// mustEqual checks it both ways round.
func mustEqual(t *testing.T, a, b *saga.Saga, want bool) {
	t.Helper()
	if image.Equal(a, b) != want || image.Equal(b, a) != want {
		t.Errorf("%+v and %+v: %v", a.Parts(), b.Parts(), !want)
	}
}
