package saga_test

import (
	"maps"
	"reflect"
	"slices"
	"testing"

	"recoup/api"
	"recoup/command"
	"recoup/order"
	"recoup/outbox"
	"recoup/rma"
	"recoup/saga"
	"recoup/timer"
)

// due is a saga told by another hand: what it has, as plain lists. A call that
// must be refused panics with the error.
type due struct {
	c                api.Config
	units            []order.Unit
	place            []int
	received, graded []bool
	have             [5]int64
	l                []rma.RMA
	days             map[int]int // of timers, by the returns' numbers
	out              []outbox.Message
	next, now        int
}

// begin is what is due of a new saga.
func begin(c api.Config) *due {
	units, _ := order.Units(c)
	d := &due{c: order.Clone(c), units: units, days: map[int]int{}, next: 1}
	d.received, d.graded = make([]bool, len(units)), make([]bool, len(units))
	for _, u := range units {
		if u.Order == -1 {
			d.place = append(d.place, 3)
		} else {
			d.place = append(d.place, 0)
		}
	}
	return d
}

func (d *due) copy() *due {
	c := *d
	c.place, c.received, c.graded = slices.Clone(d.place), slices.Clone(d.received), slices.Clone(d.graded)
	c.days, c.out = maps.Clone(d.days), slices.Clone(d.out)
	c.l = nil
	for _, r := range d.l {
		r.Units, r.Grades = slices.Clone(r.Units), slices.Clone(r.Grades)
		c.l = append(c.l, r)
	}
	return &c
}

// parts are all that it has.
func (d *due) parts() saga.Parts {
	c := d.copy()
	p := saga.Parts{Config: d.c, Places: c.place, RMAs: c.l, Next: d.next, Out: c.out, Now: d.now}
	p.Ledger.Have = d.have
	for k := range d.place {
		p.Seen = append(p.Seen, [2]bool{d.received[k], d.graded[k]})
	}
	for number, day := range d.days {
		p.Timers = append(p.Timers, timer.Timer{Day: day, Number: number})
	}
	slices.SortFunc(p.Timers, func(a, b timer.Timer) int {
		if a.Day != b.Day {
			return a.Day - b.Day
		}
		return a.Number - b.Number
	})
	return p
}

// take does what a command asks for, and tells what is answered.
func (d *due) take(c command.Command) (value int64, said []outbox.Message, e api.Errno) {
	before := d.copy()
	defer func() {
		if x := recover(); x != nil {
			*d = *before
			value, said, e = 0, nil, x.(api.Errno)
		}
	}()
	switch c.Kind {
	case 1:
		value, said = d.ask(c)
	case 7:
		said = d.tick(c.Days)
	case 8:
		said = d.heard(c.Key, c.Yes)
	default:
		said = d.happen(c)
	}
	return value, said, api.OK
}

func must(ok bool, e api.Errno) {
	if !ok {
		panic(e)
	}
}

// holds tells whether a return that isn't done has a unit.
func (d *due) holds(unit int) bool {
	return slices.ContainsFunc(d.l, func(r rma.RMA) bool { return r.State < 6 && slices.Contains(r.Units, unit) })
}

// sold is the price of a SKU, if a supply has it.
func (d *due) sold(sku int) (int64, bool) {
	for _, s := range d.c.Supplies {
		if s.SKU == sku {
			return s.Price, true
		}
	}
	return 0, false
}

func (d *due) ask(c command.Command) (int64, []outbox.Message) {
	must(len(d.l) < 100, api.ErrMany)
	must(c.Order < len(d.c.Orders), api.ErrNone)
	must(slices.IsSorted(c.Units) && len(slices.Compact(slices.Clone(c.Units))) == len(c.Units) && c.Reason < 4 && c.Want < 1001, api.ErrArg)
	for _, u := range c.Units {
		must(u < len(d.units) && d.units[u].Order == c.Order, api.ErrArg)
	}
	r := rma.RMA{Number: len(d.l) + 1, Order: c.Order, Reason: c.Reason, Want: c.Want, Reserved: -1, Credit: c.Credit, State: 1, Day: d.now, Units: slices.Clone(c.Units)}
	for _, u := range c.Units {
		p := d.c.Table[d.units[u].Category]
		must(d.place[u] == 0 && !d.holds(u), api.ErrTaken)
		must(!p.Final && (!p.Exchange || c.Want > 0), api.ErrFinal)
		age := d.now - d.c.Orders[c.Order].Day
		must(age >= 0 && age <= p.Window, api.ErrWindow)
		if p.Credit {
			r.Credit = true
		}
		r.Grades = append(r.Grades, -1)
	}
	if c.Want > 0 {
		_, ok := d.sold(c.Want)
		must(ok, api.ErrStock)
		r.Reserved = d.pick(c.Want)
		must(r.Reserved >= 0, api.ErrStock)
		d.place[r.Reserved] = 7
	}
	d.l = append(d.l, r)
	d.days[r.Number] = d.now + 14
	return int64(r.Number), []outbox.Message{d.put(1, r.Number, 0)}
}

// pick is the first unit of a SKU that is on the shelf.
func (d *due) pick(sku int) int {
	for u, place := range d.place {
		if place == 3 && d.units[u].SKU == sku {
			return u
		}
	}
	return -1
}

func (d *due) put(kind, number int, value int64) outbox.Message {
	m := outbox.Message{Key: d.next, Kind: kind, RMA: number, Value: value, Tries: 1, Due: d.now + 1}
	d.out = append(d.out, m)
	d.next++
	return m
}

// finish is how a return ends of which nothing came back.
func (d *due) finish(r *rma.RMA, state int) {
	must(r.State == 1 || r.State == 2, api.ErrState)
	r.State = state
	d.unreserve(r)
	delete(d.days, r.Number)
	d.out = slices.DeleteFunc(d.out, func(m outbox.Message) bool { return m.Kind == 1 && m.RMA == r.Number })
}

func (d *due) unreserve(r *rma.RMA) {
	if r.Reserved >= 0 {
		d.place[r.Reserved] = 3
	}
	r.Reserved = -1
}

func (d *due) happen(c command.Command) []outbox.Message {
	must(c.RMA >= 1 && c.RMA <= len(d.l), api.ErrNone)
	r := &d.l[c.RMA-1]
	switch c.Kind {
	case 2:
		d.finish(r, 9)
	case 3:
		d.finish(r, 7)
	case 4:
		must(r.State == 2, api.ErrState)
		r.State = 3
		for _, u := range r.Units {
			d.place[u] = 1
		}
		d.days[r.Number] = d.now + 30
	case 5:
		must(r.State == 3, api.ErrState)
		r.State = 4
		for _, u := range r.Units {
			d.place[u], d.received[u] = 2, true
		}
		delete(d.days, r.Number)
	case 6:
		return d.look(r, c.Unit, c.Grade)
	}
	return nil
}

// look is what is due once a unit was looked at.
func (d *due) look(r *rma.RMA, unit, grade int) []outbox.Message {
	must(r.State == 4, api.ErrState)
	must(grade < 5, api.ErrArg)
	k := slices.Index(r.Units, unit)
	must(k >= 0, api.ErrNone)
	must(r.Grades[k] == -1, api.ErrState)
	must(grade < 4, api.ErrArg)
	r.Grades[k] = grade
	p := d.c.Table[d.units[unit].Category]
	r.Worth += worth(p, d.units[unit].Share, r.Reason, grade)
	d.graded[unit] = true
	var said []outbox.Message
	if d.place[unit] = p.Grades[grade].To; d.place[unit] == 0 {
		d.place[unit] = 8
		said = append(said, d.put(4, r.Number, int64(unit)))
	}
	if !slices.Contains(r.Grades, -1) {
		said = append(said, d.settle(r)...)
	}
	return said
}

// worth is what a unit is worth that was graded.
func worth(p api.Policy, share int64, reason, grade int) int64 {
	value := share * int64(p.Grades[grade].Share) / 10000
	return value - value*int64(p.Fee[reason])/10000
}

func (d *due) settle(r *rma.RMA) (said []outbox.Message) {
	r.State = 5
	d.have[0] -= r.Worth
	d.have[1] += r.Worth
	left := r.Worth
	if r.Reserved >= 0 {
		if price, _ := d.sold(d.units[r.Reserved].SKU); left >= price {
			said = append(said, d.put(3, r.Number, int64(r.Reserved)))
			left -= price
		} else {
			d.unreserve(r)
		}
	}
	said = append(said, d.payOut(r, left)...)
	d.closed(r)
	return said
}

func (d *due) payOut(r *rma.RMA, sum int64) []outbox.Message {
	if sum > 0 && r.Credit {
		d.credited(r, sum)
	} else if sum > 0 {
		return []outbox.Message{d.put(2, r.Number, sum)}
	}
	return nil
}

func (d *due) credited(r *rma.RMA, sum int64) {
	d.have[1] -= sum
	d.have[3] += sum
	r.Credited += sum
}

// waits tells how many messages of a return, but labels, aren't heard.
func (d *due) waits(number int) int {
	n := 0
	for _, m := range d.out {
		if m.RMA == number && m.Kind > 1 {
			n++
		}
	}
	return n
}

func (d *due) closed(r *rma.RMA) {
	if r.State == 5 && d.waits(r.Number) == 0 {
		r.State = 6
	}
}

func (d *due) tick(days int) (said []outbox.Message) {
	must(days > 0 && days < 1001, api.ErrArg)
	must(d.now+days <= 100000, api.ErrRange)
	d.now += days
	for _, one := range d.parts().Timers {
		if one.Day > d.now {
			continue
		}
		delete(d.days, one.Number)
		switch r := &d.l[one.Number-1]; r.State {
		case 1, 2:
			d.finish(r, 8)
		case 3:
			for k, u := range r.Units {
				d.place[u], r.Grades[k] = 6, 4
				r.Worth += d.units[u].Share
			}
			said = append(said, d.settle(r)...)
		}
	}
	return append(said, d.again()...)
}

// again is what is said again, and gives labels up.
func (d *due) again() (said []outbox.Message) {
	for _, m := range slices.Clone(d.out) {
		if m.Due > d.now {
			continue
		}
		if m.Kind == 1 && m.Tries >= 5 {
			d.finish(&d.l[m.RMA-1], 8)
			continue
		}
		m.Tries++
		m.Due = d.now + []int{0, 1, 2, 4, 8}[min(m.Tries, 4)]
		said = append(said, m)
	}
	for _, m := range said {
		d.out[slices.IndexFunc(d.out, func(o outbox.Message) bool { return o.Key == m.Key })] = m
	}
	return said
}

// heard is what is due once a message was heard.
func (d *due) heard(key int, yes bool) (said []outbox.Message) {
	k := slices.IndexFunc(d.out, func(m outbox.Message) bool { return m.Key == key })
	must(k >= 0, api.ErrOld)
	m := d.out[k]
	d.out = slices.Delete(d.out, k, k+1)
	r := &d.l[m.RMA-1]
	unit := int(m.Value)
	switch {
	case m.Kind == 1 && yes:
		r.State = 2
	case m.Kind == 1:
		d.finish(r, 8)
	case m.Kind == 2 && yes:
		d.have[1] -= m.Value
		d.have[2] += m.Value
		r.Paid += m.Value
	case m.Kind == 2:
		d.credited(r, m.Value)
	case m.Kind == 3 && yes:
		price, _ := d.sold(d.units[unit].SKU)
		d.place[unit] = 8
		d.have[1] -= price
		d.have[4] += price
		r.Given += price
	case m.Kind == 3:
		price, _ := d.sold(d.units[unit].SKU)
		d.unreserve(r)
		said = d.payOut(r, price)
	case yes:
		d.place[unit] = 0
	default:
		d.place[unit] = 6
	}
	d.closed(r)
	return said
}

// pair is a saga, and what is due of it.
type pair struct {
	s *saga.Saga
	*due
}

// create is a pair of a new saga.
func create(t *testing.T, c api.Config) pair {
	t.Helper()
	s, e := saga.New(c)
	if e != api.OK || s == nil {
		t.Fatalf("New(%v): %p, %d", c, s, e)
	}
	p := pair{s, begin(c)}
	p.check(t)
	return p
}

// clone is a pair of the saga's clone.
func (p pair) clone() pair { return pair{p.s.Clone(), p.copy()} }

// made is a pair of a saga made of the other's parts.
func (p pair) made(t *testing.T) pair {
	t.Helper()
	return pair{mustMake(t, p.s.Parts()), p.copy()}
}

// do takes a command, and checks what is answered.
func (p pair) do(t *testing.T, c command.Command) (int64, []outbox.Message, api.Errno) {
	t.Helper()
	v, said, e := p.due.take(c)
	value, l, got := p.s.Take(c)
	if value != v || got != e || !slices.Equal(l, said) {
		t.Fatalf("Take(%+v): %d, %v, %d; want %d, %v, %d", c, value, l, got, v, said, e)
	}
	return v, said, e
}

// take takes a command that is answered so, checks all that it has then, and
// tells what is said.
func (p pair) take(t *testing.T, c command.Command, want api.Errno) []outbox.Message {
	t.Helper()
	_, said, e := p.do(t, c)
	if e != want {
		t.Fatalf("Take(%+v): %d; want %d", c, e, want)
	}
	p.check(t)
	return said
}

// check checks all that is told of a saga.
func (p pair) check(t *testing.T) {
	t.Helper()
	want := p.parts()
	mustHave(t, p.s, want)
}

// mustHave checks that a saga has these parts, however it is asked for them.
func mustHave(t *testing.T, s *saga.Saga, want saga.Parts) {
	t.Helper()
	mustBeAlike(t, "Parts", s.Parts(), want)
	units, _ := order.Units(want.Config)
	got := saga.Parts{Config: s.Config(), Ledger: s.Ledger(), RMAs: s.RMAs(), Timers: s.Timers().All(), Next: s.Outbox().NextKey(), Out: s.Outbox().All(), Now: s.Now()}
	l := s.Stock()
	if l.Len() != len(units) || !slices.Equal(s.Units(), units) {
		t.Fatalf("units: %d, %v; want %v", l.Len(), s.Units(), units)
	}
	for unit, u := range units {
		received, graded := l.Seen(unit)
		got.Places, got.Seen = append(got.Places, l.Place(unit)), append(got.Seen, [2]bool{received, graded})
		if l.SKU(unit) != u.SKU {
			t.Fatalf("SKU(%d): %d; want %d", unit, l.SKU(unit), u.SKU)
		}
	}
	mustBeAlike(t, "its calls", got, want)
}

// mustBeAlike checks that both parts are alike; nil lists are empty ones.
func mustBeAlike(t *testing.T, what string, got, want saga.Parts) {
	t.Helper()
	if !alike(got, want) {
		t.Fatalf("%s: %+v; want %+v", what, got, want)
	}
}

func alike(a, b saga.Parts) bool {
	return order.Equal(a.Config, b.Config) && slices.Equal(a.Places, b.Places) && slices.Equal(a.Seen, b.Seen) &&
		a.Ledger == b.Ledger && slices.EqualFunc(a.RMAs, b.RMAs, func(a, b rma.RMA) bool { return reflect.DeepEqual(a, b) }) &&
		slices.Equal(a.Timers, b.Timers) && a.Next == b.Next && slices.Equal(a.Out, b.Out) && a.Now == b.Now
}

// mustMake is the saga of these parts, and has them.
func mustMake(t *testing.T, p saga.Parts) *saga.Saga {
	t.Helper()
	s, e := saga.Make(p)
	if e != api.OK || s == nil {
		t.Fatalf("Make(%+v): %p, %d", p, s, e)
	}
	mustBeAlike(t, "Make's Parts", s.Parts(), p)
	return s
}

// mustNotMake checks that a Make is an error alone.
func mustNotMake(t *testing.T, p saga.Parts) {
	t.Helper()
	if s, e := saga.Make(p); s != nil || e != api.ErrArg {
		t.Errorf("Make(%+v): %p, %d; want ErrArg alone", p, s, e)
	}
}

// mustRefuse checks that a command is refused so, and changes nothing.
func mustRefuse(t *testing.T, s *saga.Saga, c command.Command, want api.Errno) {
	t.Helper()
	before := s.Parts()
	if v, l, e := s.Take(c); v != 0 || len(l) != 0 || e != want {
		t.Errorf("Take(%+v): %d, %v, %d; want %d alone", c, v, l, e, want)
	}
	mustBeAlike(t, "what was refused", s.Parts(), before)
}
