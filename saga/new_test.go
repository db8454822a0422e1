package saga_test

import (
	"slices"
	"testing"

	"recoup/api"
	"recoup/order"
	"recoup/saga"
)

func TestANewSaga(t *testing.T) {
	p := create(t, sample())
	l := p.s.Stock()
	for unit := range 14 {
		want := 0
		if unit >= 10 {
			want = 3
		}
		received, graded := l.Seen(unit)
		if l.Place(unit) != want || received || graded {
			t.Error(unit, l.Place(unit), received, graded)
		}
	}
	if l.Len() != 14 || l.SKU(0) != 1 || l.SKU(8) != 5 || l.SKU(13) != 7 {
		t.Error(l.Len(), l.SKU(0), l.SKU(8), l.SKU(13))
	}
	if p.s.Now() != 0 || len(p.s.RMAs()) != 0 || p.s.Timers().Len() != 0 || len(p.s.Outbox().All()) != 0 || p.s.Outbox().NextKey() != 1 {
		t.Error(p.s.Parts())
	}
	p.mustHaveSums(t, 0, 0, 0, 0, 0)
}

func TestItsUnits(t *testing.T) {
	s, _ := saga.New(sample())
	var got []int64
	for _, u := range s.Units() {
		got = append(got, u.Share)
	}
	if !slices.Equal(got, []int64{988, 988, 987, 493, 494, 700, 300, 800, 800, 0, 900, 900, 0, 5000}) {
		t.Error(got)
	}
	if u := s.Units()[8]; u != (order.Unit{Order: 1, SKU: 5, Category: coupons, Share: 800}) {
		t.Error(u)
	}
	if !order.Equal(s.Config(), sample()) {
		t.Error(s.Config())
	}
}

func TestTheLeastAndTheGreatestConfigs(t *testing.T) {
	most := api.Config{Table: make([]api.Policy, 16)}
	for k := range 20 {
		most.Orders = append(most.Orders, api.Order{Day: 100000, Lines: []api.Line{{SKU: 1000, Category: 15, Price: 1 << 30, Count: 5}}})
		most.Supplies = append(most.Supplies, api.Supply{SKU: 981 + k, Price: 1 << 30, Count: 5})
	}
	for _, c := range []api.Config{{}, {Table: make([]api.Policy, 1)}, {Supplies: []api.Supply{{SKU: 1, Count: 1}}}, most} {
		p := create(t, c)
		p.take(t, tick(1), api.OK)
	}
}

func TestWrongConfigs(t *testing.T) {
	for k, change := range []func(c *api.Config){
		func(c *api.Config) { c.Table = nil },
		func(c *api.Config) { c.Table[0].Window = -1 },
		func(c *api.Config) { c.Table[3].Grades[0].To = 7 },
		func(c *api.Config) { c.Orders[0].Day = -1 },
		func(c *api.Config) { c.Orders[2].Day = 100001 },
		func(c *api.Config) { c.Orders[1].Lines = nil },
		func(c *api.Config) { c.Orders[1].Lines[0].Category = 4 },
		func(c *api.Config) { c.Orders[0].Discount = 4001 },
		func(c *api.Config) { c.Supplies[1].SKU = 1 },
		func(c *api.Config) { c.Supplies[1].Price = -1 },
		func(c *api.Config) { c.Supplies = make([]api.Supply, 21) },
		func(c *api.Config) { c.Orders[0].Lines[0].Count = 51 },
		func(c *api.Config) {
			c.Orders[0].Lines[0].Count, c.Orders[0].Lines[1].Count, c.Orders[1].Lines[0].Count, c.Orders[1].Lines[1].Count = 50, 50, 50, 50
		},
	} {
		c := sample()
		change(&c)
		if s, e := saga.New(c); s != nil || e != api.ErrArg {
			t.Error(k, s, e)
		}
	}
}

func TestTakeOfWhatIsNotFormed(t *testing.T) {
	p := create(t, sample())
	p.labelled(t, ask(0, 0))
	for _, c := range notFormed() {
		mustRefuse(t, p.s, c, api.ErrArg)
	}
	p.check(t)
}
