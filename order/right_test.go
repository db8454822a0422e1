package order_test

import (
	"slices"
	"testing"

	"recoup/api"
	"recoup/order"
)

func TestTheLimitsAreTheDocuments(t *testing.T) {
	if api.MaxOrders != 20 || api.MaxLines != 8 || api.MaxUnits != 200 || api.MaxTable != 16 || api.MaxCents != 1<<50 || api.MaxDay != 100000 {
		t.Error(api.MaxOrders, api.MaxLines, api.MaxUnits, api.MaxTable, api.MaxCents, api.MaxDay)
	}
	if api.ErrArg != 1 || api.ErrForm != 3 || api.ErrNone != 7 {
		t.Error(api.ErrArg, api.ErrForm, api.ErrNone)
	}
}

func TestSomeConfigsAreRight(t *testing.T) {
	for _, c := range someConfigs() {
		mustBeRight(t, c)
	}
}

func TestNothingAtAllIsAConfig(t *testing.T) {
	mustBeRight(t, api.Config{})
	mustBeRight(t, api.Config{Orders: []api.Order{}, Supplies: []api.Supply{}, Table: []api.Policy{}})
}

// Each number of the sample, wherever it stands, at its ends and beyond them.
func TestEachNumberHasItsEnds(t *testing.T) {
	c := sample()
	for k, n := range numbers(&c) {
		for _, v := range []int64{n.least, n.least + 1, n.most - 1, n.most} {
			// All prices of an order may be less than the most of a discount.
			if right := mustBeDue(t, with(sample, int64(k), v)); !right && n.what != discount {
				t.Error(k, v)
			}
		}
		for _, v := range append(wrongNumbers(), n.least-1, n.most+1, n.least-256, n.most+256, n.least+1<<32, n.most+1<<32) {
			mustBeWrong(t, with(sample, int64(k), v))
		}
	}
}

func allPrices(o api.Order) int64 {
	all := int64(0)
	for _, line := range o.Lines {
		all += line.Price * int64(line.Count)
	}
	return all
}

func TestADayIsFromNoughtToMaxDay(t *testing.T) {
	for _, v := range []int{0, 1, 255, 256, 1 << 16, 99999, 100000} {
		mustBeRight(t, single(api.Order{Day: v}, 1))
	}
	for _, v := range []int{-1, -2, 100001, 100002, 1 << 17, 1 << 32, 1<<32 + 1, smallest, greatest} {
		mustBeWrong(t, single(api.Order{Day: v}, 1))
	}
}

func TestADiscountIsNoMoreThanAllPrices(t *testing.T) {
	c := sample()
	for k := range c.Orders {
		all := allPrices(c.Orders[k])
		for _, v := range []int64{0, 1, all - 1, all} {
			c.Orders[k].Discount = v
			mustBeRight(t, c)
		}
		for _, v := range []int64{all + 1, all + 2, 2*all + 1, dear} {
			c.Orders[k].Discount = v
			mustBeWrong(t, c)
		}
		c.Orders[k].Discount = 0
	}
}

// All prices are those of all units, not of all lines.
func TestADiscountOfALineOfMany(t *testing.T) {
	c := manyUnits(2, []int{50, 3}, nil)
	for v, right := range map[int64]bool{100: true, 201: true, 202: true, 50 * 100: true, 50*100 + 303: true, 50*100 + 304: false, 50 * 101: true, 53 * 101: false} {
		c.Orders[0].Discount = v
		if mustBeDue(t, c) != right {
			t.Error(v, !right)
		}
	}
}

// Tax and shipping don't make room for more.
func TestADiscountOfPricesAlone(t *testing.T) {
	for _, o := range []api.Order{{Tax: 100}, {Shipping: 100}, {Tax: dear, Shipping: dear}} {
		o.Discount = 6
		mustBeRight(t, single(o, 1, 2, 3))
		o.Discount = 7
		mustBeWrong(t, single(o, 1, 2, 3))
	}
}

// Nor does what another order has.
func TestADiscountOfItsOwnOrder(t *testing.T) {
	c := manyOrders(3)
	for k := range c.Orders {
		c.Orders[k].Discount = 20
		mustBeRight(t, c)
		c.Orders[k].Discount = 21
		mustBeWrong(t, c)
		c.Orders[k].Discount = 0
	}
}

func TestADiscountOfNothing(t *testing.T) {
	mustBeRight(t, single(api.Order{Discount: 0}, 0))
	mustBeWrong(t, single(api.Order{Discount: 1}, 0))
	mustBeWrong(t, single(api.Order{Discount: 1, Tax: 5, Shipping: 5}, 0, 0, 0))
	mustBeRight(t, single(api.Order{Discount: 1}, 0, 0, 1))
}

// However much all prices are, a discount is at most 2^30.
func TestADiscountHasAnEndOfItsOwn(t *testing.T) {
	mustBeRight(t, single(api.Order{Discount: dear}, dear))
	mustBeWrong(t, single(api.Order{Discount: dear}, dear-1))
	mustBeRight(t, single(api.Order{Discount: dear}, dear, dear, dear))
	mustBeWrong(t, single(api.Order{Discount: dear + 1}, dear, dear, dear))
	mustBeWrong(t, single(api.Order{Discount: 3 * dear}, dear, dear, dear))
}

func TestACategoryIsTheTables(t *testing.T) {
	for n := range 17 {
		for _, v := range []int{-17, -1, 0, 1, n - 1, n, n + 1, 15, 16, 255, 256, 1 << 32, smallest, greatest} {
			c := single(api.Order{}, 5)
			c.Table, c.Orders[0].Lines[0].Category = policies(n), v
			if right := mustBeDue(t, c); right != (0 <= v && v < n) {
				t.Error(n, v, right)
			}
		}
	}
}

func TestATableMustBeRight(t *testing.T) {
	wrong := []func(p *api.Policy){
		func(p *api.Policy) { p.Window = -1 }, func(p *api.Policy) { p.Window = 1001 }, func(p *api.Policy) { p.Fee[3] = 10001 }, func(p *api.Policy) { p.Grades[2].Share = -1 },
		func(p *api.Policy) { p.Grades[3] = api.Grade{Share: 1} }, func(p *api.Policy) { p.Grades[0].To = 1 }, func(p *api.Policy) { p.Grades[1].To = smallest },
	}
	for k := range wrong {
		for at := range 3 {
			for _, c := range []api.Config{sample(), {Table: policies(3)}, {Table: policies(3), Supplies: sample().Supplies}} {
				wrong[k](&c.Table[at])
				mustBeWrong(t, c)
			}
		}
	}
	mustBeWrong(t, api.Config{Table: policies(17)})
	mustBeWrong(t, api.Config{Table: make([]api.Policy, 1<<16)})
}

func TestThereAreAtMostMaxOrders(t *testing.T) {
	for n := range 21 {
		mustBeRight(t, manyOrders(n))
	}
	for _, n := range []int{21, 22, 40, 255, 256, 257, 276, 1 << 16} {
		mustBeWrong(t, manyOrders(n))
	}
	c := manyOrders(20)
	c.Supplies = manySupplies(20).Supplies
	mustBeRight(t, c)
}

func TestThereAreAtMostAsManySupplies(t *testing.T) {
	for n := range 21 {
		mustBeRight(t, manySupplies(n))
	}
	for _, n := range []int{21, 22, 40, 255, 256, 257, 276, 1000} {
		mustBeWrong(t, manySupplies(n))
	}
}

// How many supplies there may be doesn't hang on how many orders there are.
func TestSuppliesAreNotCountedByOrders(t *testing.T) {
	c := manyOrders(1)
	c.Supplies = manySupplies(20).Supplies
	mustBeRight(t, c)
	c = manyOrders(20)
	c.Supplies = manySupplies(1).Supplies
	mustBeRight(t, c)
	c.Supplies = manySupplies(21).Supplies
	mustBeWrong(t, c)
}

func TestAnOrderHasOneToMaxLines(t *testing.T) {
	for n := 1; n <= 8; n++ {
		mustBeRight(t, manyLines(n))
	}
	for _, n := range []int{0, 9, 10, 16, 255, 256, 257, 264, 1 << 16} {
		mustBeWrong(t, manyLines(n))
	}
	for at := range 3 {
		for _, lines := range [][]api.Line{nil, {}, manyLines(9).Orders[0].Lines} {
			c := manyOrders(3)
			c.Orders[at].Lines = lines
			mustBeWrong(t, c)
		}
	}
}

func TestNoTwoSuppliesHaveTheSameSKU(t *testing.T) {
	for many := 2; many <= 20; many++ {
		for a := range many {
			for b := range many {
				c := manySupplies(many)
				c.Supplies[b].SKU = c.Supplies[a].SKU
				if right := mustBeDue(t, c); right != (a == b) {
					t.Error(many, a, b, right)
				}
			}
		}
	}
}

// Lines, of one order or of several, may be of one SKU, and of a supply's.
func TestLinesMayHaveTheSameSKU(t *testing.T) {
	c := manyLines(8)
	c.Orders = append(c.Orders, c.Orders[0])
	for k := range c.Orders {
		c.Orders[k].Lines = slices.Clone(c.Orders[k].Lines)
		for n := range c.Orders[k].Lines {
			c.Orders[k].Lines[n].SKU = 77
		}
	}
	c.Supplies = []api.Supply{{SKU: 77, Price: 1, Count: 1}}
	mustBeRight(t, c)
}

func TestThereAreAtMostMaxUnits(t *testing.T) {
	for _, c := range []struct {
		perOrder        int
		lines, supplies []int
		right           bool
	}{
		{8, alike(4, 50), nil, true},
		{8, append(alike(4, 50), 1), nil, false},
		{8, alike(8, 25), nil, true},
		{8, append(alike(7, 25), 26), nil, false},
		{1, alike(20, 10), nil, true},
		{1, append(alike(19, 10), 11), nil, false},
		{8, alike(160, 1), alike(20, 2), true},
		{8, alike(160, 1), append(alike(19, 2), 3), false},
		{8, append(alike(159, 1), 2), alike(20, 2), false},
		{8, nil, alike(20, 10), true},
		{8, nil, append(alike(19, 10), 11), false},
		{8, nil, alike(4, 50), true},
		{8, nil, append(alike(4, 50), 1), false},
		{2, alike(4, 49), []int{4}, true},
		{2, alike(4, 49), []int{5}, false},
		{2, []int{50, 50, 50, 49}, []int{1}, true},
		{2, []int{50, 50, 50, 50}, []int{1}, false},
		{8, alike(160, 50), alike(20, 50), false},
		{8, []int{50, 50, 50, 50, 50, 6}, nil, false},
		{1, []int{50, 50, 50, 50, 50, 7}, nil, false},
	} {
		if right := mustBeDue(t, manyUnits(c.perOrder, c.lines, c.supplies)); right != c.right {
			t.Error(c, right)
		}
	}
}

// One wrong number makes up for no other.
func TestTwoWrongsAreWrong(t *testing.T) {
	c := sample()
	all := int64(len(numbers(&c)))
	for n := range all {
		for m := range all {
			if n != m {
				mustBeWrong(t, with(sample, n, -1, m, dear+1))
				mustBeWrong(t, with(sample, n, smallest, m, greatest))
			}
		}
	}
}

// A count that isn't right doesn't make room for others.
func TestCountsDoNotMakeRoom(t *testing.T) {
	mustBeWrong(t, manyUnits(8, append(alike(4, 50), -1, 1), nil))
	mustBeWrong(t, manyUnits(8, alike(4, 50), []int{-1, 1}))
	mustBeWrong(t, manyUnits(8, alike(4, 50), []int{-1}))
	mustBeWrong(t, manyUnits(8, alike(4, 50), []int{1, smallest, smallest}))
	mustBeWrong(t, manyUnits(8, []int{greatest, greatest, 2}, nil))
	mustBeWrong(t, manyUnits(8, nil, []int{greatest, greatest, 2, 5}))
	mustBeWrong(t, manyUnits(8, []int{5, 0}, nil))
	mustBeWrong(t, manyUnits(8, nil, []int{5, 0}))
}

func TestRightAsksOfItsConfigAlone(t *testing.T) {
	for range 3 {
		if !order.Right(sample()) || order.Right(manyOrders(21)) || !order.Right(api.Config{}) {
			t.Error("it is now otherwise")
		}
	}
}
