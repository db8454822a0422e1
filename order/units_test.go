package order_test

import (
	"testing"

	"recoup/api"
	"recoup/order"
)

// mustShare checks the shares of the units of an order alone.
func mustShare(t *testing.T, c api.Config, want ...int64) {
	t.Helper()
	mustBeRight(t, c)
	l, e := order.Units(c)
	if e != 0 || len(l) != len(want) {
		t.Errorf("of %v: %v, %d; want %v", c, l, e, want)
		return
	}
	for k := range want {
		if l[k].Share != want[k] {
			t.Errorf("of %v: %v at %d; want %d", c, l[k], k, want[k])
		}
	}
}

func TestTheChaptersExample(t *testing.T) {
	c := api.Config{Table: policies(1), Orders: []api.Order{{Discount: 1, Lines: []api.Line{{SKU: 1, Price: 100, Count: 2}}}}}
	mustHave(t, c, []order.Unit{{Order: 0, SKU: 1, Share: 99}, {Order: 0, SKU: 1, Share: 100}})
	mustShare(t, single(api.Order{Discount: 1}, 100, 100), 99, 100)
}

func TestUnitsOfNothing(t *testing.T) {
	mustHave(t, api.Config{}, nil)
	mustHave(t, api.Config{Table: policies(16)}, nil)
}

// The units stand here one by one, as they are to be.
func TestUnitsAreNumbered(t *testing.T) {
	c := sample()
	mustHave(t, c, []order.Unit{
		// Of 2999 cents: of the discount 34, 33, 11, 11, 11; of the tax 23, 23, 8,
		// 8, 8; of the shipping 4, 4, 1, 1, 1.
		{0, 5, 2, 993}, {0, 5, 2, 994}, {0, 6, 0, 331}, {0, 6, 0, 331}, {0, 6, 0, 331},
		{1, 5, 1, 70009},
		// Of 106 cents: of the discount one of the dear ones; of the shipping two each.
		{2, 900, 1, 1}, {2, 900, 1, 1}, {2, 900, 1, 1}, {2, 900, 1, 1}, {2, 7, 2, 51}, {2, 7, 2, 52}, {2, 900, 1, 2},
		{-1, 7, 0, 900}, {-1, 7, 0, 900},
		{-1, 600, 0, 1 << 20}, {-1, 600, 0, 1 << 20}, {-1, 600, 0, 1 << 20}, {-1, 600, 0, 1 << 20}, {-1, 600, 0, 1 << 20},
		{-1, 5, 0, 0},
	})
}

func TestSharesByHand(t *testing.T) {
	mustShare(t, single(api.Order{}, 7, 0, 5), 7, 0, 5)
	// Of three alike the first ones have one more of what is shared.
	mustShare(t, single(api.Order{Discount: 2}, 5, 5, 5), 4, 4, 5)
	mustShare(t, single(api.Order{Tax: 2}, 5, 5, 5), 6, 6, 5)
	mustShare(t, single(api.Order{Shipping: 2}, 5, 5, 5), 6, 6, 5)
	// Each is shared alone: not what they come to together.
	mustShare(t, single(api.Order{Tax: 1, Shipping: 1}, 5, 5), 7, 5)
	mustShare(t, single(api.Order{Discount: 1, Tax: 1}, 5, 5), 5, 5)
	mustShare(t, single(api.Order{Discount: 1, Tax: 1, Shipping: 1}, 5, 5), 6, 5)
	// By prices, not by what the discount leaves of them.
	mustShare(t, single(api.Order{Discount: 50, Tax: 10}, 10, 90), 6, 54)
	mustShare(t, single(api.Order{Discount: 10, Tax: 6}, 10, 20, 30), 9, 19, 28)
	mustShare(t, single(api.Order{Discount: 3, Tax: 1, Shipping: 2}, 1, 2, 3), 0, 2, 4)
}

func TestSharesOfPricesOfNought(t *testing.T) {
	mustShare(t, single(api.Order{}, 0), 0)
	mustShare(t, single(api.Order{Tax: 5}, 0), 5)
	mustShare(t, single(api.Order{Tax: 5}, 0, 0, 0), 2, 2, 1)
	mustShare(t, single(api.Order{Shipping: 4}, 0, 0, 0), 2, 1, 1)
	mustShare(t, single(api.Order{Tax: 5, Shipping: 4}, 0, 0, 0), 4, 3, 2)
	mustShare(t, single(api.Order{Tax: dear, Shipping: dear}, 0, 0), dear, dear)
	// A price of 0 beside others has no share of anything.
	mustShare(t, single(api.Order{Discount: 3, Tax: 100, Shipping: 7}, 0, 5, 0), 0, 109, 0)
}

// The whole discount leaves the tax and the shipping.
func TestSharesOfWhatIsGivenAway(t *testing.T) {
	mustShare(t, single(api.Order{Discount: 6}, 1, 2, 3), 0, 0, 0)
	mustShare(t, single(api.Order{Discount: 6, Tax: 6, Shipping: 12}, 1, 2, 3), 3, 6, 9)
	mustShare(t, single(api.Order{Discount: dear, Tax: dear}, dear/2, dear/2), dear/2, dear/2)
	mustShare(t, single(api.Order{Discount: dear - 1}, dear/2, dear/2), 0, 1)
}

func TestSharesOfTheDearest(t *testing.T) {
	c := manyUnits(8, alike(4, 50), nil)
	o := &c.Orders[0]
	o.Discount, o.Tax, o.Shipping = dear, dear, dear
	for k := range o.Lines {
		o.Lines[k].Price = dear
	}
	// Of 200 shares of 2^30 the first 24 have one more each time.
	want := make([]int64, 200)
	for k := range want {
		want[k] = dear + 5368709
		if k < 24 {
			want[k]++
		}
	}
	mustShare(t, c, want...)
	o.Discount, o.Shipping = 0, dear-1
	for k := range want {
		want[k] = dear + 2*5368709
		if k < 24 {
			want[k]++
		}
		if k < 23 {
			want[k]++
		}
	}
	mustShare(t, c, want...)
}

// Units of one line needn't have the same share, and lines of one SKU are no
// one line.
func TestSharesOfLines(t *testing.T) {
	c := api.Config{Table: policies(2), Orders: []api.Order{{Discount: 4, Tax: 7, Shipping: 1, Lines: []api.Line{
		{SKU: 9, Category: 1, Price: 3, Count: 3}, {SKU: 9, Category: 0, Price: 4, Count: 2}, {SKU: 9, Category: 1, Price: 3, Count: 1},
	}}}}
	// Of 20 cents: of the discount 1, 1, 0, 1, 1, 0; of the tax 1, 1, 1, 2, 1, 1; of the
	// shipping the first of 4.
	mustHave(t, c, []order.Unit{{0, 9, 1, 3}, {0, 9, 1, 3}, {0, 9, 1, 4}, {0, 9, 0, 6}, {0, 9, 0, 4}, {0, 9, 1, 4}})
}

// Each order is shared alone, and a supply's unit has nothing of it.
func TestSharesOfOneOrderAlone(t *testing.T) {
	a, b := single(api.Order{Discount: 1, Tax: 5}, 10, 20), single(api.Order{Shipping: 9}, 1, 1)
	c := api.Config{Table: a.Table, Orders: []api.Order{a.Orders[0], b.Orders[0]}, Supplies: []api.Supply{{SKU: 1, Price: 77, Count: 2}}}
	mustHave(t, c, []order.Unit{{0, 1, 0, 12}, {0, 2, 0, 22}, {1, 1, 0, 6}, {1, 2, 0, 5}, {-1, 1, 0, 77}, {-1, 1, 0, 77}})
}

// The category of a supply's unit is 0, whatever the table.
func TestUnitsOfSuppliesAlone(t *testing.T) {
	for n := range 3 {
		c := manySupplies(3)
		c.Table = policies(n)
		mustHave(t, c, []order.Unit{{-1, 1, 0, 0}, {-1, 2, 0, 1}, {-1, 2, 0, 1}, {-1, 3, 0, 2}, {-1, 3, 0, 2}, {-1, 3, 0, 2}})
	}
}

func TestUnitsAreAsManyAsAreCounted(t *testing.T) {
	for count := 1; count <= 50; count++ {
		l, e := order.Units(manyUnits(2, []int{count, 1, count}, []int{count, 2}))
		if e != 0 || len(l) != 3*count+3 {
			t.Error(count, len(l), e)
		}
	}
}

// What follows: an order's shares come to all that was paid.
func TestSharesComeToAllThatWasPaid(t *testing.T) {
	for _, c := range someConfigs() {
		mustComeToAll(t, c)
	}
}

// mustComeToAll checks it of each order, and that no share is below 0.
func mustComeToAll(t *testing.T, c api.Config) {
	t.Helper()
	l, e := order.Units(c)
	come := make([]int64, len(c.Orders)+1)
	for _, u := range l {
		come[u.Order+1] += u.Share
		if u.Share < 0 {
			t.Error(u)
		}
	}
	for k, o := range c.Orders {
		if all := allPrices(o) - o.Discount + o.Tax + o.Shipping; e != 0 || come[k+1] != all {
			t.Error(c, k, e, come[k+1], all)
		}
	}
}
