package order_test

import (
	"slices"
	"testing"

	"recoup/api"
	"recoup/order"
)

// wrongConfigs aren't right, but may be copied, held against each other, and
// asked for a price.
func wrongConfigs() []api.Config {
	twice := sample()
	twice.Supplies = append(twice.Supplies, twice.Supplies...)
	l := []api.Config{twice, {Orders: make([]api.Order, 3)}, manyOrders(50), manyLines(100), manySupplies(30), {Table: policies(40)}, {Supplies: make([]api.Supply, 2)}}
	c := sample()
	for k := range numbers(&c) {
		l = append(l, with(sample, int64(k), smallest+int64(k)))
	}
	return l
}

func TestAConfigIsAlikeItself(t *testing.T) {
	for _, c := range append(someConfigs(), wrongConfigs()...) {
		mustEqual(t, c, c, true)
		mustEqual(t, c, order.Clone(c), true)
	}
}

func TestOtherConfigsAreUnlike(t *testing.T) {
	l := append(someConfigs(), wrongConfigs()...)
	for n, a := range l {
		for m, b := range l {
			mustEqual(t, a, b, n == m)
		}
	}
}

func TestNoListIsAlikeAnEmptyOne(t *testing.T) {
	mustEqual(t, api.Config{}, api.Config{Orders: []api.Order{}, Supplies: []api.Supply{}, Table: []api.Policy{}}, true)
	mustEqual(t, api.Config{Orders: []api.Order{{}}}, api.Config{Orders: []api.Order{{Lines: []api.Line{}}}}, true)
	mustEqual(t, api.Config{}, api.Config{Orders: make([]api.Order, 1)}, false)
	mustEqual(t, api.Config{}, api.Config{Supplies: make([]api.Supply, 1)}, false)
	mustEqual(t, api.Config{}, api.Config{Table: make([]api.Policy, 1)}, false)
	mustEqual(t, api.Config{Orders: []api.Order{{}}}, api.Config{Orders: []api.Order{{Lines: make([]api.Line, 1)}}}, false)
}

func TestEachNumberMakesUnlike(t *testing.T) {
	c := sample()
	for k, n := range numbers(&c) {
		for _, by := range []int64{1, -1, 256, 1 << 16, 1 << 32, smallest} {
			other := with(sample, int64(k), n.get()+by)
			mustEqual(t, c, other, false)
			mustEqual(t, other, with(sample, int64(k), n.get()+by), true)
		}
	}
}

// What one number has more another one hasn't less, for all that.
func TestEachTwoNumbersMakeUnlike(t *testing.T) {
	c := sample()
	l := numbers(&c)
	for k, n := range l {
		for j, m := range l {
			if j != k {
				mustEqual(t, c, with(sample, int64(k), n.get()+1, int64(j), m.get()-1), false)
				mustEqual(t, c, with(sample, int64(k), m.get(), int64(j), n.get()), m.get() == n.get())
			}
		}
	}
}

func TestEachPolicyMakesUnlike(t *testing.T) {
	for at := range 3 {
		for _, turn := range []func(p *api.Policy){
			func(p *api.Policy) { p.Window++ }, func(p *api.Policy) { p.Final = !p.Final }, func(p *api.Policy) { p.Exchange = !p.Exchange }, func(p *api.Policy) { p.Credit = !p.Credit },
			func(p *api.Policy) { p.Fee[3]-- }, func(p *api.Policy) { p.Grades[2].Share++ }, func(p *api.Policy) { p.Grades[0].To++ },
		} {
			c := sample()
			turn(&c.Table[at])
			mustEqual(t, c, sample(), false)
		}
	}
}

func TestOtherOrderOrNumberIsUnlike(t *testing.T) {
	for _, turn := range []func(c *api.Config){
		func(c *api.Config) { slices.Reverse(c.Orders) },
		func(c *api.Config) { slices.Reverse(c.Supplies) },
		func(c *api.Config) { slices.Reverse(c.Table) },
		func(c *api.Config) { slices.Reverse(c.Orders[0].Lines) },
		func(c *api.Config) { c.Orders = c.Orders[:2] },
		func(c *api.Config) { c.Orders = c.Orders[1:] },
		func(c *api.Config) { c.Supplies = c.Supplies[:2] },
		func(c *api.Config) { c.Supplies = nil },
		func(c *api.Config) { c.Table = c.Table[:2] },
		func(c *api.Config) { c.Table = nil },
		func(c *api.Config) { c.Orders[2].Lines = c.Orders[2].Lines[:2] },
		func(c *api.Config) { c.Orders[2].Lines = nil },
		func(c *api.Config) { c.Orders = append(c.Orders, api.Order{}) },
		func(c *api.Config) { c.Supplies = append(c.Supplies, api.Supply{}) },
		func(c *api.Config) { c.Table = append(c.Table, api.Policy{}) },
		func(c *api.Config) { c.Orders[1].Lines = append(c.Orders[1].Lines, api.Line{}) },
		// The same lines, of other orders.
		func(c *api.Config) {
			c.Orders[0].Lines, c.Orders[1].Lines = c.Orders[1].Lines, c.Orders[0].Lines
		},
	} {
		c := sample()
		turn(&c)
		mustEqual(t, c, sample(), false)
		mustEqual(t, c, order.Clone(c), true)
	}
}

func TestACloneHasAllThatThereWas(t *testing.T) {
	for _, c := range append(someConfigs(), wrongConfigs()...) {
		if got := order.Clone(c); !dueEqual(got, c) {
			t.Error(c, got)
		}
		if dueRight(c) {
			mustBeRight(t, order.Clone(c))
		} else {
			mustBeWrong(t, order.Clone(c))
		}
	}
}

func TestThePriceIsTheSupplys(t *testing.T) {
	c := sample()
	mustCost(t, c, 7, 900)
	mustCost(t, c, 600, 1<<20)
	mustCost(t, c, 5, 0)
	for k, s := range manySupplies(20).Supplies {
		mustCost(t, manySupplies(20), s.SKU, int64(k))
	}
}

// What lines have is no supply.
func TestNoSupplyHasIt(t *testing.T) {
	for _, c := range someConfigs() {
		for _, sku := range []int{-1, 0, 8, 6, 900, 999, 1001, 1 << 16, 1<<16 + 7, 1 << 32, 1<<32 + 7, -7, smallest, smallest + 7, greatest} {
			if !slices.ContainsFunc(c.Supplies, func(s api.Supply) bool { return s.SKU == sku }) {
				mustNotCost(t, c, sku)
			}
		}
	}
	mustNotCost(t, api.Config{}, 0)
	mustNotCost(t, sample(), 6)
	mustNotCost(t, sample(), 900)
}

// Whether the config is right isn't asked.
func TestThePriceInAConfigThatIsNotRight(t *testing.T) {
	for _, c := range wrongConfigs() {
		for sku := range 40 {
			k := slices.IndexFunc(c.Supplies, func(s api.Supply) bool { return s.SKU == sku })
			if k < 0 {
				mustNotCost(t, c, sku)
			} else {
				mustCost(t, c, sku, c.Supplies[k].Price)
			}
		}
	}
	odd := api.Config{Table: policies(17), Supplies: []api.Supply{
		{SKU: 3, Price: 30, Count: 0}, {SKU: 4, Price: -40, Count: 1}, {SKU: 3, Price: 31, Count: 1}, {SKU: 0, Price: 5, Count: 1},
		{SKU: smallest, Price: smallest, Count: smallest}, {SKU: greatest, Price: greatest, Count: greatest}, {SKU: 4, Price: 41, Count: 1}, {SKU: 3, Price: 30, Count: 1},
	}}
	for sku, want := range map[int]int64{3: 30, 4: -40, 0: 5, smallest: smallest, greatest: greatest} {
		mustCost(t, odd, sku, want)
	}
	mustNotCost(t, odd, 1)
	mustNotCost(t, odd, -1)
	slices.Reverse(odd.Supplies)
	for sku, want := range map[int]int64{3: 30, 4: 41} {
		mustCost(t, odd, sku, want)
	}
	mustCost(t, manySupplies(1000), 1000, 999)
}
