package order_test

import (
	"math"
	"slices"

	"recoup/api"
)

const (
	dear     = 1 << 30
	greatest = math.MaxInt64
	smallest = math.MinInt64
)

// policies are n right ones, by their Window told from each other.
func policies(n int) []api.Policy {
	l := make([]api.Policy, n)
	for k := range l {
		l[k] = api.Policy{Window: k, Exchange: k%2 == 0, Fee: [4]int{k, 1000, 0, 10000}, Grades: [4]api.Grade{{Share: 10000, To: 3}, {Share: k, To: 4}, {To: 5}}}
	}
	return l
}

// sample is a right config that stays right, if any one number of it becomes
// any other from the one end of what is right to the other.
func sample() api.Config {
	return api.Config{
		Table: policies(3),
		Orders: []api.Order{
			{Day: 258, Discount: 100, Tax: 70, Shipping: 11, Lines: []api.Line{{SKU: 5, Category: 2, Price: 1000, Count: 2}, {SKU: 6, Category: 0, Price: 333, Count: 3}}},
			{Day: 0, Tax: 9, Lines: []api.Line{{SKU: 5, Category: 1, Price: 70000, Count: 1}}},
			{Day: 100000, Discount: 1, Shipping: 4, Lines: []api.Line{{SKU: 900, Category: 1, Price: 1, Count: 4}, {SKU: 7, Category: 2, Price: 50, Count: 2}, {SKU: 900, Category: 1, Price: 2, Count: 1}}},
		},
		Supplies: []api.Supply{{SKU: 7, Price: 900, Count: 2}, {SKU: 600, Price: 1 << 20, Count: 5}, {SKU: 5, Price: 0, Count: 1}},
	}
}

// single is a config of one order, whose units have these prices.
func single(o api.Order, prices ...int64) api.Config {
	for k, price := range prices {
		o.Lines = append(o.Lines, api.Line{SKU: k + 1, Price: price, Count: 1})
	}
	return api.Config{Table: policies(1), Orders: []api.Order{o}}
}

// manyOrders is a config of n orders, by their Day told from each other.
func manyOrders(n int) api.Config {
	c := api.Config{Table: policies(2), Orders: make([]api.Order, n)}
	for k := range c.Orders {
		c.Orders[k] = api.Order{Day: k, Tax: 1, Lines: []api.Line{{SKU: 1 + k%1000, Category: k % 2, Price: 10, Count: 2}}}
	}
	return c
}

// manyLines is a config of one order of n lines.
func manyLines(n int) api.Config {
	c := api.Config{Table: policies(2), Orders: []api.Order{{Discount: 1, Lines: make([]api.Line, n)}}}
	for k := range c.Orders[0].Lines {
		c.Orders[0].Lines[k] = api.Line{SKU: 1 + k%1000, Category: k % 2, Price: 10, Count: 2}
	}
	return c
}

// manySupplies is a config of n supplies.
func manySupplies(n int) api.Config {
	c := api.Config{Supplies: make([]api.Supply, n)}
	for k := range c.Supplies {
		c.Supplies[k] = api.Supply{SKU: 1 + k, Price: int64(k), Count: 1 + k%3}
	}
	return c
}

// manyUnits is a config whose lines, 8 or fewer of each order, have these
// counts, and whose supplies have those.
func manyUnits(perOrder int, lines, supplies []int) api.Config {
	c := api.Config{Table: policies(1)}
	for part := range slices.Chunk(lines, perOrder) {
		o := api.Order{Discount: 3, Tax: 100, Shipping: 7}
		for k, n := range part {
			o.Lines = append(o.Lines, api.Line{SKU: 1 + k, Price: 100 + int64(k), Count: n})
		}
		c.Orders = append(c.Orders, o)
	}
	for k, n := range supplies {
		c.Supplies = append(c.Supplies, api.Supply{SKU: 1 + k, Price: 1, Count: n})
	}
	return c
}

// alike is n times one count.
func alike(n, count int) []int { return slices.Repeat([]int{count}, n) }

// someConfigs are right, small and large.
func someConfigs() []api.Config {
	dearest := single(api.Order{Day: 100000, Discount: dear, Tax: dear, Shipping: dear}, dear, 0, dear)
	dearest.Supplies = []api.Supply{{SKU: 1000, Price: dear, Count: 50}}
	return []api.Config{
		{}, {Table: policies(16)}, sample(), single(api.Order{}, 0), single(api.Order{Tax: 5}, 0, 0, 0), dearest,
		manySupplies(1), manySupplies(20), manyOrders(1), manyOrders(20), manyLines(1), manyLines(8),
		manyUnits(8, alike(8, 25), nil), manyUnits(1, alike(20, 5), alike(20, 5)),
	}
}

// What a number of a config is.
const (
	day = iota
	discount
	tax
	shipping
	sku
	category
	price
	count
)

// number is one of a config, with the ends of what is right.
type number struct {
	what        int
	get         func() int64
	set         func(v int64)
	least, most int64
}

func from[T int | int64](what int, v *T, least, most int64) number {
	return number{what: what, get: func() int64 { return int64(*v) }, set: func(n int64) { *v = T(n) }, least: least, most: most}
}

// numbers are all of a config's orders and supplies.
func numbers(c *api.Config) []number {
	var l []number
	for k := range c.Orders {
		o := &c.Orders[k]
		l = append(l, from(day, &o.Day, 0, 100000), from(discount, &o.Discount, 0, dear), from(tax, &o.Tax, 0, dear), from(shipping, &o.Shipping, 0, dear))
		for n := range o.Lines {
			line := &o.Lines[n]
			l = append(l, from(category, &line.Category, 0, int64(len(c.Table))-1))
			l = append(l, sold(&line.SKU, &line.Price, &line.Count)...)
		}
	}
	for k := range c.Supplies {
		s := &c.Supplies[k]
		l = append(l, sold(&s.SKU, &s.Price, &s.Count)...)
	}
	return l
}

func sold(s *int, p *int64, n *int) []number {
	return []number{from(sku, s, 1, 1000), from(price, p, 0, dear), from(count, n, 1, 50)}
}

// wrongNumbers are wrong as any number of a config; some of them are right, if
// they lose their upper half or their sign.
func wrongNumbers() []int64 {
	return []int64{-1, -2, -256, -1000, dear + 1, dear + 2, 1 << 31, 1<<31 - 1, 1<<32 - 1, 1 << 32, 1<<32 + 1, 1 << 40, 1<<50 + 1, 1 << 62, 1<<62 + 1, greatest, greatest - 1, smallest, smallest + 1, smallest + 5}
}

// with is a config of which numbers have other values: a number's place, its
// value, the next one's place, its value.
func with(make func() api.Config, changes ...int64) api.Config {
	c := make()
	for l := range slices.Chunk(changes, 2) {
		numbers(&c)[l[0]].set(l[1])
	}
	return c
}
