package order_test

import (
	"bytes"
	"encoding/binary"
	"slices"
	"testing"

	"recoup/api"
	"recoup/order"
	"recoup/table"
)

// mustBeRight checks all that holds of a right config: it is one, has these
// units and bytes, and they have it.
func mustBeRight(t *testing.T, c api.Config) {
	t.Helper()
	if !order.Right(c) {
		t.Errorf("%v isn't right", c)
	}
	mustHave(t, c, dueUnits(c))
	want := dueBytes(c)
	if b, e := order.Encode(c); e != 0 || !bytes.Equal(b, want) {
		t.Errorf("of %v: %v, %d; want %v", c, b, e, want)
	}
	mustDecode(t, want, c)
}

// mustBeWrong checks that a config isn't right.
func mustBeWrong(t *testing.T, c api.Config) {
	t.Helper()
	if order.Right(c) {
		t.Errorf("%v is right", c)
	}
	if l, e := order.Units(c); e != 1 || len(l) != 0 {
		t.Errorf("of %v: %v, %d", c, l, e)
	}
	if b, e := order.Encode(c); e != 1 || len(b) != 0 {
		t.Errorf("of %v: %v, %d", c, b, e)
	}
}

// mustBeDue checks a config, be it right or not.
func mustBeDue(t *testing.T, c api.Config) (right bool) {
	t.Helper()
	if right = dueRight(c); right {
		mustBeRight(t, c)
	} else {
		mustBeWrong(t, c)
	}
	return right
}

// mustHave checks a config's units.
func mustHave(t *testing.T, c api.Config, want []order.Unit) {
	t.Helper()
	if l, e := order.Units(c); e != 0 || !slices.Equal(l, want) {
		t.Errorf("of %v: %v, %d; want %v", c, l, e, want)
	}
}

// mustDecode checks that bytes are a right config's.
func mustDecode(t *testing.T, b []byte, want api.Config) {
	t.Helper()
	got, e := order.Decode(b)
	if e != 0 || !dueEqual(got, want) {
		t.Errorf("of %v: %v, %d; want %v", b, got, e, want)
	}
}

// mustNotDecode checks that bytes are no right config's.
func mustNotDecode(t *testing.T, b []byte) {
	t.Helper()
	if got, e := order.Decode(b); e != 3 || !isNone(got) {
		t.Errorf("of %v: %v, %d", b, got, e)
	}
}

// mustDecodeAsDue checks bytes, be they a right config's or not.
func mustDecodeAsDue(t *testing.T, b []byte) (right bool) {
	t.Helper()
	c, right := dueConfig(b)
	if right {
		mustDecode(t, b, c)
	} else {
		mustNotDecode(t, b)
	}
	return right
}

// mustEqual checks it both ways round.
func mustEqual(t *testing.T, a, b api.Config, want bool) {
	t.Helper()
	if order.Equal(a, b) != want || order.Equal(b, a) != want {
		t.Error(a, b, !want)
	}
}

// mustCost checks the price of a SKU.
func mustCost(t *testing.T, c api.Config, sku int, want int64) {
	t.Helper()
	if price, e := order.Price(c, sku); e != 0 || price != want {
		t.Errorf("of %v, %d: %d, %d; want %d", c, sku, price, e, want)
	}
}

// mustNotCost checks that no supply has a SKU.
func mustNotCost(t *testing.T, c api.Config, sku int) {
	t.Helper()
	if price, e := order.Price(c, sku); e != 7 || price != 0 {
		t.Errorf("of %v, %d: %d, %d", c, sku, price, e)
	}
}

func isNone(c api.Config) bool {
	return len(c.Orders) == 0 && len(c.Supplies) == 0 && len(c.Table) == 0
}

// The dues are told by another hand: by a list of all numbers with their ends,
// with each share given out cent by cent, and with one cursor over all bytes.

func dueRight(c api.Config) bool {
	if !table.Right(c.Table) || len(c.Orders) > 20 || len(c.Supplies) > 20 {
		return false
	}
	for _, o := range c.Orders {
		if len(o.Lines) == 0 || len(o.Lines) > 8 {
			return false
		}
	}
	units := int64(0)
	for _, n := range numbers(&c) {
		v := n.get()
		if v < n.least || v > n.most {
			return false
		}
		if n.what == count {
			units += v
		}
	}
	return units <= 200 && noneIsTwice(c.Supplies) && noneIsFree(c.Orders)
}

func noneIsTwice(l []api.Supply) bool {
	skus := map[int]bool{}
	for _, s := range l {
		skus[s.SKU] = true
	}
	return len(skus) == len(l)
}

// noneIsFree tells whether no discount is more than all prices of its order.
func noneIsFree(l []api.Order) bool {
	for _, o := range l {
		rest := -o.Discount
		for _, line := range o.Lines {
			rest += line.Price * int64(line.Count)
		}
		if rest < 0 {
			return false
		}
	}
	return true
}

func dueUnits(c api.Config) []order.Unit {
	var l []order.Unit
	for n, o := range c.Orders {
		var own []order.Unit
		for _, line := range o.Lines {
			own = append(own, slices.Repeat([]order.Unit{{Order: n, SKU: line.SKU, Category: line.Category, Share: line.Price}}, line.Count)...)
		}
		prices := make([]int64, len(own))
		for k := range own {
			prices[k] = own[k].Share
		}
		less, tax, shipping := dueShares(o.Discount, prices), dueShares(o.Tax, prices), dueShares(o.Shipping, prices)
		for k := range own {
			own[k].Share = prices[k] - less[k] + tax[k] + shipping[k]
		}
		l = append(l, own...)
	}
	for _, s := range c.Supplies {
		for range s.Count {
			l = append(l, order.Unit{-1, s.SKU, 0, s.Price})
		}
	}
	return l
}

// dueShares needs no more than 63 bits: no price and no sum has more than 31.
func dueShares(sum int64, weights []int64) []int64 {
	if !slices.ContainsFunc(weights, func(w int64) bool { return w > 0 }) {
		weights = slices.Repeat([]int64{1}, len(weights))
	}
	all, left := int64(0), sum
	for _, w := range weights {
		all += w
	}
	shares, rests := make([]int64, len(weights)), make([]int64, len(weights))
	for k, w := range weights {
		shares[k], rests[k] = sum*w/all, sum*w%all
		left -= shares[k]
	}
	for range left {
		k := slices.Index(rests, slices.Max(rests))
		shares[k]++
		rests[k] = -1
	}
	return shares
}

func dueBytes(c api.Config) []byte {
	policies, _ := table.Encode(c.Table)
	b := binary.LittleEndian.AppendUint16(nil, uint16(len(policies)))
	b = append(append(b, policies...), byte(len(c.Orders)))
	for _, o := range c.Orders {
		b = binary.LittleEndian.AppendUint32(b, uint32(o.Day))
		for _, v := range []int64{o.Discount, o.Tax, o.Shipping} {
			b = binary.LittleEndian.AppendUint64(b, uint64(v))
		}
		b = append(b, byte(len(o.Lines)))
		for _, line := range o.Lines {
			b = append(b, byte(line.SKU), byte(line.SKU>>8), byte(line.Category))
			b = append(binary.LittleEndian.AppendUint64(b, uint64(line.Price)), byte(line.Count))
		}
	}
	b = append(b, byte(len(c.Supplies)))
	for _, s := range c.Supplies {
		b = append(b, byte(s.SKU), byte(s.SKU>>8))
		b = append(binary.LittleEndian.AppendUint64(b, uint64(s.Price)), byte(s.Count))
	}
	return b
}

// dueConfig tells the right config of its bytes. Bytes that end too early are
// read on as noughts, and are none.
func dueConfig(b []byte) (api.Config, bool) {
	all, at := append(slices.Clone(b), make([]byte, 8)...), 0
	next := func(size int) int64 {
		if at+size > len(b) {
			at = len(b) + 1
			return 0
		}
		v := binary.LittleEndian.Uint64(all[at:])
		at += size
		return int64(v << (64 - 8*size) >> (64 - 8*size))
	}
	var c api.Config
	own, e := []byte(nil), api.Errno(0)
	if long := int(next(2)); at+long <= len(b) {
		own, at = b[at:at+long], at+long
		c.Table, e = table.Decode(own)
	} else {
		return c, false
	}
	for range next(1) {
		o := api.Order{Day: int(next(4)), Discount: next(8), Tax: next(8), Shipping: next(8)}
		for range next(1) {
			o.Lines = append(o.Lines, api.Line{SKU: int(next(2)), Category: int(next(1)), Price: next(8), Count: int(next(1))})
		}
		c.Orders = append(c.Orders, o)
	}
	for range next(1) {
		c.Supplies = append(c.Supplies, api.Supply{SKU: int(next(2)), Price: next(8), Count: int(next(1))})
	}
	return c, at == len(b) && e == 0 && dueRight(c)
}

func dueEqual(a, b api.Config) bool {
	if len(a.Orders) != len(b.Orders) || !slices.Equal(a.Supplies, b.Supplies) || !slices.Equal(a.Table, b.Table) {
		return false
	}
	for k, o := range a.Orders {
		p := b.Orders[k]
		if o.Day != p.Day || [3]int64{o.Discount, o.Tax, o.Shipping} != [3]int64{p.Discount, p.Tax, p.Shipping} || !slices.Equal(o.Lines, p.Lines) {
			return false
		}
	}
	return true
}
