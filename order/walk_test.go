package order_test

import (
	"bytes"
	"math/rand"
	"slices"
	"testing"

	"recoup/api"
	"recoup/order"
)

// upTo is as often short as long; now and then it is an end.
func upTo(r *rand.Rand, most int) int {
	switch r.Intn(8) {
	case 0:
		return 0
	case 1:
		return most
	}
	return r.Intn(most+1) >> r.Intn(31)
}

func cents(r *rand.Rand) int64 { return int64(upTo(r, dear)) }

// someOrder is right, with a table of so many policies, and has at most so many
// units.
func someOrder(r *rand.Rand, policies, units int) api.Order {
	o := api.Order{Day: upTo(r, 100000), Tax: cents(r), Shipping: cents(r)}
	shift := r.Intn(31)
	for range 1 + r.Intn(min(8, units)) {
		n := 1 + r.Intn(min(50, 1+(units-1)/8))
		o.Lines = append(o.Lines, api.Line{SKU: 1 + upTo(r, 999), Category: r.Intn(policies), Price: cents(r) >> shift, Count: n})
	}
	o.Discount = int64(upTo(r, int(min(dear, allPrices(o)))))
	return o
}

// someConfig is right.
func someConfig(r *rand.Rand) api.Config {
	c := api.Config{Table: policies(1 + r.Intn(16))}
	left := 200
	for range r.Intn(21) {
		if left < 16 {
			break
		}
		o := someOrder(r, len(c.Table), 1+r.Intn(left/2))
		c.Orders = append(c.Orders, o)
		for _, line := range o.Lines {
			left -= line.Count
		}
	}
	for _, k := range r.Perm(1000)[:r.Intn(21)] {
		if left == 0 {
			break
		}
		s := api.Supply{SKU: 1 + k, Price: cents(r), Count: 1 + r.Intn(min(50, left))}
		c.Supplies = append(c.Supplies, s)
		left -= s.Count
	}
	return c
}

func TestAnyConfigsAreRight(t *testing.T) {
	r := rand.New(rand.NewSource(1))
	orders, units := 0, 0
	for range 1000 {
		c := someConfig(r)
		mustBeRight(t, c)
		mustComeToAll(t, c)
		mustEqual(t, c, order.Clone(c), true)
		orders, units = max(orders, len(c.Orders)), max(units, len(dueUnits(c)))
	}
	if orders != 20 || units != 200 {
		t.Error(orders, units)
	}
}

// Some numbers are changed, by little or to any other.
func TestWrongConfigsAreDue(t *testing.T) {
	r := rand.New(rand.NewSource(2))
	right := 0
	for range 2500 {
		c := someConfig(r)
		l := numbers(&c)
		for range min(len(l), 1+r.Intn(2)) {
			n := l[r.Intn(len(l))]
			switch r.Intn(8) {
			case 0:
				n.set(wrongNumbers()[r.Intn(len(wrongNumbers()))])
			case 1:
				n.set(n.least - 1 + int64(r.Intn(2)))
			case 2:
				n.set(n.most + int64(r.Intn(2)))
			default:
				n.set(n.get() + int64(r.Intn(5)-2))
			}
		}
		if mustBeDue(t, c) {
			right++
		}
	}
	if right < 500 || right > 2000 {
		t.Error(right, "are right")
	}
}

// A config's bytes, some of them changed, left out, or put in.
func TestChangedBytesAreDue(t *testing.T) {
	r := rand.New(rand.NewSource(3))
	right := 0
	for range 4000 {
		b := dueBytes(someConfig(r))
		for range 1 + r.Intn(2) {
			at := r.Intn(len(b))
			switch r.Intn(10) {
			case 0:
				b = slices.Delete(b, at, min(at+1+r.Intn(30), len(b)))
			case 1:
				b = slices.Insert(b, at, make([]byte, 1+r.Intn(30))...)
			case 2:
				b[at] = byte(r.Intn(256))
			default:
				b[at] += byte(r.Intn(5) - 2)
			}
			b = append(b, 0)[:max(1, len(b))]
		}
		if mustDecodeAsDue(t, b) {
			right++
			mustBeItsOwn(t, b)
		}
	}
	if right < 800 || right > 3200 {
		t.Error(right, "are right")
	}
}

// mustBeItsOwn checks that a config's bytes are the only ones that are its.
func mustBeItsOwn(t *testing.T, b []byte) {
	t.Helper()
	c, _ := order.Decode(b)
	if own, e := order.Encode(c); e != 0 || !bytes.Equal(own, b) {
		t.Fatal(b, own, e)
	}
}

// Any bytes, behind a table that is right.
func TestAnyBytesAreDue(t *testing.T) {
	r := rand.New(rand.NewSource(4))
	head := dueBytes(api.Config{Table: policies(2)})
	head = head[:len(head)-2]
	for range 10000 {
		b := append(slices.Clone(head), make([]byte, r.Intn(100))...)
		for k := range b[len(head):] {
			b[len(head)+k] = byte(r.Intn(1 << r.Intn(9)))
		}
		mustDecodeAsDue(t, b)
	}
}

func TestAnyConfigsAreAlikeAsDue(t *testing.T) {
	r := rand.New(rand.NewSource(5))
	for range 1000 {
		a, b := someConfig(r), someConfig(r)
		mustEqual(t, a, b, dueEqual(a, b))
		b = order.Clone(a)
		if l := numbers(&b); len(l) > 0 {
			n := l[r.Intn(len(l))]
			n.set(n.get() + int64(r.Intn(3)-1))
		}
		mustEqual(t, a, b, dueEqual(a, b))
		for _, s := range a.Supplies {
			mustCost(t, a, s.SKU, s.Price)
		}
	}
}
