package order_test

import (
	"bytes"
	"testing"

	"recoup/api"
	"recoup/order"
)

// mustBeBytes checks the bytes of a config, both ways.
func mustBeBytes(t *testing.T, c api.Config, want []byte) {
	t.Helper()
	if b, e := order.Encode(c); e != 0 || !bytes.Equal(b, want) {
		t.Errorf("of %v: %v, %d; want %v", c, b, e, want)
	}
	mustDecode(t, want, c)
}

func TestBytesOfNothing(t *testing.T) {
	mustBeBytes(t, api.Config{}, []byte{2, 0, 0, 0, 0, 0})
	mustBeBytes(t, api.Config{Orders: []api.Order{}, Supplies: []api.Supply{}, Table: []api.Policy{}}, []byte{2, 0, 0, 0, 0, 0})
}

// The bytes stand here one by one, as they are to be.
func TestBytesOfAConfig(t *testing.T) {
	c := api.Config{
		Table: []api.Policy{{}, {Window: 30, Credit: true, Fee: [4]int{1, 2, 3, 4}, Grades: [4]api.Grade{{Share: 10000, To: 3}, {Share: 5000, To: 4}, {Share: 0, To: 5}, {}}}},
		Orders: []api.Order{
			{Day: 100000, Discount: 772, Tax: 1 << 30, Shipping: 5, Lines: []api.Line{{SKU: 1000, Category: 1, Price: 1 << 30, Count: 3}, {SKU: 2, Category: 0, Price: 66051, Count: 50}}},
			{Day: 7, Lines: []api.Line{{SKU: 258, Category: 0, Price: 0, Count: 1}}},
		},
		Supplies: []api.Supply{{SKU: 259, Price: 1<<30 - 1, Count: 9}, {SKU: 1, Price: 4, Count: 50}},
	}
	mustBeRight(t, c)
	mustBeBytes(t, c, []byte{
		48, 0, 2, 0,
		0, 0, 0, 0, 0, 0, 0, 0, 0, 0, 0, 0, 0, 0, 0, 0, 0, 0, 0, 0, 0, 0, 0,
		30, 0, 4, 1, 0, 2, 0, 3, 0, 4, 0, 16, 39, 3, 136, 19, 4, 0, 0, 5, 0, 0, 0,
		2,
		160, 134, 1, 0, 4, 3, 0, 0, 0, 0, 0, 0, 0, 0, 0, 64, 0, 0, 0, 0, 5, 0, 0, 0, 0, 0, 0, 0, 2,
		232, 3, 1, 0, 0, 0, 64, 0, 0, 0, 0, 3,
		2, 0, 0, 3, 2, 1, 0, 0, 0, 0, 0, 50,
		7, 0, 0, 0, 0, 0, 0, 0, 0, 0, 0, 0, 0, 0, 0, 0, 0, 0, 0, 0, 0, 0, 0, 0, 0, 0, 0, 0, 1,
		2, 1, 0, 0, 0, 0, 0, 0, 0, 0, 0, 1,
		2,
		3, 1, 255, 255, 255, 63, 0, 0, 0, 0, 9,
		1, 0, 4, 0, 0, 0, 0, 0, 0, 0, 50,
	})
}

func TestBytesOfSuppliesAlone(t *testing.T) {
	mustBeBytes(t, manySupplies(3), []byte{
		2, 0, 0, 0, 0, 3,
		1, 0, 0, 0, 0, 0, 0, 0, 0, 0, 1,
		2, 0, 1, 0, 0, 0, 0, 0, 0, 0, 2,
		3, 0, 2, 0, 0, 0, 0, 0, 0, 0, 3,
	})
}

// What follows: what is encoded is decoded as the same, and encoded again has
// the same bytes.
func TestWhatIsEncodedIsDecoded(t *testing.T) {
	for _, c := range someConfigs() {
		first, e := order.Encode(c)
		again, f := order.Encode(c)
		if e != 0 || f != 0 || !bytes.Equal(first, again) {
			t.Error(first, again, e, f)
		}
		got, e := order.Decode(first)
		if e != 0 || !order.Equal(got, c) {
			t.Error(c, got, e)
		}
		if own, e := order.Encode(got); e != 0 || !bytes.Equal(own, first) {
			t.Error(first, own, e)
		}
		mustHave(t, got, dueUnits(c))
	}
}

// Other configs have other bytes.
func TestEachNumberIsInTheBytes(t *testing.T) {
	c := sample()
	first, _ := order.Encode(c)
	for k, n := range numbers(&c) {
		v := n.get() + 1
		if v > n.most {
			v = n.get() - 1
		}
		other, e := order.Encode(with(sample, int64(k), v))
		if e != 0 || len(other) != len(first) || bytes.Equal(other, first) {
			t.Error(k, other, e)
		}
	}
}
