package order_test

import (
	"fmt"

	"recoup/api"
	"recoup/order"
)

// The README shows this way of use.
func Example() {
	c := api.Config{
		Table: []api.Policy{{Window: 30}},
		Orders: []api.Order{{
			Day:      5,
			Lines:    []api.Line{{SKU: 1, Price: 1000, Count: 2}, {SKU: 2, Price: 500, Count: 1}},
			Discount: 100,
			Tax:      50,
		}},
		Supplies: []api.Supply{{SKU: 1, Price: 900, Count: 1}},
	}

	units, e := order.Units(c)
	for n, u := range units {
		fmt.Println(n, u.Order, u.SKU, u.Share)
	}
	fmt.Println(e == api.OK)

	b, _ := order.Encode(c)
	again, _ := order.Decode(b)
	fmt.Println(len(b), order.Equal(c, again))
	price, _ := order.Price(c, 1)
	_, e = order.Price(c, 2)
	fmt.Println(price, e)

	other := order.Clone(c)
	other.Orders[0].Discount = 2501
	_, e = order.Units(other)
	fmt.Println(order.Right(c), order.Right(other), e)
	// Output:
	// 0 0 1 980
	// 1 0 1 980
	// 2 0 2 490
	// 3 -1 1 900
	// true
	// 93 true
	// 900 recoup: error 7
	// true false recoup: error 1
}
