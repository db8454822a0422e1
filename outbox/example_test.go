package outbox_test

import (
	"fmt"

	"recoup/outbox"
)

// The README shows this way of use.
func Example() {
	o := outbox.New()
	label := o.Put(outbox.Label, 1, 0, 10)
	pay := o.Put(outbox.Pay, 1, 990, 10)
	fmt.Println(label)
	fmt.Println(pay)
	before := o.Clone()

	fmt.Println(o.Again(10))
	fmt.Println(o.Again(11))
	fmt.Println(o.Heard(pay.Key))
	fmt.Println(o.Heard(pay.Key))
	for _, day := range []int{13, 17, 25} {
		o.Again(day)
	}
	fmt.Println(o.Again(33))
	fmt.Println(o.NextKey(), o.Waits(1), len(o.All()))
	fmt.Println(before.NextKey(), before.Waits(1), before.Drop(1, outbox.Label))

	same, e := outbox.Load(before.NextKey(), before.All())
	fmt.Println(same.All(), e == 0)
	// Output:
	// {1 1 1 0 1 11}
	// {2 2 1 990 1 11}
	// [] []
	// [{1 1 1 0 2 13} {2 2 1 990 2 13}] []
	// {2 2 1 990 2 13} true
	// {0 0 0 0 0 0} false
	// [] [{1 1 1 0 5 33}]
	// 3 0 0
	// 3 1 1
	// [{2 2 1 990 1 11}] true
}
