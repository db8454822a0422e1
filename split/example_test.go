package split_test

import (
	"fmt"

	"recoup/split"
)

// The README shows this way of use.
func Example() {
	tax, _ := split.Shares(100, []int64{250, 250, 500})
	fmt.Println(tax)

	discount, _ := split.Shares(10, []int64{1, 2, 3})
	fmt.Println(discount)

	shipping, _ := split.Each(11, 4)
	fmt.Println(shipping)

	none, e := split.Shares(10, nil)
	fmt.Println(none, e)
	// Output:
	// [25 25 50]
	// [2 3 5]
	// [3 3 3 2]
	// [] recoup: error 1
}
