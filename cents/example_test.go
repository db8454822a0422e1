package cents_test

import (
	"fmt"

	"recoup/cents"
)

// The README shows this way of use.
func Example() {
	value, _ := cents.Times(333, 3)
	fee, _ := cents.Points(value, 1500)
	rest, _ := cents.Sub(value, fee)
	fmt.Println(value, fee, rest)

	half, _ := cents.Part(rest, 1, 2)
	fmt.Println(half)

	n, e := cents.Sum([]int64{1 << 50, 1, -1})
	fmt.Println(n, e)
	// Output:
	// 999 149 850
	// 425
	// 0 recoup: error 9
}
