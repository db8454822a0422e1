package table_test

import (
	"fmt"

	"recoup/api"
	"recoup/table"
)

// The README shows this way of use.
func Example() {
	books := api.Policy{
		Window: 30,
		Fee:    [4]int{0, 1000, 1000, 0},
		Grades: [4]api.Grade{{Share: 10000, To: 3}, {Share: 5000, To: 4}, {Share: 0, To: 5}, {}},
	}
	food := api.Policy{Final: true}
	l := []api.Policy{books, food}

	b, e := table.Encode(l)
	fmt.Println(len(b), e == api.OK)
	again, _ := table.Decode(b)
	fmt.Println(table.Equal(l, again))
	p, _ := table.Of(again, 1)
	fmt.Println(p.Final)

	_, e = table.Of(l, 2)
	fmt.Println(e)
	food.Window = 1001
	fmt.Println(table.Right([]api.Policy{food}))
	// Output:
	// 48 true
	// true
	// true
	// recoup: error 10
	// false
}
