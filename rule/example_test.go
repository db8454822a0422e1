package rule_test

import (
	"fmt"

	"recoup/api"
	"recoup/rule"
)

// The README shows this way of use.
func Example() {
	books := api.Policy{
		Window: 30,
		Fee:    [4]int{0, 1000, 1000, 0},
		Grades: [4]api.Grade{{Share: 10000, To: 3}, {Share: 5000, To: 4}, {Share: 0, To: 5}, {}},
	}
	fmt.Println(rule.May(books, 30, false) == api.OK)
	fmt.Println(rule.May(books, 31, false))

	value, _ := rule.Worth(books, 1000, 1, 1)
	place, _ := rule.To(books, 1)
	fee, _ := rule.Fee(books, 500, 1)
	fmt.Println(value, place, fee)

	books.Exchange = true
	fmt.Println(rule.May(books, 0, true) == api.OK, rule.May(books, 0, false))

	_, e := rule.Worth(books, 1000, 1, 4)
	fmt.Println(e)
	// Output:
	// true
	// recoup: error 11
	// 450 4 50
	// true recoup: error 12
	// recoup: error 1
}
