package stock_test

import (
	"fmt"

	"recoup/stock"
)

// The README shows this way of use.
func Example() {
	s, _ := stock.New([]int{5, 5, 5}, []int{stock.Customer, stock.Sellable, stock.Sellable})
	s.Move(0, stock.OnItsWay)
	s.Move(0, stock.Dock)
	fmt.Println(s.Seen(0))
	s.Move(0, stock.Scrap)
	fmt.Println(s.Seen(0))
	fmt.Println(s.Move(0, stock.Sellable), s.Move(3, stock.Sellable))

	before := s.Clone()
	fmt.Println(s.Pick(5))
	fmt.Println(s.Pick(5))
	fmt.Println(s.Pick(5))
	fmt.Println(s.Count(stock.Reserved), before.Count(stock.Reserved))
	// Output:
	// true false
	// true true
	// recoup: error 8 recoup: error 7
	// 1 recoup: error 0
	// 2 recoup: error 0
	// 0 recoup: error 14
	// 2 0
}
