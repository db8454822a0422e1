package timer_test

import (
	"fmt"

	"recoup/timer"
)

// The README shows this way of use.
func Example() {
	var t timer.Timers
	t.Set(5, 3)
	t.Set(7, 20)
	t.Set(7, 3)
	t.Set(2, 9)
	fmt.Println(t.Next())
	before := t.Clone()

	fmt.Println(t.Due(2))
	fmt.Println(t.Due(3))
	fmt.Println(t.Due(3))
	fmt.Println(t.Day(2))
	fmt.Println(t.Day(5))
	fmt.Println(t.Stop(2), t.Stop(2))
	fmt.Println(t.Len(), before.All())
	// Output:
	// 3 true
	// []
	// [5 7]
	// []
	// 9 true
	// 0 false
	// true false
	// 0 [{3 5} {3 7} {9 2}]
}
