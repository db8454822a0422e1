package ledger_test

import (
	"fmt"

	"recoup/ledger"
)

// The README shows this way of use.
func Example() {
	var l ledger.Ledger
	l, _ = ledger.Post(l, 0, 1, 5)
	fmt.Println(l.Have)

	l, _ = ledger.Post(l, 1, 2, 3)
	fmt.Println(l.Have)
	fmt.Println(ledger.Balance(l, 1), ledger.Total(l))

	none, e := ledger.Post(l, 1, 1, 2)
	fmt.Println(none.Have, e)
	// Output:
	// [-5 5 0 0 0]
	// [-5 2 3 0 0]
	// 2 0
	// [0 0 0 0 0] recoup: error 1
}
