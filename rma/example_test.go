package rma_test

import (
	"fmt"

	"recoup/codec"
	"recoup/rma"
)

// The README shows this way of use.
func Example() {
	state, _ := rma.Next(rma.Open, rma.ByLabel)
	_, e := rma.Next(rma.Moving, rma.ByCancel)
	fmt.Println(state == rma.Labelled, e)

	r := rma.RMA{Number: 1, Reserved: -1, State: rma.Docked, Day: 5, Units: []int{3, 8}, Grades: []int{-1, -1}}
	fmt.Println(rma.Right(r), rma.Done(r), rma.Has(r, 8))

	one, _ := rma.Grade(r, 8, 0)
	both, _ := rma.Grade(one, 3, rma.LostGrade)
	fmt.Println(r.Grades, one.Grades, both.Grades, rma.Graded(both))
	_, e = rma.Grade(both, 3, 1)
	fmt.Println(e)
	_, e = rma.Grade(both, 4, 1)
	fmt.Println(e)

	var o codec.Out
	rma.Put(&o, both)
	b, _ := o.End()
	same := rma.Take(codec.NewIn(b))
	fmt.Println(len(b), rma.Equal(same, both))
	// Output:
	// true recoup: error 8
	// true false 1
	// [-1 -1] [-1 0] [4 0] true
	// recoup: error 8
	// recoup: error 7
	// 51 true
}
