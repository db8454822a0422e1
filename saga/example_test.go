package saga_test

import (
	"fmt"

	"recoup/api"
	"recoup/command"
	"recoup/rma"
	"recoup/saga"
)

// The README shows this way of use.
func Example() {
	c := api.Config{
		Table: []api.Policy{{
			Window: 30,
			Fee:    [4]int{0, 1000, 0, 0},
			Grades: [4]api.Grade{{Share: 10000, To: 3}, {Share: 5000, To: 4}, {Share: 0, To: 5}, {}},
		}},
		Orders:   []api.Order{{Day: 0, Lines: []api.Line{{SKU: 1, Price: 1000, Count: 2}}}},
		Supplies: []api.Supply{{SKU: 1, Price: 900, Count: 1}},
	}
	s, _ := saga.New(c)
	number, said, _ := s.Take(command.Command{Kind: command.Request, Order: 0, Units: []int{0}, Want: 1})
	fmt.Println(number, said)

	for _, one := range []command.Command{
		{Kind: command.Reply, Key: said[0].Key, Yes: true},
		{Kind: command.Pick, RMA: 1},
		{Kind: command.Receive, RMA: 1},
	} {
		s.Take(one)
	}
	_, said, _ = s.Take(command.Command{Kind: command.Grade, RMA: 1, Unit: 0, Grade: 0})
	fmt.Println(said)

	before := s.Clone()
	s.Take(command.Command{Kind: command.Reply, Key: 2, Yes: true})
	s.Take(command.Command{Kind: command.Reply, Key: 3, Yes: true})
	r := s.RMAs()[0]
	fmt.Println(r.State == rma.Closed, r.Worth, r.Paid, r.Given, s.Ledger().Have, s.Stock().Place(2))
	_, _, e := s.Take(command.Command{Kind: command.Reply, Key: 3, Yes: true})
	fmt.Println(e == api.ErrOld)

	_, said, _ = before.Take(command.Command{Kind: command.Tick, Days: 1})
	fmt.Println(said)
	same, e := saga.Make(before.Parts())
	fmt.Println(same.Now(), e == api.OK)
	// Output:
	// 1 [{1 1 1 0 1 1}]
	// [{2 3 1 2 1 1} {3 2 1 100 1 1}]
	// true 1000 100 900 [-1000 0 100 0 900] 8
	// true
	// [{2 3 1 2 2 3} {3 2 1 100 2 3}]
	// 1 true
}
