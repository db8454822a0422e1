package query_test

import (
	"fmt"

	"recoup/api"
	"recoup/command"
	"recoup/query"
	"recoup/saga"
)

// The README shows this way of use.
func Example() {
	c := api.Config{
		Table:    []api.Policy{{Window: 30, Grades: [4]api.Grade{{Share: 10000, To: 3}, {Share: 5000, To: 4}, {}, {}}}},
		Orders:   []api.Order{{Day: 0, Lines: []api.Line{{SKU: 1, Price: 990, Count: 2}}}},
		Supplies: []api.Supply{{SKU: 1, Price: 900, Count: 1}},
	}
	s, _ := saga.New(c)
	fmt.Println(query.May(s, 0, false), query.May(s, 2, false))

	_, said, _ := s.Take(command.Command{Kind: command.Request, Order: 0, Units: []int{0}})
	s.Take(command.Command{Kind: command.Reply, Key: said[0].Key, Yes: true})
	s.Take(command.Command{Kind: command.Pick, RMA: 1})
	s.Take(command.Command{Kind: command.Receive, RMA: 1})
	_, said, _ = s.Take(command.Command{Kind: command.Grade, RMA: 1, Unit: 0, Grade: 0})
	q, _ := query.Of(s, 1)
	u, _ := query.UnitOf(s, 0)
	fmt.Printf("%+v\n%+v\n", q, u)
	fmt.Println(query.Counts(s), query.Open(s))

	s.Take(command.Command{Kind: command.Reply, Key: said[0].Key, Yes: true})
	line, _ := query.Line(s, 1)
	fmt.Println(line)
	fmt.Println(len(query.Open(s)))

	_, e := query.Line(s, 2)
	fmt.Println(e)
	// Output:
	// recoup: error 0 recoup: error 13
	// {State:5 Worth:990 Paid:0 Credited:0 Given:0 Owed:990 Waits:1}
	// {Place:3 SKU:1 RMA:1 Share:990}
	// [1 0 0 2 0 0 0 0 0] [1]
	// return 1: closed worth 9.90 paid 9.90 credited 0.00 given 0.00
	// 0
	// recoup: error 7
}
