package command_test

import (
	"fmt"

	"recoup/api"
	"recoup/command"
)

// The README shows this way of use.
func Example() {
	c := command.Command{Kind: command.Request, Order: 2, Units: []int{3, 4}, Reason: 1, Want: 258, Credit: true}
	b, _ := command.Encode(c)
	again, _ := command.Decode(b)
	fmt.Println(b, command.Equal(c, again))

	days, _ := command.Encode(command.Command{Kind: command.Tick, Days: 3})
	fmt.Println(days)
	wrong := command.Command{Kind: command.Tick, Days: 3, RMA: 1}
	_, e := command.Encode(wrong)
	fmt.Println(command.Formed(wrong), e)
	_, e = command.Decode([]byte{7, 3})
	fmt.Println(e)

	told, _ := command.EncodeAnswer(command.Answer{Err: api.ErrStock})
	a, _ := command.DecodeAnswer(told)
	fmt.Println(told, a)
	// Output:
	// [1 2 2 3 4 1 2 1 1] true
	// [7 3 0]
	// false recoup: error 1
	// recoup: error 3
	// [14 0 0 0 0 0 0 0 0] {recoup: error 14 0}
}
