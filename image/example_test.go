package image_test

import (
	"fmt"

	"recoup/api"
	"recoup/command"
	"recoup/image"
	"recoup/saga"
)

// The README shows this way of use.
func Example() {
	c := api.Config{
		Table:    []api.Policy{{Window: 30}},
		Orders:   []api.Order{{Day: 0, Lines: []api.Line{{SKU: 1, Price: 1000, Count: 2}}}},
		Supplies: []api.Supply{{SKU: 1, Price: 900, Count: 1}},
	}
	s, _ := saga.New(c)
	s.Take(command.Command{Kind: command.Request, Order: 0, Units: []int{0}, Want: 1})

	b, _ := image.Encode(s)
	same, _ := image.Decode(b)
	fmt.Println(len(b), image.Equal(s, same), same.RMAs()[0].Reserved)

	_, said, _ := same.Take(command.Command{Kind: command.Tick, Days: 1})
	fmt.Println(said, image.Equal(s, same))
	s.Take(command.Command{Kind: command.Tick, Days: 1})
	fmt.Println(image.Equal(s, same))

	_, e := image.Decode(b[1:])
	fmt.Println(e)
	_, e = image.Encode(nil)
	fmt.Println(e)
	// Output:
	// 212 true 2
	// [{1 1 1 0 2 3}] false
	// true
	// recoup: error 3
	// recoup: error 1
}
