package frame_test

import (
	"fmt"

	"recoup/frame"
)

// The README shows this way of use.
func Example() {
	one, _ := frame.Frame([]byte("one"))
	two, _ := frame.Frame([]byte("two"))
	file := append(append(one, two...), two[:9]...)

	for n, b := range frame.All(file) {
		fmt.Println(n, string(b))
	}
	fmt.Println(frame.Whole(file), len(file))

	b, n, e := frame.First(file[10:])
	fmt.Println(string(b), n, int(e))
	b, n, e = frame.First(file[20:])
	fmt.Println(string(b), n, e)
	// Output:
	// 10 one
	// 20 two
	// 20 29
	// two 10 0
	//  0 recoup: error 3
}
