package codec_test

import (
	"fmt"

	"recoup/codec"
)

// The README shows this way of use.
func Example() {
	var o codec.Out
	o.U16(258)
	o.Bytes([]byte("ab"))
	b, e := o.End()
	fmt.Println(b, int(e))

	i := codec.NewIn(b)
	fmt.Println(i.U16(), string(i.Bytes()), i.Done())
	fmt.Println(i.U8(), i.Bad())

	o.U8(256)
	b, e = o.End()
	fmt.Println(b, e)
	// Output:
	// [2 1 2 0 97 98] 0
	// 258 ab true
	// 0 true
	// [] recoup: error 2
}
