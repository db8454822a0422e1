package log_test

import (
	"fmt"

	"recoup/disk"
	"recoup/log"
)

// The README shows this way of use.
func Example() {
	d, _ := disk.New(1000)
	l, _ := log.Create(d, []byte("image"))
	l.Append([]byte("one"))
	l.Append([]byte("two"))

	d.Fuse(0)
	fmt.Println(l.Append([]byte("torn")), l.Over())

	d.Restart([8]int{1: 3})
	l, _ = log.Open(d)
	fmt.Printf("%s %q %d\n", l.Image(), l.Records(), l.Generation())

	l.Compact([]byte("image, one, two"))
	fmt.Printf("%s %q %d\n", l.Image(), l.Records(), l.Generation())
	// Output:
	// recoup: error 6 true
	// image ["one" "two"] 1
	// image, one, two [] 2
}
