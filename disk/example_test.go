package disk_test

import (
	"fmt"

	"recoup/disk"
)

// The README shows this way of use.
func Example() {
	d, _ := disk.New(1000)
	d.Append(1, []byte("kept "))
	d.Sync(1)
	d.Fuse(0)
	fmt.Println(d.Append(1, []byte("torn")), d.Lost())
	d.Restart([8]int{1: 1})
	b, e := d.Read(1)
	fmt.Printf("%q %d\n", b, e)
	// Output:
	// recoup: error 6 true
	// "kept t" 0
}
