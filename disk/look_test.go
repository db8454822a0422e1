package disk_test

import (
	"math"
	"testing"

	"recoup/api"
	"recoup/disk"
)

// files is as many files as the document gives a disk, written out so that a
// limit that is changed is seen.
const files = 8

// look is all that can be seen of a disk; two that look alike are alike.
type look struct {
	has        [files]bool
	bytes      [files]string
	size, safe [files]int
	room, fuse int
	lost       bool
}

// see looks at a disk and leaves it as it is: what only a change would show is
// asked of a clone.
func see(t *testing.T, d *disk.Disk) look {
	t.Helper()
	l := look{room: d.Room(), lost: d.Lost(), fuse: fuse(d)}
	c := d.Clone()
	c.Restart(keepAll())
	for i := range files {
		l.has[i], l.size[i], l.safe[i] = d.Has(i), d.Size(i), d.Safe(i)
		b, e := c.Read(i)
		if (e == api.OK) != l.has[i] || e != api.OK && e != api.ErrNone {
			t.Fatalf("Read(%d): %v, Has: %v", i, e, l.has[i])
		}
		if len(b) != l.size[i] {
			t.Fatalf("Read(%d): %d bytes, Size: %d", i, len(b), l.size[i])
		}
		l.bytes[i] = string(b)
	}
	return l
}

// fuse tells how many further changes a disk's fuse lets go; -1: none is lit,
// or the power is gone.
func fuse(d *disk.Disk) int {
	if d.Lost() {
		return -1
	}
	c := d.Clone()
	for n := range 1000 {
		if c.Append(0, nil) != api.OK {
			return n
		}
	}
	return -1
}

// keepAll is a Keep of all bytes of each file.
func keepAll() [files]int {
	var keep [files]int
	for i := range keep {
		keep[i] = math.MaxInt
	}
	return keep
}

// made is a disk of some capacity.
func made(t *testing.T, capacity int) *disk.Disk {
	t.Helper()
	d, e := disk.New(capacity)
	if e != api.OK || d == nil {
		t.Fatalf("New(%d): %v, %v", capacity, d, e)
	}
	return d
}

// must fails the test at an error that isn't the one that is due.
func must(t *testing.T, what string, e, due api.Errno) {
	t.Helper()
	if e != due {
		t.Fatalf("%s: %v, due is %v", what, e, due)
	}
}

// put gives a disk a file of some bytes, the first safe ones of them safe.
func put(t *testing.T, d *disk.Disk, file int, text string, safe int) {
	t.Helper()
	must(t, "put", d.Append(file, []byte(text[:safe])), api.OK)
	must(t, "put", d.Sync(file), api.OK)
	must(t, "put", d.Append(file, []byte(text[safe:])), api.OK)
}

// sample is a disk of 40 bytes: 0 all safe, 1 in part, 2 not at all, 3 there
// and empty, 4 to 7 not there; 22 bytes of room.
func sample(t *testing.T) *disk.Disk {
	t.Helper()
	d := made(t, 40)
	put(t, d, 0, "zero", 4)
	put(t, d, 1, "onetwo", 3)
	put(t, d, 2, "torntorn", 0)
	put(t, d, 3, "", 0)
	return d
}
