// Package disk is layer 1: files that tear. See shared/doc/01-disk.md.
package disk

import (
	"bytes"

	"recoup/api"
)

// entry is what a disk has of one file; its first safe bytes outlast a loss
// of power.
type entry struct {
	there bool
	bytes []byte
	safe  int
}

// Disk is MaxFiles files, and the power that they are changed by.
type Disk struct {
	capacity int
	files    [api.MaxFiles]entry
	lit      bool
	fuse     int
	lost     bool
}

// New makes a disk without files.
func New(capacity int) (*Disk, api.Errno) {
	if capacity < 0 || capacity > api.MaxDisk {
		return nil, api.ErrArg
	}
	return &Disk{capacity: capacity}, api.OK
}

// Append puts b behind the file's bytes; of a file that isn't there, it makes
// it. If the power ends, half of b is there.
func (d *Disk) Append(file int, b []byte) api.Errno {
	if e := d.ready(file); e != api.OK {
		return e
	}
	if len(b) > d.Room() {
		return api.ErrFull
	}
	e := d.spend()
	if e != api.OK {
		b = b[:len(b)/2]
	}
	f := &d.files[file]
	f.there = true
	f.bytes = append(f.bytes, b...)
	return e
}

// Sync makes all the file's bytes safe.
func (d *Disk) Sync(file int) api.Errno {
	if e := d.present(file); e != api.OK {
		return e
	}
	if e := d.spend(); e != api.OK {
		return e
	}
	d.files[file].hold(len(d.files[file].bytes))
	return api.OK
}

// Cut leaves the file's first size bytes, all of them safe.
func (d *Disk) Cut(file, size int) api.Errno {
	if e := d.present(file); e != api.OK {
		return e
	}
	if size < 0 || size > d.Size(file) {
		return api.ErrArg
	}
	if e := d.spend(); e != api.OK {
		return e
	}
	d.files[file].hold(size)
	return api.OK
}

// Rename gives the file from, all safe, the number to, in place of what had
// that number.
func (d *Disk) Rename(from, to int) api.Errno {
	if e := d.ready(from, to); e != api.OK {
		return e
	}
	if !d.Has(from) {
		return api.ErrNone
	}
	if from == to || d.Safe(from) != d.Size(from) {
		return api.ErrArg
	}
	if e := d.spend(); e != api.OK {
		return e
	}
	d.files[to] = d.files[from]
	d.files[from] = entry{}
	return api.OK
}

// Remove takes the file away.
func (d *Disk) Remove(file int) api.Errno {
	if e := d.present(file); e != api.OK {
		return e
	}
	if e := d.spend(); e != api.OK {
		return e
	}
	d.files[file] = entry{}
	return api.OK
}

// Read tells the file's bytes.
func (d *Disk) Read(file int) ([]byte, api.Errno) {
	if e := d.present(file); e != api.OK {
		return nil, e
	}
	return bytes.Clone(d.files[file].bytes), api.OK
}

// Size tells how many bytes the file has.
func (d *Disk) Size(file int) int { return len(d.at(file).bytes) }

// Safe tells how many of the file's bytes are safe.
func (d *Disk) Safe(file int) int { return d.at(file).safe }

// Has tells whether the file is there.
func (d *Disk) Has(file int) bool { return d.at(file).there }

// Room tells how many more bytes the disk takes.
func (d *Disk) Room() int {
	if d == nil {
		return 0
	}
	room := d.capacity
	for _, f := range d.files {
		room -= len(f.bytes)
	}
	return room
}

// Fuse has the power end with the change behind n further ones.
func (d *Disk) Fuse(n int) api.Errno {
	if e := d.ready(); e != api.OK {
		return e
	}
	if n < 0 {
		return api.ErrArg
	}
	d.lit, d.fuse = true, n
	return api.OK
}

// Lost tells whether the power is gone.
func (d *Disk) Lost() bool { return d != nil && d.lost }

// Restart gives the power back; of each file's bytes that weren't safe as many
// are left as keep tells.
func (d *Disk) Restart(keep [8]int) {
	if d == nil {
		return
	}
	for i := range d.files {
		f := &d.files[i]
		// Bounded before it is added: a great Keep would wrap round.
		left := min(max(keep[i], 0), len(f.bytes)-f.safe)
		f.hold(f.safe + left)
	}
	d.lit, d.fuse, d.lost = false, 0, false
}

// Clone makes a disk like this one, that has no memory in common with it.
func (d *Disk) Clone() *Disk {
	if d == nil {
		return nil
	}
	c := *d
	for i := range c.files {
		c.files[i].bytes = bytes.Clone(c.files[i].bytes)
	}
	return &c
}

// hold leaves the first size bytes, all of them safe.
func (f *entry) hold(size int) {
	f.bytes = f.bytes[:size]
	f.safe = size
}

// at tells what the disk has of a file: nothing, if there is no such file.
func (d *Disk) at(file int) entry {
	if d == nil || !numbered(file) {
		return entry{}
	}
	return d.files[file]
}

// ready asks what every call asks first: whether the power is there, and the
// files' numbers are some.
func (d *Disk) ready(files ...int) api.Errno {
	if d == nil {
		return api.ErrArg
	}
	if d.lost {
		return api.ErrLost
	}
	for _, file := range files {
		if !numbered(file) {
			return api.ErrArg
		}
	}
	return api.OK
}

// present asks, beyond ready, whether the file is there.
func (d *Disk) present(file int) api.Errno {
	if e := d.ready(file); e != api.OK {
		return e
	}
	if !d.files[file].there {
		return api.ErrNone
	}
	return api.OK
}

// spend counts a change on the fuse; the one behind the last ends the power.
func (d *Disk) spend() api.Errno {
	if !d.lit {
		return api.OK
	}
	if d.fuse == 0 {
		d.lost = true
		return api.ErrLost
	}
	d.fuse--
	return api.OK
}

// numbered tells whether there is a file of that number.
func numbered(file int) bool { return file >= 0 && file < api.MaxFiles }
