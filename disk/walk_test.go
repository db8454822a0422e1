package disk_test

import (
	"math/rand"
	"strings"
	"testing"

	"recoup/api"
	"recoup/disk"
)

// plain is a disk told in the document's words, one by one: of each file what
// is safe, and what isn't yet.
type plain struct {
	capacity int
	there    [files]bool
	safe     [files]string
	loose    [files]string
	fuse     int
	lost     bool
}

func (p *plain) look() look {
	l := look{room: p.capacity, fuse: p.fuse, lost: p.lost, has: p.there}
	if p.lost {
		l.fuse = -1
	}
	for i := range files {
		l.bytes[i] = p.safe[i] + p.loose[i]
		l.size[i], l.safe[i] = len(l.bytes[i]), len(p.safe[i])
		l.room -= l.size[i]
	}
	return l
}

func wrong(file int) bool { return file < 0 || file > 7 }

// burn counts a change, and tells whether it goes.
func (p *plain) burn() bool {
	if p.fuse > 0 {
		p.fuse--
	} else if p.fuse == 0 {
		p.lost = true
	}
	return !p.lost
}

func (p *plain) append(file int, b string) api.Errno {
	switch {
	case p.lost:
		return api.ErrLost
	case wrong(file):
		return api.ErrArg
	case len(b) > p.look().room:
		return api.ErrFull
	}
	p.there[file] = true
	if !p.burn() {
		p.loose[file] += b[:len(b)/2]
		return api.ErrLost
	}
	p.loose[file] += b
	return api.OK
}

func (p *plain) cut(file, size int, sync bool) api.Errno {
	switch {
	case p.lost:
		return api.ErrLost
	case wrong(file):
		return api.ErrArg
	case !p.there[file]:
		return api.ErrNone
	}
	all := p.safe[file] + p.loose[file]
	if sync {
		size = len(all)
	}
	if size < 0 || size > len(all) {
		return api.ErrArg
	}
	if !p.burn() {
		return api.ErrLost
	}
	p.safe[file], p.loose[file] = all[:size], ""
	return api.OK
}

func (p *plain) rename(from, to int) api.Errno {
	switch {
	case p.lost:
		return api.ErrLost
	case wrong(from), wrong(to):
		return api.ErrArg
	case !p.there[from]:
		return api.ErrNone
	case from == to, p.loose[from] != "":
		return api.ErrArg
	case !p.burn():
		return api.ErrLost
	}
	p.there[to], p.safe[to], p.loose[to] = true, p.safe[from], ""
	p.there[from], p.safe[from] = false, ""
	return api.OK
}

func (p *plain) remove(file int) api.Errno {
	switch {
	case p.lost:
		return api.ErrLost
	case wrong(file):
		return api.ErrArg
	case !p.there[file]:
		return api.ErrNone
	case !p.burn():
		return api.ErrLost
	}
	p.there[file], p.safe[file], p.loose[file] = false, "", ""
	return api.OK
}

func (p *plain) light(n int) api.Errno {
	switch {
	case p.lost:
		return api.ErrLost
	case n < 0:
		return api.ErrArg
	}
	p.fuse = n
	return api.OK
}

func (p *plain) restart(keep [files]int) {
	for i, k := range keep {
		k = max(k, 0)
		k = min(k, len(p.loose[i]))
		p.safe[i], p.loose[i] = p.safe[i]+p.loose[i][:k], ""
	}
	p.fuse, p.lost = -1, false
}

// step does the same to both, and answers both errors.
func step(r *rand.Rand, d *disk.Disk, p *plain) (api.Errno, api.Errno) {
	file, n := r.Intn(10)-1, r.Intn(14)-1
	if r.Intn(3) > 0 {
		file = r.Intn(3)
	}
	switch r.Intn(16) {
	case 0, 1, 2, 3, 4:
		b := strings.Repeat(string(rune('a'+r.Intn(26))), n+1)
		return d.Append(file, []byte(b)), p.append(file, b)
	case 5, 6, 7:
		return d.Sync(file), p.cut(file, 0, true)
	case 8, 9:
		return d.Cut(file, n), p.cut(file, n, false)
	case 10, 11:
		return d.Rename(file, n), p.rename(file, n)
	case 12:
		return d.Remove(file), p.remove(file)
	case 13:
		return d.Fuse(n), p.light(n)
	}
	var keep [files]int
	for i := range keep {
		keep[i] = r.Intn(8) - 1
	}
	d.Restart(keep)
	p.restart(keep)
	return api.OK, api.OK
}

func TestWalksGoAsThePlainDisk(t *testing.T) {
	for seed := range int64(60) {
		r := rand.New(rand.NewSource(seed))
		capacity := r.Intn(60)
		d, p := made(t, capacity), &plain{capacity: capacity, fuse: -1}
		for n := range 200 {
			e, due := step(r, d, p)
			if e != due {
				t.Fatalf("walk %d, step %d: %v, due is %v", seed, n, e, due)
			}
			if l := see(t, d); l != p.look() {
				t.Fatalf("walk %d, step %d: %+v, due is %+v", seed, n, l, p.look())
			}
			if r.Intn(4) == 0 {
				d = d.Clone()
			}
		}
	}
}
