package log_test

import (
	"fmt"
	"math/rand"
	"slices"
	"testing"

	"recoup/api"
	"recoup/disk"
	"recoup/log"
)

// walk is a log on a small disk, and what it is to tell, in plain words.
type walk struct {
	t          *testing.T
	r          *rand.Rand
	d          *disk.Disk
	l          *log.Log
	fuse       int
	generation int
	image      string
	records    []string
}

// begun is a walk on a disk that has a log.
func begun(t *testing.T, seed int64) *walk {
	r := rand.New(rand.NewSource(seed))
	d := made(t, 40+r.Intn(200))
	l, e := log.Create(d, []byte("first"))
	must(t, "Create", e, api.OK)
	return &walk{t, r, d, l, -1, 1, "first", nil}
}

// tells is what the log is to tell.
func (w *walk) tells() look { return looks(w.generation, w.image, w.records...) }

// text is some bytes; few, or as many as there is room for, or more than there
// may be.
func (w *walk) text(most int) string {
	switch w.r.Intn(12) {
	case 0:
		return ""
	case 1:
		return somehow(most + 1 + w.r.Intn(10))
	case 2, 3:
		return somehow(max(w.d.Room()-14+w.r.Intn(6), 0))
	}
	return somehow(w.r.Intn(30))
}

// room is which error is due where so many bytes are put into so much room by
// so many changes.
func (w *walk) room(size, room, changes int) api.Errno {
	switch {
	case size > room:
		return api.ErrFull
	case w.fuse >= 0 && w.fuse < changes:
		return api.ErrLost
	case w.fuse >= 0:
		w.fuse -= changes
	}
	return api.OK
}

// append asks for an Append, and tells which error is due.
func (w *walk) append() (e, due api.Errno, then func()) {
	s := w.text(api.MaxRecord)
	due = api.ErrLong
	if len(s) > 0 && len(s) <= api.MaxRecord {
		due = w.room(7+len(s), w.d.Room(), 2)
	}
	then = func() { w.records = append(w.records, s) }
	return w.l.Append([]byte(s)), due, then
}

// compact asks for a Compact, and tells which error is due.
func (w *walk) compact() (e, due api.Errno, then func()) {
	s := w.text(api.MaxFrame - 4)
	due = api.ErrLong
	if len(s) <= api.MaxFrame-4 {
		changes := 4
		if w.d.Has(3) {
			changes++
		}
		due = w.room(11+len(s), w.d.Room()+w.d.Size(3), changes)
	}
	then = func() { w.generation, w.image, w.records = w.generation+1, s, nil }
	return w.l.Compact([]byte(s)), due, then
}

// comeUp gives the power back, and opens the log: it has what it had, or that
// with what was on its way.
func (w *walk) comeUp(then func()) {
	var keep [api.MaxFiles]int
	for i := range keep {
		keep[i] = w.r.Intn(60) - 1
	}
	w.d.Restart(keep)
	w.l, w.fuse = opened(w.t, w.d), -1
	if see(w.l) == w.tells() {
		return
	}
	then()
	mustTell(w.t, "what came up", w.l, w.tells())
}

// step does something, and holds the log against what it is to tell.
func (w *walk) step() {
	ask := w.append
	switch w.r.Intn(10) {
	case 0, 1, 2:
		ask = w.compact
	case 3:
		w.fuse = w.r.Intn(12)
		must(w.t, "Fuse", w.d.Fuse(w.fuse), api.OK)
	case 4:
		w.l = opened(w.t, w.d)
	}
	e, due, then := ask()
	must(w.t, "asked", e, due)
	switch e {
	case api.OK:
		then()
	case api.ErrLost:
		if !w.l.Over() {
			w.t.Fatal("a log that lost its disk isn't over")
		}
		w.comeUp(then)
	}
	mustTell(w.t, "asked", w.l, w.tells())
	c := w.d.Clone()
	mustTell(w.t, "opened", opened(w.t, c), w.tells())
	c.Restart(keeping(0))
	mustTell(w.t, "opened, had the power gone", opened(w.t, c), w.tells())
}

func TestWalks(t *testing.T) {
	for seed := range int64(200) {
		t.Run(fmt.Sprint(seed), func(t *testing.T) {
			w := begun(t, seed)
			for range 150 {
				w.step()
			}
		})
	}
}

// TestAnyBytesAreOpenedAlike: whatever bytes the files have, what is opened is
// the same when it is opened again, and is what stands in one of them.
func TestAnyBytesAreOpenedAlike(t *testing.T) {
	for seed := range int64(2000) {
		r := rand.New(rand.NewSource(seed))
		files := []string{"-", anyBytes(r), anyBytes(r), anyBytes(r)}
		d := made(t, 50, files...)
		x, e := log.Open(d)
		if e == api.ErrNone {
			mustHave(t, "none", d, files...)
			continue
		}
		must(t, "Open", e, api.OK)
		var records []string
		for _, b := range x.Records() {
			records = append(records, string(b))
		}
		s := due(uint32(x.Generation()), string(x.Image()), records...)
		now := watch(d)
		if !slices.Contains(now.text[1:3], s) || now.text[3] != files[3] {
			t.Fatalf("seed %d: %q of %q", seed, s, files)
		}
		mustTell(t, "again", opened(t, d), see(x))
		mustBeAsItWas(t, "again", d, now)
	}
}

// anyBytes are a log's, often damaged.
func anyBytes(r *rand.Rand) string {
	var records []string
	for range r.Intn(4) {
		records = append(records, somehow(1+r.Intn(20)))
	}
	b := []byte(due(uint32(r.Intn(3)), somehow(r.Intn(9)), records...))
	for range r.Intn(3) {
		b[r.Intn(len(b))] ^= byte(r.Intn(4))
	}
	return string(b[:len(b)-r.Intn(2)*r.Intn(len(b))])
}
