package log_test

import (
	"fmt"
	"testing"

	"recoup/api"
	"recoup/disk"
	"recoup/log"
)

// change is a call that changes a disk, the files it begins with, and what it
// is to do to them, told by another hand.
type change struct {
	name  string
	files []string
	// do asks the log that stands on the files; there is none ahead of a Create.
	do    func(*log.Log, *disk.Disk) api.Errno
	steps []step
	// was and is are what comes up ahead of it, and behind it; is holds once so
	// many steps went: nothing can take it back.
	was, is look
	holds   int
	// record is what an Append puts behind; its sync makes it safe, but it may
	// stay without.
	record string
}

// step is one change of a disk.
type step func(*disk.Disk) api.Errno

func put(file int, s string) step {
	return func(d *disk.Disk) api.Errno { return d.Append(file, []byte(s)) }
}

func sync(file int) step { return func(d *disk.Disk) api.Errno { return d.Sync(file) } }

func rename(from, to int) step { return func(d *disk.Disk) api.Errno { return d.Rename(from, to) } }

func remove(file int) step { return func(d *disk.Disk) api.Errno { return d.Remove(file) } }

// appends are Appends to a log in each of the files.
func appends() []change {
	var l []change
	for _, record := range []string{"b", "bcd", due(9, "inner", "x"), somehow(300)} {
		was, is := looks(4, "image", "a"), looks(4, "image", "a", record)
		do := func(l *log.Log, _ *disk.Disk) api.Errno { return l.Append([]byte(record)) }
		for file, files := range [][]string{
			1: {"zero", due(4, "image", "a"), "-", "left"},
			2: {"zero", due(3, "older", "b", "c"), due(4, "image", "a")},
		} {
			if file > 0 {
				steps := []step{put(file, framed(record)), sync(file)}
				l = append(l, change{"Append", files, do, steps, was, is, 2, record})
			}
		}
	}
	return l
}

// compacts are Compacts of a log in each of the files, with and without others
// that are left.
func compacts() []change {
	log4, fresh := due(4, "image", "a"), due(5, "new")
	was, is := looks(4, "image", "a"), looks(5, "new")
	do := func(l *log.Log, _ *disk.Disk) api.Errno { return l.Compact([]byte("new")) }
	into := func(to int) []step { return []step{put(3, fresh), sync(3), rename(3, to), remove(3 - to)} }
	left := func(to int) []step { return append([]step{remove(3)}, into(to)...) }
	return []change{
		{"Compact 1", []string{"zero", log4}, do, into(2), was, is, 3, ""},
		{"Compact 2", []string{"zero", "-", log4}, do, into(1), was, is, 3, ""},
		{"Compact beside an older", []string{"-", due(3, "older", "b"), log4}, do, into(1), was, is, 3, ""},
		{"Compact beside another", []string{"-", log4, "other"}, do, into(2), was, is, 3, ""},
		{"Compact, 3 left", []string{"-", log4, "-", due(5, "left")}, do, left(2), was, is, 4, ""},
		{"Compact, all left", []string{"-", due(4, "image", "a"), due(4, "same"), "left"}, do, left(2), was, is, 4, ""},
	}
}

// creates are Creates on disks with and without files that are left.
func creates() []change {
	fresh := due(1, "new")
	is := looks(1, "new")
	do := func(_ *log.Log, d *disk.Disk) api.Errno {
		l, e := log.Create(d, []byte("new"))
		if (l == nil) != (e != api.OK) {
			return api.ErrForm
		}
		return e
	}
	into := []step{put(3, fresh), sync(3), rename(3, 1)}
	return []change{
		{"Create", nil, do, into, look{}, is, 3, ""},
		{"Create on 1", []string{"zero", "other"}, do, into, look{}, is, 3, ""},
		{"Create beside 2", []string{"-", "-", due(0, "other")}, do, append(into[:3:3], remove(2)), look{}, is, 3, ""},
		{"Create, 3 left", []string{"-", "-", "-", due(7, "left")}, do, append([]step{remove(3)}, into...), look{}, is, 4, ""},
		{"Create, all left", []string{"zero", "", "2", ""}, do, append([]step{remove(3)}, append(into[:3:3], remove(2))...), look{}, is, 4, ""},
	}
}

// changes are all of them.
func changes() []change {
	return append(append(appends(), compacts()...), creates()...)
}

// begin makes the change's disk, and the log that stands on it, if there is
// one.
func (c change) begin(t *testing.T) (*log.Log, *disk.Disk) {
	t.Helper()
	d := made(t, 1000, c.files...)
	if c.was == (look{}) {
		return nil, d
	}
	return opened(t, d), d
}

// wouldDo is what the change's steps make of the disk, one by one, till one
// ends the power.
func (c change) wouldDo(d *disk.Disk) (state, api.Errno) {
	for _, s := range c.steps {
		if e := s(d); e != api.OK {
			return watch(d), e
		}
	}
	return watch(d), api.OK
}

func TestThePowerEndsAtEachStep(t *testing.T) {
	for _, c := range changes() {
		for n := range len(c.steps) + 1 {
			what := fmt.Sprintf("%s, a fuse of %d", c.name, n)
			l, d := c.begin(t)
			must(t, what, d.Fuse(n), api.OK)
			want, due := c.wouldDo(d.Clone())
			must(t, what, c.do(l, d), due)
			mustBeAsItWas(t, what, d, want)
			if l == nil {
				continue
			}
			tells := c.was
			if n >= c.holds {
				tells = c.is
			}
			if due != api.OK {
				tells = tells.ended()
			}
			mustTell(t, what, l, tells)
		}
	}
}

func TestALogTakesNothingOnceThePowerEnded(t *testing.T) {
	for _, c := range append(appends(), compacts()...) {
		for n := range c.steps {
			l, d := c.begin(t)
			must(t, c.name, d.Fuse(n), api.OK)
			must(t, c.name, c.do(l, d), api.ErrLost)
			d.Restart(keeping(n))
			was, tells := watch(d), see(l)
			must(t, c.name, l.Append([]byte("x")), api.ErrLost)
			must(t, c.name, l.Append(nil), api.ErrLost)
			must(t, c.name, l.Compact([]byte("x")), api.ErrLost)
			mustTell(t, c.name, l, tells)
			mustBeAsItWas(t, c.name, d, was)
		}
	}
}

// mustComeUp fails the test, if what comes up on d isn't what is due, or comes
// up otherwise when it is opened again, or takes nothing more.
func mustComeUp(t *testing.T, what string, d *disk.Disk, due look) {
	t.Helper()
	if due == (look{}) {
		mustNotOpen(t, what, d, api.ErrNone)
		_, e := log.Create(d, []byte("at last"))
		must(t, what, e, api.OK)
		mustTell(t, what, opened(t, d), looks(1, "at last"))
		return
	}
	mustTell(t, what, opened(t, d), due)
	once := watch(d)
	l := opened(t, d)
	mustTell(t, what+", twice opened", l, due)
	mustBeAsItWas(t, what+", twice opened", d, once)
	must(t, what, l.Append([]byte("more")), api.OK)
	if x := opened(t, d); x.Len() != due.len+1 || string(x.Records()[due.len]) != "more" {
		t.Fatalf("%s: %v", what, see(x))
	}
	must(t, what, l.Compact([]byte("at last")), api.OK)
	mustTell(t, what, opened(t, d), looks(due.generation+1, "at last"))
}

func TestWhatComesUpIsWhatWasTaken(t *testing.T) {
	for _, c := range changes() {
		for n := range len(c.steps) + 1 {
			for keep := range 340 {
				l, d := c.begin(t)
				must(t, c.name, d.Fuse(n), api.OK)
				if e := c.do(l, d); (e == api.OK) != (n == len(c.steps)) {
					t.Fatal(c.name, e)
				}
				d.Restart(keeping(keep))
				stays := c.record != "" && n == 1 && keep >= len(framed(c.record))
				due := c.was
				if n >= c.holds || stays {
					due = c.is
				}
				mustComeUp(t, fmt.Sprintf("%s, a fuse of %d, %d kept", c.name, n, keep), d, due)
			}
		}
	}
}

func TestThePowerEndsAgainWhileItIsOpened(t *testing.T) {
	for _, c := range appends() {
		for keep := 1; keep < 20; keep++ {
			l, d := c.begin(t)
			must(t, c.name, d.Fuse(0), api.OK)
			must(t, c.name, c.do(l, d), api.ErrLost)
			d.Restart(keeping(keep))
			was := watch(d)
			for range 3 {
				must(t, "Fuse", d.Fuse(0), api.OK)
				x, e := log.Open(d)
				must(t, "Open", e, api.ErrLost)
				if x != nil {
					t.Fatal("a log beside an error")
				}
				d.Restart(keeping(0))
				mustBeAsItWas(t, "Open", d, was)
			}
			mustComeUp(t, c.name, d, c.was)
		}
	}
}
