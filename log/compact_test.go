package log_test

import (
	"testing"

	"recoup/api"
	"recoup/disk"
	"recoup/log"
)

// mustNotCreate fails the test, if a Create answers another error, or a log, or
// changes anything.
func mustNotCreate(t *testing.T, what string, d *disk.Disk, image string, due api.Errno) {
	t.Helper()
	was := watch(d)
	l, e := log.Create(d, []byte(image))
	must(t, what, e, due)
	if l != nil {
		t.Fatalf("%s: a log beside an error", what)
	}
	mustBeAsItWas(t, what, d, was)
}

func TestCreateByHand(t *testing.T) {
	for _, image := range []string{"", "i", "image", "\xa5\x00", somehow(5000), somehow(api.MaxFrame - 5), somehow(api.MaxFrame - 4)} {
		d := made(t, 100000)
		l, e := log.Create(d, []byte(image))
		must(t, "Create", e, api.OK)
		mustTell(t, "Create", l, looks(1, image))
		mustHave(t, "Create", d, "-", due(1, image))
		mustTell(t, "Open", opened(t, d), looks(1, image))
	}
	d := made(t, 100)
	if l, e := log.Create(d, nil); e != api.OK || see(l) != looks(1, "") {
		t.Error(e)
	}
}

func TestCreateOnFilesThatDoNotCount(t *testing.T) {
	for why, s := range heads() {
		d := made(t, 100, "zero", s, s, s, "four")
		l, e := log.Create(d, []byte("image"))
		must(t, why, e, api.OK)
		mustTell(t, why, l, looks(1, "image"))
		mustHave(t, why, d, "zero", due(1, "image"), "-", "-", "four")
	}
	d := made(t, 100, "-", "-", "-", due(9, "left", "record"))
	l, e := log.Create(d, []byte("image"))
	must(t, "Create", e, api.OK)
	mustTell(t, "Create", l, looks(1, "image"))
	mustHave(t, "Create", d, "-", due(1, "image"))
}

func TestCreateWhereAFileCounts(t *testing.T) {
	good, torn := due(1, "image", "record"), due(2, "image")+"torn"
	for _, image := range []string{"", "image", somehow(200), somehow(api.MaxFrame)} {
		mustNotCreate(t, "1", made(t, 100, "-", good), image, api.ErrState)
		mustNotCreate(t, "2", made(t, 100, "-", "-", good), image, api.ErrState)
		mustNotCreate(t, "both", made(t, 0, "-", good, torn), image, api.ErrState)
		mustNotCreate(t, "beside another", made(t, 0, "-", "other", torn), image, api.ErrState)
		mustNotCreate(t, "no more", made(t, 0, "-", due(1<<32-1, "")), image, api.ErrState)
	}
}

func TestCreateOfNoneOrALostDisk(t *testing.T) {
	for _, image := range []string{"", "image", somehow(200), somehow(api.MaxFrame)} {
		if l, e := log.Create(nil, []byte(image)); l != nil || e != api.ErrArg {
			t.Error(l, e)
		}
		for _, d := range []*disk.Disk{made(t, 100), made(t, 0), made(t, 100, "-", due(1, "image"))} {
			lose(t, d)
			mustNotCreate(t, "lost", d, image, api.ErrLost)
		}
	}
}

func TestCreateOfTooManyBytes(t *testing.T) {
	for _, n := range []int{api.MaxFrame - 3, api.MaxFrame, api.MaxFrame + 1, 65531, 65532, 65533, 65536, 65536 + 100, 200000} {
		mustNotCreate(t, "room", made(t, 500000, "-", "-", "x", "y"), somehow(n), api.ErrLong)
		mustNotCreate(t, "no room", made(t, 0), somehow(n), api.ErrLong)
	}
}

func TestCreateWithoutRoom(t *testing.T) {
	for _, n := range []int{0, 1, 50, api.MaxFrame - 4} {
		image := somehow(n)
		size := len(due(1, image))
		for _, less := range []int{1, 2, size} {
			mustNotCreate(t, "less room", made(t, size-less), image, api.ErrFull)
			mustNotCreate(t, "with other files", made(t, size-less, "zero", "one", "two", "-", "four"), image, api.ErrFull)
			mustNotCreate(t, "with a file 3", made(t, size-less-min(size-less, 5), "-", "-", "-", somehow(min(size-less, 5))), image, api.ErrFull)
		}
		for room := range 3 {
			d := made(t, size-room, "zero", "one", "two", "three"[:room])
			_, e := log.Create(d, []byte(image))
			must(t, "Create", e, api.OK)
			mustHave(t, "Create", d, "zero", due(1, image))
		}
	}
}

func TestCompactByHand(t *testing.T) {
	d := made(t, 500, "zero", "-", "-", "-", "four")
	l, e := log.Create(d, []byte("first"))
	must(t, "Create", e, api.OK)
	for n := 2; n < 9; n++ {
		must(t, "Append", l.Append([]byte("record")), api.OK)
		image := somehow(n)
		must(t, "Compact", l.Compact([]byte(image)), api.OK)
		mustTell(t, "Compact", l, looks(n, image))
		files := []string{"zero", "-", "-", "-", "four"}
		files[2-n%2] = due(uint32(n), image)
		mustHave(t, "Compact", d, files...)
		mustTell(t, "Open", opened(t, d), looks(n, image))
	}
}

func TestAppendBehindACompact(t *testing.T) {
	d := made(t, 500, "-", due(4, "image", "a"))
	l := opened(t, d)
	must(t, "Compact", l.Compact(nil), api.OK)
	must(t, "Append", l.Append([]byte("b")), api.OK)
	must(t, "Append", l.Append([]byte("c")), api.OK)
	mustTell(t, "Append", l, looks(5, "", "b", "c"))
	mustHave(t, "Append", d, "-", "-", due(5, "", "b", "c"))
}

func TestCompactRemovesWhatIsLeft(t *testing.T) {
	older, newer := due(4, "older", "x"), due(5, "newer", "a")
	for _, left := range []string{"-", "", "left", due(99, "left"), somehow(5000)} {
		d := made(t, 100, "zero", older, newer, left, "four")
		l := opened(t, d)
		must(t, "Compact", l.Compact([]byte("image")), api.OK)
		mustTell(t, "Compact", l, looks(6, "image"))
		mustHave(t, "Compact", d, "zero", due(6, "image"), "-", "-", "four")
		d = made(t, 100, "zero", newer, "other", left, "four")
		l = opened(t, d)
		must(t, "Compact", l.Compact([]byte("image")), api.OK)
		mustTell(t, "Compact", l, looks(6, "image"))
		mustHave(t, "Compact", d, "zero", "-", due(6, "image"), "-", "four")
	}
}

func TestCompactWithAFile3ThatIsNotSafe(t *testing.T) {
	// What it has counts as room, be it safe or not.
	size := len(due(2, "new"))
	for room := range size + 1 {
		d := made(t, size, "-", due(1, "image"))
		must(t, "Append", d.Append(3, []byte(somehow(size-room))), api.OK)
		l := opened(t, d)
		must(t, "Compact", l.Compact([]byte("new")), api.OK)
		mustHave(t, "Compact", d, "-", "-", due(2, "new"))
	}
}

func TestCompactIsSoManyChanges(t *testing.T) {
	for _, c := range []struct {
		changes int
		files   []string
	}{
		{4, []string{"-", due(1, "image")}},
		{4, []string{"-", "-", due(1, "image")}},
		{4, []string{"-", due(1, "image"), "other"}},
		{5, []string{"-", due(1, "image"), "-", ""}},
		{5, []string{"-", due(1, "image"), due(2, "image"), "left"}},
	} {
		d := made(t, 100, c.files...)
		l := opened(t, d)
		must(t, "Fuse", d.Fuse(c.changes), api.OK)
		must(t, "Compact", l.Compact(nil), api.OK)
		if n := fuse(d); n != 0 {
			t.Errorf("%q: %d changes go, due is none", c.files, n)
		}
	}
}

// mustNotCompact fails the test, if a Compact of what stands in these files
// answers another error, or changes anything.
func mustNotCompact(t *testing.T, what string, room, size int, due api.Errno, files ...string) {
	t.Helper()
	d := made(t, room, files...)
	l, was := opened(t, d), watch(d)
	before := see(l)
	must(t, "Fuse", d.Fuse(0), api.OK)
	must(t, what, l.Compact([]byte(somehow(size))), due)
	mustTell(t, what, l, before)
	mustBeAsItWas(t, what, d, was)
}

func TestCompactOfTooManyBytes(t *testing.T) {
	for _, n := range []int{api.MaxFrame - 3, api.MaxFrame, api.MaxFrame + 1, 65531, 65532, 65533, 65536, 65536 + 100, 200000} {
		mustNotCompact(t, "room", 500000, n, api.ErrLong, "-", due(1, "image", "a"), "-", "left")
		mustNotCompact(t, "no room", 0, n, api.ErrLong, "-", due(1, "image", "a"))
		mustNotCompact(t, "no generation", 0, n, api.ErrLong, "-", due(1<<31, "image", "a"))
		mustNotCompact(t, "the last of all", 0, n, api.ErrLong, "-", due(1<<32-1, "image", "a"))
	}
	d := made(t, 100000, "-", due(1, "image"))
	l, image := opened(t, d), somehow(api.MaxFrame-4)
	must(t, "Compact", l.Compact([]byte(image)), api.OK)
	mustTell(t, "Compact", l, looks(2, image))
	mustHave(t, "Compact", d, "-", "-", due(2, image))
}

func TestCompactWithoutRoom(t *testing.T) {
	for _, n := range []int{0, 1, 50, api.MaxFrame - 4} {
		image := somehow(n)
		size := len(due(2, image))
		for _, less := range []int{1, 2, size} {
			mustNotCompact(t, "less", size-less, n, api.ErrFull, "-", due(1, "image", "a"))
			mustNotCompact(t, "less in 2", size-less, n, api.ErrFull, "-", "-", due(1, "image", "a"))
			mustNotCompact(t, "beside an older one", size-less, n, api.ErrFull, "-", due(2, "older"), due(3, "image", "a"))
			mustNotCompact(t, "beside an empty 3", size-less, n, api.ErrFull, "-", due(1, "image"), "-", "")
			part := min(size-less, 5)
			mustNotCompact(t, "with a file 3", size-less-part, n, api.ErrFull, "-", due(1, "image"), "-", somehow(part))
		}
	}
}

func TestCompactWithJustTheRoom(t *testing.T) {
	image := somehow(20)
	size := len(due(6, image))
	for room := range size + 1 {
		d := made(t, room, "zero", due(4, "older"), due(5, "image", "a"), somehow(size-room), "four")
		l := opened(t, d)
		must(t, "Compact", l.Compact([]byte(image)), api.OK)
		mustTell(t, "Compact", l, looks(6, image))
		mustHave(t, "Compact", d, "zero", due(6, image), "-", "-", "four")
	}
	d := made(t, size, "zero", due(5, "image", "a"))
	must(t, "Compact", opened(t, d).Compact([]byte(image)), api.OK)
	mustHave(t, "Compact", d, "zero", "-", due(6, image))
}

func TestCompactOfGreatGenerations(t *testing.T) {
	for _, g := range []uint32{1 << 31, 1<<31 + 1, 1<<32 - 2, 1<<32 - 1} {
		mustNotCompact(t, "1", 1000, 5, api.ErrFull, "-", due(g, "image", "a"), "-", "left")
		mustNotCompact(t, "2", 1000, 5, api.ErrFull, "-", "other", due(g, "image", "a"))
		d := made(t, 100, "-", due(g, "image"))
		l := opened(t, d)
		must(t, "Append", l.Append([]byte("a")), api.OK)
		mustTell(t, "Append", l, looks(int(g), "image", "a"))
	}
	for _, g := range []uint32{1, 254, 255, 256, 65535, 1<<31 - 2, 1<<31 - 1} {
		d := made(t, 100, "-", due(g, "image", "a"))
		l := opened(t, d)
		must(t, "Compact", l.Compact([]byte("new")), api.OK)
		mustTell(t, "Compact", l, looks(int(g)+1, "new"))
		mustHave(t, "Compact", d, "-", "-", due(g+1, "new"))
	}
}

func TestCompactOfALostDisk(t *testing.T) {
	for _, left := range []string{"-", "left"} {
		d := made(t, 100, "-", due(1, "image", "a"), "-", left)
		l := opened(t, d)
		lose(t, d)
		was := watch(d)
		must(t, "too many", l.Compact(make([]byte, api.MaxFrame-3)), api.ErrLong)
		must(t, "no room", l.Compact(make([]byte, 100)), api.ErrFull)
		mustTell(t, "Compact", l, looks(1, "image", "a"))
		must(t, "room", l.Compact([]byte("new")), api.ErrLost)
		mustTell(t, "Compact", l, looks(1, "image", "a").ended())
		mustBeAsItWas(t, "Compact", d, was)
	}
	d := made(t, 100, "-", due(1<<31, "image"))
	l := opened(t, d)
	lose(t, d)
	must(t, "the generation", l.Compact(nil), api.ErrFull)
	mustTell(t, "the generation", l, looks(1<<31, "image"))
}
