package log_test

import (
	"testing"

	"recoup/api"
	"recoup/disk"
	"recoup/log"
)

// mustNotOpen fails the test, if d opens, or with another error, or anything is
// changed.
func mustNotOpen(t *testing.T, what string, d *disk.Disk, due api.Errno) {
	t.Helper()
	was, burning := watch(d), fuse(d)
	l, e := log.Open(d)
	must(t, what, e, due)
	if l != nil || fuse(d) != burning {
		t.Fatalf("%s: a log beside an error, or a change", what)
	}
	mustBeAsItWas(t, what, d, was)
}

func TestOpenOfNoDisk(t *testing.T) {
	if l, e := log.Open(nil); l != nil || e != api.ErrArg {
		t.Error(l, e)
	}
}

func TestOpenOfALostDisk(t *testing.T) {
	for _, d := range []*disk.Disk{
		made(t, 0),
		made(t, 100),
		made(t, 100, "-", due(1, "image", "record")),
		made(t, 100, "-", due(1, "image")+"torn", due(2, "image")),
	} {
		lose(t, d)
		was := watch(d)
		l, e := log.Open(d)
		must(t, "Open", e, api.ErrLost)
		if l != nil {
			t.Error("a log beside an error")
		}
		mustBeAsItWas(t, "Open", d, was)
	}
}

func TestOpenWhereNoFileCounts(t *testing.T) {
	mustNotOpen(t, "no files", made(t, 10), api.ErrNone)
	mustNotOpen(t, "no room", made(t, 0), api.ErrNone)
	good := due(1, "image", "record")
	mustNotOpen(t, "other files", made(t, 10, good, "-", "-", good, good, good, good, good), api.ErrNone)
	for why, s := range heads() {
		mustNotOpen(t, why+" in file 1", made(t, 10, "-", s), api.ErrNone)
		mustNotOpen(t, why+" in file 2", made(t, 10, "-", "-", s), api.ErrNone)
		mustNotOpen(t, why+" in both", made(t, 10, good, s, s, good), api.ErrNone)
	}
}

func TestWhichFileCounts(t *testing.T) {
	for _, c := range []struct {
		first, second string
		generation    int
		image         string
	}{
		{due(1, "a"), "-", 1, "a"},
		{"-", due(1, "b"), 1, "b"},
		{due(1, "a"), due(1, "b"), 1, "a"},
		{due(1, "a"), due(2, "b"), 2, "b"},
		{due(2, "a"), due(1, "b"), 2, "a"},
		{due(7, "a"), due(7, "b", "record"), 7, "a"},
		{due(255, "a"), due(256, "b"), 256, "b"},
		{due(256, "a"), due(255, "b"), 256, "a"},
		{due(0x01000000, "a"), due(0x00ffffff, "b"), 0x01000000, "a"},
		{due(1<<31-1, "a"), due(1<<31, "b"), 1 << 31, "b"},
		{due(1<<32-1, "a"), due(1, "b"), 1<<32 - 1, "a"},
		{due(1, "a"), due(1<<32-1, "b"), 1<<32 - 1, "b"},
		{due(0, "a"), due(1, "b"), 1, "b"},
		{due(1, "a"), due(0, "b"), 1, "a"},
		{due(3, ""), due(2, "b"), 3, ""},
		{framed("\x09\x09\x09"), due(1, "b"), 1, "b"},
		{due(1, "a"), framed("\x09\x09\x09"), 1, "a"},
	} {
		d := made(t, 10, "-", c.first, c.second)
		want := looks(c.generation, c.image)
		mustTell(t, c.first+" and "+c.second, opened(t, d), want)
		mustHave(t, "Open", d, "-", c.first, c.second)
	}
}

func TestAFileThatCountsBesideOneThatDoesNot(t *testing.T) {
	good := due(1, "image", "record")
	for why, s := range heads() {
		mustTell(t, why+" in file 1", opened(t, made(t, 0, good, s, good, good)), looks(1, "image", "record"))
		mustTell(t, why+" in file 2", opened(t, made(t, 0, good, good, s, good)), looks(1, "image", "record"))
	}
}

func TestTheRecordsAreThoseOfTheFileThatCounts(t *testing.T) {
	older, newer := due(8, "older", "a", "b", "c"), due(9, "newer", "d", "e")
	mustTell(t, "1", opened(t, made(t, 0, "-", newer, older)), looks(9, "newer", "d", "e"))
	mustTell(t, "2", opened(t, made(t, 0, "-", older, newer)), looks(9, "newer", "d", "e"))
	mustTell(t, "torn", opened(t, made(t, 0, "-", older+"torn", newer)), looks(9, "newer", "d", "e"))
}

func TestAnyFrameBehindIsARecord(t *testing.T) {
	records := []string{"\x00", "\xa5", "abc", due(5, "inner", "x"), framed("inner")[:8], somehow(api.MaxRecord), somehow(api.MaxRecord + 1), somehow(api.MaxFrame)}
	d := made(t, 0, "-", due(4, "image", records...))
	mustTell(t, "Open", opened(t, d), looks(4, "image", records...))
	image := somehow(api.MaxFrame - 4)
	mustTell(t, "a great image", opened(t, made(t, 0, "-", due(4, image, "a"))), looks(4, image, "a"))
}

func TestOpenCutsWhatIsBehindTheLastFrame(t *testing.T) {
	for why, tail := range tails() {
		for _, records := range [][]string{nil, {"a"}, {"a", "bc", somehow(300)}} {
			good, other := due(3, "image", records...), due(2, "older", "x")+"y"
			d := made(t, 5, "zero", other, good+tail, "three")
			mustTell(t, why, opened(t, d), looks(3, "image", records...))
			mustHave(t, why, d, "zero", other, good, "three")
			mustTell(t, why+", again", opened(t, d), looks(3, "image", records...))
		}
	}
}

func TestOpenCutsWhatIsNotSafe(t *testing.T) {
	good := due(1, "image", "record")
	d := made(t, 50, "-", good)
	must(t, "Append", d.Append(1, []byte("torn")), api.OK)
	mustTell(t, "Open", opened(t, d), looks(1, "image", "record"))
	mustHave(t, "Open", d, "-", good)
}

func TestOpenChangesOnlyWhatIsTorn(t *testing.T) {
	good := due(1, "image", "record")
	d := made(t, 50, "-", good)
	must(t, "Fuse", d.Fuse(0), api.OK)
	mustTell(t, "Open", opened(t, d), looks(1, "image", "record"))
	d = made(t, 50, "-", good+"torn", "-", "three")
	must(t, "Fuse", d.Fuse(1), api.OK)
	mustTell(t, "Open", opened(t, d), looks(1, "image", "record"))
	if n := fuse(d); n != 0 {
		t.Errorf("%d changes go, due is none", n)
	}
}

func TestOpenWhereTheCutEndsThePower(t *testing.T) {
	d := made(t, 50, "-", due(1, "image", "record")+"torn")
	was := watch(d)
	must(t, "Fuse", d.Fuse(0), api.OK)
	l, e := log.Open(d)
	must(t, "Open", e, api.ErrLost)
	if l != nil || !d.Lost() {
		t.Error("a log beside an error, or the power is there")
	}
	d.Restart(keeping(0))
	mustBeAsItWas(t, "Restart", d, was)
	mustTell(t, "Open", opened(t, d), looks(1, "image", "record"))
}

func TestTwoOpenedAreApart(t *testing.T) {
	d := made(t, 100, "-", due(1, "image", "record"))
	x, y := opened(t, d), opened(t, d.Clone())
	must(t, "Append", x.Append([]byte("more")), api.OK)
	mustTell(t, "x", x, looks(1, "image", "record", "more"))
	mustTell(t, "y", y, looks(1, "image", "record"))
}
