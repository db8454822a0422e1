package log_test

import (
	"testing"

	"recoup/api"
	"recoup/log"
)

// mustRefuse fails the test, if an Append answers another error, or changes
// anything.
func mustRefuse(t *testing.T, what string, l *log.Log, e, due api.Errno, was look) {
	t.Helper()
	must(t, what, e, due)
	mustTell(t, what, l, was)
}

func TestRecordsStandOneBehindTheOther(t *testing.T) {
	d := made(t, 30000, "zero", "-", due(6, "image"), "three")
	l := opened(t, d)
	var records []string
	for _, s := range []string{"a", "", "bc", "\x00", due(9, "inner", "x"), "a", somehow(api.MaxRecord - 1), somehow(api.MaxRecord), "z"} {
		if s == "" {
			continue
		}
		must(t, "Append", l.Append([]byte(s)), api.OK)
		records = append(records, s)
		mustTell(t, "Append", l, looks(6, "image", records...))
		mustHave(t, "Append", d, "zero", "-", due(6, "image", records...), "three")
		mustTell(t, "Open", opened(t, d), looks(6, "image", records...))
	}
}

func TestAppendBehindACreate(t *testing.T) {
	d := made(t, 100)
	l, e := log.Create(d, []byte("image"))
	must(t, "Create", e, api.OK)
	must(t, "Append", l.Append([]byte("ab")), api.OK)
	must(t, "Append", l.Append([]byte("c")), api.OK)
	mustTell(t, "Append", l, looks(1, "image", "ab", "c"))
	mustHave(t, "Append", d, "-", due(1, "image", "ab", "c"))
}

func TestAppendBehindACut(t *testing.T) {
	for why, tail := range tails() {
		d := made(t, 100, "-", due(1, "image", "a")+tail)
		l := opened(t, d)
		must(t, why, l.Append([]byte("b")), api.OK)
		mustHave(t, why, d, "-", due(1, "image", "a", "b"))
		mustTell(t, why, opened(t, d), looks(1, "image", "a", "b"))
	}
}

func TestAppendIsTwoChanges(t *testing.T) {
	d := made(t, 100, "-", due(1, "image"))
	l := opened(t, d)
	must(t, "Fuse", d.Fuse(2), api.OK)
	must(t, "Append", l.Append([]byte("a")), api.OK)
	if n := fuse(d); n != 0 {
		t.Errorf("%d changes go, due is none", n)
	}
}

func TestAppendOfNoneOrTooMany(t *testing.T) {
	d := made(t, api.MaxRecord*20, "-", due(1, "image", "a"))
	l, was := opened(t, d), watch(d)
	must(t, "Fuse", d.Fuse(0), api.OK)
	for _, b := range [][]byte{nil, {}, make([]byte, api.MaxRecord+1), make([]byte, api.MaxRecord+2), make([]byte, api.MaxFrame), make([]byte, api.MaxFrame+1), make([]byte, 65537), make([]byte, 65536+api.MaxRecord)} {
		mustRefuse(t, "Append", l, l.Append(b), api.ErrLong, looks(1, "image", "a"))
		mustBeAsItWas(t, "Append", d, was)
	}
}

func TestAppendWithoutRoom(t *testing.T) {
	for _, n := range []int{1, 2, 50, api.MaxRecord} {
		b := somehow(n)
		for _, less := range []int{1, 2, n, n + 6, n + 7} {
			d := made(t, n+7-less, "-", due(1, "image", "a"), "-", "three")
			l, was := opened(t, d), watch(d)
			must(t, "Fuse", d.Fuse(0), api.OK)
			mustRefuse(t, "Append", l, l.Append([]byte(b)), api.ErrFull, looks(1, "image", "a"))
			mustBeAsItWas(t, "Append", d, was)
		}
		d := made(t, n+7, "-", due(1, "image", "a"), "-", "three")
		must(t, "Append", opened(t, d).Append([]byte(b)), api.OK)
		mustHave(t, "Append", d, "-", due(1, "image", "a", b), "-", "three")
	}
}

func TestAFullDiskTakesAShorterRecord(t *testing.T) {
	d := made(t, 10, "-", due(1, "image"))
	l := opened(t, d)
	must(t, "Append", l.Append([]byte("four")), api.ErrFull)
	must(t, "Append", l.Append([]byte("abc")), api.OK)
	must(t, "Append", l.Append([]byte("a")), api.ErrFull)
	mustTell(t, "Append", l, looks(1, "image", "abc"))
	mustHave(t, "Append", d, "-", due(1, "image", "abc"))
}

func TestAppendOfALostDisk(t *testing.T) {
	d := made(t, 100, "-", due(1, "image", "a"))
	l := opened(t, d)
	lose(t, d)
	was := watch(d)
	mustRefuse(t, "none", l, l.Append(nil), api.ErrLong, looks(1, "image", "a"))
	mustRefuse(t, "too many", l, l.Append(make([]byte, api.MaxRecord+1)), api.ErrLong, looks(1, "image", "a"))
	mustRefuse(t, "no room", l, l.Append(make([]byte, 94)), api.ErrFull, looks(1, "image", "a"))
	mustRefuse(t, "room", l, l.Append(make([]byte, 93)), api.ErrLost, looks(1, "image", "a").ended())
	mustBeAsItWas(t, "Append", d, was)
}

func TestALogThatIsOverStaysSo(t *testing.T) {
	d := made(t, 100, "-", due(1, "image", "a"))
	l := opened(t, d)
	lose(t, d)
	must(t, "Append", l.Append([]byte("b")), api.ErrLost)
	d.Restart(keeping(0))
	was := watch(d)
	for _, b := range [][]byte{nil, []byte("b"), make([]byte, 94), make([]byte, api.MaxRecord+1)} {
		mustRefuse(t, "Append", l, l.Append(b), api.ErrLost, looks(1, "image", "a").ended())
	}
	for _, image := range [][]byte{nil, []byte("b"), make([]byte, 200), make([]byte, api.MaxFrame)} {
		mustRefuse(t, "Compact", l, l.Compact(image), api.ErrLost, looks(1, "image", "a").ended())
	}
	mustBeAsItWas(t, "over", d, was)
	mustTell(t, "another", opened(t, d), looks(1, "image", "a"))
}

func TestALostDiskThatTheLogWasNotAskedOf(t *testing.T) {
	d := made(t, 100, "-", due(1, "image", "a"))
	l := opened(t, d)
	lose(t, d)
	mustTell(t, "lost", l, looks(1, "image", "a"))
	d.Restart(keeping(0))
	must(t, "Append", l.Append([]byte("b")), api.OK)
	mustTell(t, "there again", l, looks(1, "image", "a", "b"))
}
