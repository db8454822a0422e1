package log_test

import (
	"slices"
	"testing"

	"recoup/api"
	"recoup/log"
)

// roomy is bytes with spare room behind them, and all of that memory.
func roomy(s string) (b, all []byte) {
	all = []byte(s + "spare room")
	return all[:len(s)], all
}

// fill overwrites a slice and its spare room.
func fill(b []byte) {
	b = b[:cap(b)]
	for k := range b {
		b[k] = 'X'
	}
}

func TestWhatIsHandedInIsLeftAsItIsAndNotKept(t *testing.T) {
	d := made(t, 500)
	b, all := roomy("image")
	l, e := log.Create(d, b)
	must(t, "Create", e, api.OK)
	mustBeSpared(t, all, "image")
	b, all = roomy("record")
	must(t, "Append", l.Append(b), api.OK)
	mustBeSpared(t, all, "record")
	mustTell(t, "Append", l, looks(1, "image", "record"))
	mustHave(t, "Append", d, "-", due(1, "image", "record"))
	b, all = roomy("new")
	must(t, "Compact", l.Compact(b), api.OK)
	mustBeSpared(t, all, "new")
	mustTell(t, "Compact", l, looks(2, "new"))
	mustHave(t, "Compact", d, "-", "-", due(2, "new"))
}

// mustBeSpared fails the test, if what was handed in has changed, and changes
// it then.
func mustBeSpared(t *testing.T, all []byte, s string) {
	t.Helper()
	if string(all) != s+"spare room" {
		t.Fatalf("%q is %q now", s, all)
	}
	fill(all)
}

func TestWhatIsRefusedIsLeftAsItIs(t *testing.T) {
	d := made(t, 20, "-", due(1, "image"))
	l := opened(t, d)
	for _, n := range []int{14, 30, api.MaxRecord + 1, api.MaxFrame} {
		b, all := roomy(somehow(n))
		l.Append(b)
		l.Compact(b)
		log.Create(d, b)
		mustBeSpared(t, all, somehow(n))
	}
	mustTell(t, "refused", l, looks(1, "image"))
}

func TestAnswersAreNewMemory(t *testing.T) {
	d := made(t, 500, "-", due(3, "image", "a", "bc", somehow(40)))
	l := opened(t, d)
	must(t, "Append", l.Append([]byte("last")), api.OK)
	want := looks(3, "image", "a", "bc", somehow(40), "last")
	var lists [][]byte
	for range 3 {
		lists = append(append(lists, l.Image()), l.Records()...)
		mustTell(t, "told", l, want)
	}
	mustBeApart(t, lists)
	mustTell(t, "overwritten", l, want)
	mustHave(t, "overwritten", d, "-", due(3, "image", "a", "bc", somehow(40), "last"))
	must(t, "Compact", l.Compact([]byte("new")), api.OK)
	fill(l.Image())
	mustTell(t, "overwritten", l, looks(4, "new"))
	must(t, "Append", l.Append([]byte("more")), api.OK)
	mustTell(t, "overwritten", l, looks(4, "new", "more"))
}

func TestTheListOfRecordsIsNewMemory(t *testing.T) {
	l := opened(t, made(t, 500, "-", due(1, "image", "a", "b", "c")))
	x, y := l.Records(), l.Records()
	for k := range x {
		x[k] = []byte("X")
	}
	x = append(x[:1], []byte("Y"), []byte("Z"))
	must(t, "Append", l.Append([]byte("d")), api.OK)
	if len(x) != 3 || len(y) != 3 || string(y[0])+string(y[1])+string(y[2]) != "abc" {
		t.Errorf("%q", y)
	}
	mustTell(t, "Append", l, looks(1, "image", "a", "b", "c", "d"))
}

// mustBeApart fails the test, if one of the lists shares memory with another,
// be it spare room.
func mustBeApart(t *testing.T, lists [][]byte) {
	t.Helper()
	for k, l := range lists {
		for v := range l {
			l[v] = byte(k + 1)
		}
	}
	for _, l := range lists {
		clear(l[len(l):cap(l)])
	}
	for k, l := range lists {
		if slices.ContainsFunc(l, func(v byte) bool { return v != byte(k+1) }) {
			t.Errorf("number %d shares memory with another", k)
		}
	}
}

func TestNoLog(t *testing.T) {
	var l *log.Log
	if see(l) != looks(0, "") {
		t.Errorf("%+v", see(l))
	}
	if l.Image() != nil || l.Records() != nil {
		t.Error("bytes of none")
	}
	for _, b := range [][]byte{nil, []byte("a"), make([]byte, api.MaxRecord+1), make([]byte, api.MaxFrame+1)} {
		must(t, "Append", l.Append(b), api.ErrArg)
		must(t, "Compact", l.Compact(b), api.ErrArg)
	}
}

func TestALogThatNobodyOpened(t *testing.T) {
	var l log.Log
	for _, b := range [][]byte{nil, []byte("a"), make([]byte, api.MaxRecord+1), make([]byte, api.MaxFrame+1)} {
		if l.Append(b) == api.OK || l.Compact(b) == api.OK {
			t.Error("it takes something")
		}
	}
	mustTell(t, "no disk", &l, looks(0, ""))
}
