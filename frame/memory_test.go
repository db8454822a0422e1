package frame_test

import (
	"slices"
	"testing"

	"recoup/frame"
)

// roomy is bytes with spare room behind them, and all of that memory: the room
// is full of a frame, so that who looks there finds one.
func roomy(s string) (b, all []byte) {
	all = []byte(s + due("spare room"))
	return all[:len(s)], all
}

// fill overwrites a slice and its spare room.
func fill(b []byte) {
	b = b[:cap(b)]
	for k := range b {
		b[k] = 'X'
	}
}

func TestWhatIsHandedInIsLeftAsItIs(t *testing.T) {
	for _, s := range []string{"", "abc", dues("a", "bc"), dues("a", "bc") + "\xa5\x01"} {
		b, all := roomy(s)
		before := string(all)
		frame.Sum(b)
		f, _ := frame.Frame(b)
		fill(f)
		frame.Whole(b)
		text, _, _ := frame.First(b)
		fill(text)
		for _, text := range frame.All(b) {
			fill(text)
		}
		if string(all) != before {
			t.Errorf("%q: now %q", before, all)
		}
	}
}

func TestSpareRoomIsNotRead(t *testing.T) {
	for _, s := range []string{"", due("a"), dues("a", "bc")} {
		b, _ := roomy(s)
		if n := frame.Whole(b); n != len(s) {
			t.Errorf("%q: %d", s, n)
		}
		if l := allOf(b); len(l) != 0 && l[len(l)-1].place != len(s) {
			t.Errorf("%q: %v", s, l)
		}
	}
	part := due("spare room")
	for cut := range len(part) {
		b := []byte(part)[:cut]
		if n := frame.Whole(b); n != 0 || len(allOf(b)) != 0 {
			t.Errorf("cut at %d: %d", cut, n)
		}
		if text, n, e := frame.First(b); len(text) != 0 || n != 0 || e == 0 {
			t.Errorf("cut at %d: %q, %d, %v", cut, text, n, e)
		}
	}
}

func TestFrameIsNewMemory(t *testing.T) {
	b, all := roomy("abc")
	x, _ := frame.Frame(b)
	y, _ := frame.Frame(b)
	fill(all)
	if string(x) != due("abc") {
		t.Errorf("kept: % x", x)
	}
	fill(x)
	if string(y) != due("abc") {
		t.Errorf("told twice: % x", y)
	}
}

func TestFirstIsNewMemory(t *testing.T) {
	b, all := roomy(dues("abc", "de"))
	x, _, _ := frame.First(b)
	y, _, _ := frame.First(b)
	fill(all)
	if string(x) != "abc" {
		t.Errorf("kept: %q", x)
	}
	fill(x)
	if string(y) != "abc" {
		t.Errorf("told twice: %q", y)
	}
}

func TestAllIsOfWhatWasHandedIn(t *testing.T) {
	texts := []string{"a", "bc", "def"}
	b, all := roomy(dues(texts...))
	seq := frame.All(b)
	fill(all)
	var got []told
	for n, text := range seq {
		got = append(got, told{n, string(text)})
	}
	if !slices.Equal(got, whatIsDue(texts...)) {
		t.Errorf("changed ahead of the range: %v", got)
	}
}

func TestAllIsOfWhatWasHandedInThoughItChangesMeanwhile(t *testing.T) {
	texts := []string{"a", "bc", "def"}
	b, all := roomy(dues(texts...))
	var got []told
	for n, text := range frame.All(b) {
		got = append(got, told{n, string(text)})
		fill(all)
	}
	if !slices.Equal(got, whatIsDue(texts...)) {
		t.Errorf("changed within the range: %v", got)
	}
}

func TestAllsBytesAreNewMemory(t *testing.T) {
	texts := []string{"a", "bc", somehow(500), "def"}
	seq := frame.All([]byte(dues(texts...)))
	var kept [][]byte
	for range 2 {
		var got []told
		for n, text := range seq {
			got = append(got, told{n, string(text)})
			kept = append(kept, text)
			fill(text)
		}
		if !slices.Equal(got, whatIsDue(texts...)) {
			t.Fatalf("overwritten ones are told: %v", got)
		}
	}
	mustBeApart(t, kept)
}

// mustBeApart fails the test, if one of the lists shares memory with another,
// be it spare room.
func mustBeApart(t *testing.T, lists [][]byte) {
	t.Helper()
	for k, l := range lists {
		for v := range l {
			l[v] = byte(k + 1)
		}
	}
	for _, l := range lists {
		clear(l[len(l):cap(l)])
	}
	for k, l := range lists {
		if slices.ContainsFunc(l, func(v byte) bool { return v != byte(k+1) }) {
			t.Errorf("number %d shares memory with another", k)
		}
	}
}
