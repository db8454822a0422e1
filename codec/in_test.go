package codec_test

import (
	"fmt"
	"math"
	"strings"
	"testing"

	"recoup/codec"
)

func TestEachIsReadFromItsBytes(t *testing.T) {
	for _, it := range goodItems() {
		i := codec.NewIn([]byte(it.due))
		mustHave(t, it.name+" ahead", i, len(it.due))
		if v := it.read(i); v != it.value {
			t.Errorf("%s: %v", it.name, v)
		}
		mustHave(t, it.name, i, 0)
	}
}

func TestNothingMoreIsRead(t *testing.T) {
	for _, it := range goodItems() {
		i := codec.NewIn([]byte(it.due + "rest"))
		if v := it.read(i); v != it.value {
			t.Errorf("%s: %v", it.name, v)
		}
		mustHave(t, it.name, i, 4)
		if s := string(i.Plain(4)); s != "rest" {
			t.Errorf("%s: then %q", it.name, s)
		}
	}
}

func TestInOfNoBytes(t *testing.T) {
	for _, b := range [][]byte{nil, {}} {
		i := codec.NewIn(b)
		mustHave(t, "none", i, 0)
		if s := i.Plain(0); len(s) != 0 {
			t.Error(s)
		}
		mustHave(t, "none of none", i, 0)
		if v := i.U8(); v != 0 {
			t.Error(v)
		}
		mustBeBad(t, "one of none", i)
	}
}

// mustGoBad reads b by a call, and fails the test if that isn't bad, and
// nothing and noughts what is read from then on.
func mustGoBad(t *testing.T, what, b string, read func(i *codec.In) any, nought any) {
	t.Helper()
	for _, r := range readings() {
		i := codec.NewIn([]byte(b))
		if v := read(i); v != nought {
			t.Fatalf("%s: %v", what, v)
		}
		mustBeBad(t, what, i)
		for range 2 {
			if v := r.read(i); v != r.nought {
				t.Fatalf("%s, then %s: %v", what, r.name, v)
			}
			mustBeBad(t, what+", then "+r.name, i)
		}
	}
}

func TestFewerBytesAreBad(t *testing.T) {
	for _, it := range goodItems() {
		for _, n := range []int{0, 1, 2, 3, 4, 5, 6, 7, len(it.due) - 2, len(it.due) - 1} {
			if n < 0 || n >= len(it.due) {
				continue
			}
			mustGoBad(t, fmt.Sprintf("%s of %d bytes", it.name, n), it.due[:n], it.read, it.nought())
		}
	}
}

func TestOtherFlagsAreBad(t *testing.T) {
	for v := 2; v < 256; v++ {
		mustGoBad(t, fmt.Sprintf("Flag of %d", v), string([]byte{byte(v), 1, 0}), readFlag, false)
	}
}

func TestPlainAsksHowMany(t *testing.T) {
	for _, n := range []int{-1, -2, -4, math.MinInt, 5, 6, 260, 1 << 32, 1<<32 + 2, math.MaxInt} {
		read := func(i *codec.In) any { return string(i.Plain(n)) }
		mustGoBad(t, fmt.Sprintf("Plain(%d) of 4 bytes", n), "abcd", read, "")
	}
	for n := range 5 {
		i := codec.NewIn([]byte("abcd"))
		if s := string(i.Plain(n)); s != "abcd"[:n] {
			t.Errorf("Plain(%d): %q", n, s)
		}
		mustHave(t, "Plain", i, 4-n)
	}
}

func TestBytesAskHowMany(t *testing.T) {
	for _, b := range []string{"\x01\x00", "\x03\x00ab", "\x02\x01ab", "\x00\x01ab", "\xff\xff" + strings.Repeat("x", 65534)} {
		mustGoBad(t, fmt.Sprintf("Bytes of %d", len(b)), b, readBytes, "")
	}
}

func TestMostAsksTheNumber(t *testing.T) {
	for _, c := range []struct {
		bytes string
		n     int
	}{
		{"\x05\x00", 4}, {"\x01\x00", 0}, {"\x00\x01", 255}, {"\xff\xff", 65534}, {"\xff\xff", 255},
		{"\x00\x00", -1}, {"\x05\x00", -1}, {"\xff\xff", -1}, {"\x00\x00", math.MinInt}, {"\x05\x00", math.MinInt},
		{"\x05", 5}, {"", 0}, {"", 5},
	} {
		read := func(i *codec.In) any { return i.Most(c.n) }
		what := fmt.Sprintf("Most(%d) of % x", c.n, c.bytes)
		mustGoBad(t, what, c.bytes, read, 0)
	}
	i := codec.NewIn([]byte("\x05\x00\x02\x01rest"))
	if a, b := i.Most(5), i.Most(math.MaxInt); a != 5 || b != 258 {
		t.Error(a, b)
	}
	mustHave(t, "Most", i, 4)
}

func TestMostAboveIsBadThoughMoreIsLeft(t *testing.T) {
	read := func(i *codec.In) any { return i.Most(4) }
	mustGoBad(t, "Most(4)", "\x05\x00\x01\x00\x01\x00\x01\x00\x01\x00\x01\x00", read, 0)
}

func TestInsAreApart(t *testing.T) {
	b := []byte{1, 2, 3}
	x, y := codec.NewIn(b), codec.NewIn(b)
	if x.U8() != 1 || x.Plain(9) != nil || y.U8() != 1 || y.U8() != 2 {
		t.Error("not apart")
	}
	mustBeBad(t, "one", x)
	mustHave(t, "the other", y, 1)
}

func TestNilIn(t *testing.T) {
	var i *codec.In
	for _, r := range readings() {
		if v := r.read(i); v != r.nought {
			t.Errorf("%s: %v", r.name, v)
		}
		if i.Bad() || i.Done() || i.Left() != 0 {
			t.Errorf("behind %s: Bad %v, Done %v, Left %d", r.name, i.Bad(), i.Done(), i.Left())
		}
	}
}

func TestInThatWasNotMadeByNewInIsEmpty(t *testing.T) {
	for _, r := range readings() {
		var i codec.In
		mustHave(t, "zero", &i, 0)
		if v := r.read(&i); v != r.nought {
			t.Errorf("%s: %v", r.name, v)
		}
	}
}
