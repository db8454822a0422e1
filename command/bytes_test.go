package command_test

import (
	"bytes"
	"slices"
	"testing"

	"recoup/command"
)

// The bytes stand here one by one, as they are to be.
func TestBytesOfCommands(t *testing.T) {
	for _, c := range []struct {
		c command.Command
		b []byte
	}{
		{command.Command{Kind: command.Tick, Days: 3}, []byte{7, 3, 0}},
		{command.Command{Kind: command.Tick, Days: 65534}, []byte{7, 254, 255}},
		{command.Command{Kind: command.Tick}, []byte{7, 0, 0}},
		{command.Command{Kind: command.Request, Order: 9, Units: []int{3, 4}, Reason: 1, Want: 258, Credit: true}, []byte{1, 9, 2, 3, 4, 1, 2, 1, 1}},
		{command.Command{Kind: command.Request, Order: 19, Units: []int{199}, Reason: 3, Want: 1000}, []byte{1, 19, 1, 199, 3, 232, 3, 0}},
		{command.Command{Kind: command.Request, Units: []int{0}}, []byte{1, 0, 1, 0, 0, 0, 0, 0}},
		{command.Command{Kind: command.Request, Order: 255, Units: []int{9, 1, 255, 9}, Reason: 254, Want: 65535, Credit: true}, []byte{1, 255, 4, 9, 1, 255, 9, 254, 255, 255, 1}},
		{command.Command{Kind: command.Cancel, RMA: 258}, []byte{2, 2, 1}},
		{command.Command{Kind: command.Deny, RMA: 100}, []byte{3, 100, 0}},
		{command.Command{Kind: command.Pick, RMA: 65535}, []byte{4, 255, 255}},
		{command.Command{Kind: command.Receive, RMA: 256}, []byte{5, 0, 1}},
		{command.Command{Kind: command.Receive}, []byte{5, 0, 0}},
		{command.Command{Kind: command.Grade, RMA: 258, Unit: 3, Grade: 4}, []byte{6, 2, 1, 3, 4}},
		{command.Command{Kind: command.Grade, RMA: 1, Unit: 199, Grade: 255}, []byte{6, 1, 0, 199, 255}},
		{command.Command{Kind: command.Reply, Key: 67305985, Yes: true}, []byte{8, 1, 2, 3, 4, 1}},
		{command.Command{Kind: command.Reply, Key: 5}, []byte{8, 5, 0, 0, 0, 0}},
		{command.Command{Kind: command.Reply, Key: 1<<32 - 1, Yes: true}, []byte{8, 255, 255, 255, 255, 1}},
	} {
		mustBeFormed(t, c.c)
		if b, e := command.Encode(c.c); e != 0 || !bytes.Equal(b, c.b) {
			t.Errorf("of %v: %v, %d; want %v", c.c, b, e, c.b)
		}
		mustDecode(t, c.b, c.c)
	}
}

// What follows: what is encoded is decoded as the same, and what is decoded
// encoded.
func TestWhatIsEncodedIsDecoded(t *testing.T) {
	for _, c := range someCommands() {
		b, e := command.Encode(c)
		got, f := command.Decode(b)
		if e != 0 || f != 0 || !command.Equal(got, c) || !command.Formed(got) {
			t.Error(c, b, e, got, f)
		}
		if again, e := command.Encode(got); e != 0 || !bytes.Equal(again, b) {
			t.Error(b, again, e)
		}
	}
}

func TestBytesCutShort(t *testing.T) {
	for _, c := range someCommands() {
		b := dueBytes(c)
		for n := range b {
			mustNotDecode(t, b[:n])
			mustDecodeAsDue(t, b[n:])
		}
	}
	mustNotDecode(t, nil)
	mustNotDecode(t, []byte{})
}

func TestBytesBehind(t *testing.T) {
	for _, c := range someCommands() {
		for _, more := range []int{1, 2, 3, 8, 60, 300, 70000} {
			for _, v := range []byte{0, 1, 255} {
				mustNotDecode(t, append(dueBytes(c), bytes.Repeat([]byte{v}, more)...))
			}
		}
		mustNotDecode(t, append(dueBytes(c), dueBytes(c)...))
	}
}

// A first byte alone, or with any number of others behind it.
func TestBytesOfEachKind(t *testing.T) {
	for kind := range 256 {
		for n := range 80 {
			b := append([]byte{byte(kind)}, make([]byte, n)...)
			formed := mustDecodeAsDue(t, b)
			if want := kind >= 2 && kind <= 8 && n == []int{2, 2, 2, 2, 4, 2, 5}[kind-2]; formed != want {
				t.Error(kind, n, formed)
			}
			mustDecodeAsDue(t, append([]byte{byte(kind)}, bytes.Repeat([]byte{1}, n)...))
		}
	}
}

// Each byte, with each value it can have.
func TestEachByteIsRead(t *testing.T) {
	for _, c := range someCommands() {
		b := dueBytes(c)
		for at, was := range b {
			for v := range 256 {
				b[at] = byte(v)
				mustDecodeAsDue(t, b)
			}
			b[at] = was
		}
	}
}

// Each U16, with each value it can have.
func TestEachPairIsRead(t *testing.T) {
	for v := range 1 << 16 {
		low, high := byte(v), byte(v>>8)
		mustDecode(t, []byte{byte(2 + v%4), low, high}, command.Command{Kind: 2 + v%4, RMA: v})
		mustDecode(t, []byte{6, low, high, 1, 2}, command.Command{Kind: 6, RMA: v, Unit: 1, Grade: 2})
		mustDecode(t, []byte{7, low, high}, command.Command{Kind: 7, Days: v})
		mustDecode(t, []byte{8, low, high, low, high, 0}, command.Command{Kind: 8, Key: v + v<<16})
		mustDecode(t, []byte{1, 0, 1, 0, 0, low, high, 0}, command.Command{Kind: 1, Units: []int{0}, Want: v})
	}
}

func TestTheFlagsAreAsked(t *testing.T) {
	for _, c := range []command.Command{sample(1), sample(8), many(1), many(60), {Kind: 8}} {
		for v := range 256 {
			b := dueBytes(c)
			b[len(b)-1] = byte(v)
			want := c
			if c.Kind == 1 {
				want.Credit = v == 1
			} else {
				want.Yes = v == 1
			}
			if v < 2 {
				mustDecode(t, b, want)
			} else {
				mustNotDecode(t, b)
			}
		}
	}
}

// As many units are read as are told, 1 to 60 of them, however much there is.
func TestHowManyUnitsAreRead(t *testing.T) {
	for told := range 256 {
		for n := range 300 {
			b := append([]byte{1, 0, byte(told)}, make([]byte, n+4)...)
			if told == n && n >= 1 && n <= 60 {
				mustDecode(t, b, command.Command{Kind: 1, Units: make([]int, n)})
			} else {
				mustNotDecode(t, b)
			}
		}
	}
	mustNotDecode(t, []byte{1, 0, 0, 0, 0, 0, 0})
}

// Each two formed commands have the same bytes only if they are alike.
func TestUnlikeCommandsHaveOtherBytes(t *testing.T) {
	l := someCommands()
	for _, a := range l {
		for _, b := range l {
			own, _ := command.Encode(a)
			others, _ := command.Encode(b)
			if bytes.Equal(own, others) != slices.Equal(flat(a), flat(b)) {
				t.Error(a, b)
			}
		}
	}
}
