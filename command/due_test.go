package command_test

import (
	"bytes"
	"encoding/binary"
	"slices"
	"testing"

	"recoup/command"
)

// dueFormed tells by another hand whether a command is formed.
func dueFormed(c command.Command) bool {
	for _, n := range numbers(&c) {
		if v := *n.of; v < 0 || v > n.most || v != 0 && !n.isNeeded(c.Kind) {
			return false
		}
	}
	for _, unit := range c.Units {
		if unit < 0 || unit > 255 {
			return false
		}
	}
	if c.Credit && c.Kind != 1 || c.Yes && c.Kind != 8 {
		return false
	}
	if c.Kind == 1 {
		return len(c.Units) > 0 && len(c.Units) < 61
	}
	return c.Kind > 1 && c.Kind < 9 && len(c.Units) == 0
}

// flat is all that a command has, as one list of numbers.
func flat(c command.Command) []int {
	l := []int{c.Kind}
	for _, n := range numbers(&c) {
		l = append(l, *n.of)
	}
	return append(append(l, flag(c.Credit), flag(c.Yes)), c.Units...)
}

func flag(v bool) int {
	if v {
		return 1
	}
	return 0
}

func dueEqual(a, b command.Command) bool { return slices.Equal(flat(a), flat(b)) }

// isNone tells whether a command is a zero one.
func isNone(c command.Command) bool { return dueEqual(c, command.Command{}) }

// dueBytes are a formed command's bytes.
func dueBytes(c command.Command) []byte {
	b := []byte{byte(c.Kind)}
	u16, u32 := binary.LittleEndian.AppendUint16, binary.LittleEndian.AppendUint32
	switch {
	case c.Kind == 1:
		b = append(b, byte(c.Order), byte(len(c.Units)))
		for _, unit := range c.Units {
			b = append(b, byte(unit))
		}
		b = append(u16(append(b, byte(c.Reason)), uint16(c.Want)), byte(flag(c.Credit)))
	case c.Kind < 6:
		b = u16(b, uint16(c.RMA))
	case c.Kind == 6:
		b = append(u16(b, uint16(c.RMA)), byte(c.Unit), byte(c.Grade))
	case c.Kind == 7:
		b = u16(b, uint16(c.Days))
	case c.Kind == 8:
		b = append(u32(b, uint32(c.Key)), byte(flag(c.Yes)))
	}
	return b
}

// dueDecode is the command whose bytes these are, all of them.
func dueDecode(b []byte) (c command.Command, ok bool) {
	if len(b) < 3 {
		return c, false
	}
	kind, rest := int(b[0]), b[1:]
	pair := int(rest[0]) + int(rest[1])<<8
	switch {
	case kind == 1:
		return dueDecodeRequest(b)
	case kind >= 2 && kind <= 5 && len(rest) == 2:
		return command.Command{Kind: kind, RMA: pair}, true
	case kind == 6 && len(rest) == 4:
		return command.Command{Kind: kind, RMA: pair, Unit: int(rest[2]), Grade: int(rest[3])}, true
	case kind == 7 && len(rest) == 2:
		return command.Command{Kind: kind, Days: pair}, true
	case kind == 8 && len(rest) == 5 && rest[4] <= 1:
		return command.Command{Kind: kind, Key: pair + int(rest[2])<<16 + int(rest[3])<<24, Yes: rest[4] == 1}, true
	}
	return c, false
}

func dueDecodeRequest(b []byte) (c command.Command, ok bool) {
	n := int(b[2])
	if n == 0 || n > 60 || len(b) != 7+n || b[6+n] > 1 {
		return c, false
	}
	c = command.Command{Kind: 1, Order: int(b[1]), Reason: int(b[3+n]), Want: int(b[4+n]) + int(b[5+n])<<8, Credit: b[6+n] == 1}
	for _, unit := range b[3 : 3+n] {
		c.Units = append(c.Units, int(unit))
	}
	return c, true
}

// mustBeFormed checks all that holds of a formed command: it is one, has these
// bytes, and they have it.
func mustBeFormed(t *testing.T, c command.Command) {
	t.Helper()
	if !command.Formed(c) {
		t.Errorf("%v isn't formed", c)
	}
	want := dueBytes(c)
	if b, e := command.Encode(c); e != 0 || !bytes.Equal(b, want) {
		t.Errorf("of %v: %v, %d; want %v", c, b, e, want)
	}
	mustDecode(t, want, c)
}

// mustBeWrong checks that a command isn't formed.
func mustBeWrong(t *testing.T, c command.Command) {
	t.Helper()
	if command.Formed(c) {
		t.Errorf("%v is formed", c)
	}
	if b, e := command.Encode(c); e != 1 || len(b) != 0 {
		t.Errorf("of %v: %v, %d", c, b, e)
	}
}

// mustBeDue checks a command, be it formed or not.
func mustBeDue(t *testing.T, c command.Command) (formed bool) {
	t.Helper()
	if formed = dueFormed(c); formed {
		mustBeFormed(t, c)
	} else {
		mustBeWrong(t, c)
	}
	return formed
}

// mustDecode checks that bytes are a formed command's.
func mustDecode(t *testing.T, b []byte, want command.Command) {
	t.Helper()
	if got, e := command.Decode(b); e != 0 || !dueEqual(got, want) {
		t.Errorf("of %v: %v, %d; want %v", b, got, e, want)
	}
}

// mustNotDecode checks that bytes are no formed command's.
func mustNotDecode(t *testing.T, b []byte) {
	t.Helper()
	if got, e := command.Decode(b); e != 3 || !isNone(got) {
		t.Errorf("of %v: %v, %d", b, got, e)
	}
}

// mustDecodeAsDue checks bytes, whatever they are.
func mustDecodeAsDue(t *testing.T, b []byte) (formed bool) {
	t.Helper()
	want, formed := dueDecode(b)
	if formed {
		mustDecode(t, b, want)
	} else {
		mustNotDecode(t, b)
	}
	return formed
}

// mustEqual checks it both ways round.
func mustEqual(t *testing.T, a, b command.Command, want bool) {
	t.Helper()
	if command.Equal(a, b) != want || command.Equal(b, a) != want {
		t.Error(a, b, !want)
	}
}
