package command_test

import (
	"bytes"
	"reflect"
	"slices"
	"sync"
	"testing"

	"recoup/command"
)

// roomy is a command whose units have spare room behind them: if it were read,
// the command would be another one.
func roomy(c command.Command) command.Command {
	c.Units = append(slices.Clone(c.Units), 1, 2, 3)[:len(c.Units)]
	return c
}

// whole is a command with its spare room, as new memory.
func whole(c command.Command) command.Command {
	c.Units = slices.Clone(c.Units[:cap(c.Units)])
	return c
}

// fill overwrites a command's units and their spare room.
func fill(c command.Command) {
	l := c.Units[:cap(c.Units)]
	for k := range l {
		l[k] = -77
	}
}

func roomyBytes(b []byte) []byte {
	return append(bytes.Clone(b), 1, 0, 1)[:len(b)]
}

// fillBytes overwrites bytes and their spare room.
func fillBytes(b []byte, with byte) {
	b = b[:cap(b)]
	for k := range b {
		b[k] = with
	}
}

func TestACommandIsLeftAsItIs(t *testing.T) {
	for _, plain := range append(someCommands(), wrongCommands()...) {
		c := roomy(plain)
		before := whole(c)
		command.Formed(c)
		b, _ := command.Encode(c)
		fillBytes(b, 200)
		command.Equal(c, plain)
		command.Equal(plain, c)
		if !dueEqual(whole(c), before) {
			t.Error(before, "is now", whole(c))
		}
	}
}

func TestBytesAreLeftAsTheyAre(t *testing.T) {
	for _, c := range someCommands() {
		for _, b := range [][]byte{dueBytes(c), dueBytes(c)[1:], append(dueBytes(c), 9)} {
			own := roomyBytes(b)
			before := bytes.Clone(own[:cap(own)])
			got, _ := command.Decode(own)
			fill(got)
			if !bytes.Equal(own[:cap(own)], before) {
				t.Error(before, "are now", own[:cap(own)])
			}
		}
	}
}

func TestSpareRoomIsNotRead(t *testing.T) {
	for _, c := range append(someCommands(), wrongCommands()...) {
		mustBeDue(t, roomy(c))
		mustEqual(t, roomy(c), c, true)
	}
	for _, c := range someCommands() {
		b := dueBytes(c)
		mustDecode(t, roomyBytes(b), c)
		for n := range b {
			mustNotDecode(t, b[:n])
		}
	}
}

func TestEncodedBytesAreNewMemory(t *testing.T) {
	for _, c := range someCommands() {
		own := roomy(c)
		first, _ := command.Encode(own)
		second, _ := command.Encode(own)
		fillBytes(second, 200)
		fill(own)
		if !bytes.Equal(first, dueBytes(c)) {
			t.Error(c, first)
		}
	}
}

func TestADecodedCommandIsNewMemory(t *testing.T) {
	for _, c := range someCommands() {
		b := dueBytes(c)
		first, _ := command.Decode(b)
		second, _ := command.Decode(b)
		fill(second)
		fillBytes(b, 200)
		if !dueEqual(first, c) {
			t.Error(first, "was", c)
		}
	}
}

// All of a command is asked and compared: it has no field that these tests don't
// know.
func TestACommandHasTheseFields(t *testing.T) {
	var c command.Command
	if of := reflect.TypeFor[command.Command](); of.NumField() != len(numbers(&c))+4 {
		t.Error(of.NumField())
	}
	if of := reflect.TypeFor[command.Answer](); of.NumField() != 2 {
		t.Error(of.NumField())
	}
}

// Nothing is kept from call to call: what was refused or told before doesn't
// matter, nor who else asks.
func TestAnswersHangOnTheArgumentsAlone(t *testing.T) {
	var all sync.WaitGroup
	formed, wrong := someCommands(), wrongCommands()
	for range 4 {
		all.Go(func() {
			for range 10 {
				for _, c := range formed {
					mustBeFormed(t, c)
					mustNotDecode(t, dueBytes(c)[1:])
					mustEqual(t, c, c, true)
				}
				for _, c := range wrong {
					mustBeWrong(t, c)
					mustTell(t, command.Answer{Err: 3, Value: int64(c.Kind)})
				}
			}
		})
	}
	all.Wait()
}
