package command_test

import (
	"bytes"
	"math/rand"
	"slices"
	"testing"

	"recoup/command"
)

// some is a formed command.
func some(r *rand.Rand) command.Command {
	c := command.Command{Kind: 1 + r.Intn(8)}
	for _, n := range numbers(&c) {
		if n.isNeeded(c.Kind) {
			*n.of = r.Intn(n.most+1) >> r.Intn(33)
		}
	}
	if c.Kind == 1 {
		for range 1 + r.Intn(60)>>r.Intn(6) {
			c.Units = append(c.Units, r.Intn(256))
		}
		c.Credit = r.Intn(2) == 0
	}
	c.Yes = c.Kind == 8 && r.Intn(2) == 0
	return c
}

// change changes something of a command, by little or to any other.
func change(r *rand.Rand, c *command.Command) {
	l := numbers(c)
	n := l[r.Intn(len(l))]
	for r.Intn(4) != 0 && !n.isNeeded(c.Kind) {
		n = l[r.Intn(len(l))]
	}
	switch r.Intn(12) {
	case 0:
		*n.of = beyond()[r.Intn(len(beyond()))]
	case 1:
		*n.of = n.most + r.Intn(2)
	case 2:
		*n.of = -r.Intn(2)
	case 3:
		c.Credit = !c.Credit
	case 4:
		c.Yes = !c.Yes
	case 5:
		c.Kind += r.Intn(3) - 1
	case 6:
		c.Units = c.Units[:r.Intn(len(c.Units)+1)]
	case 7:
		c.Units = append(c.Units, make([]int, r.Intn(3))...)
	case 8:
		if len(c.Units) != 0 {
			c.Units[r.Intn(len(c.Units))] += r.Intn(3)*200 - 200
		}
	default:
		*n.of += r.Intn(5) - 2
	}
}

func TestAnyCommandsAreFormed(t *testing.T) {
	r := rand.New(rand.NewSource(1))
	many := 0
	for range 10000 {
		c := some(r)
		mustBeFormed(t, c)
		many = max(many, len(c.Units))
	}
	if many != 60 {
		t.Error(many)
	}
}

func TestChangedCommandsAreDue(t *testing.T) {
	r := rand.New(rand.NewSource(2))
	formed := 0
	for range 20000 {
		c := some(r)
		for range 1 + r.Intn(2) {
			change(r, &c)
		}
		if mustBeDue(t, c) {
			formed++
		}
	}
	if formed < 5000 || formed > 15000 {
		t.Error(formed, "are formed")
	}
}

// A command's bytes, some of them changed, left out, or put in.
func TestChangedBytesAreDue(t *testing.T) {
	r := rand.New(rand.NewSource(3))
	formed := 0
	for range 20000 {
		b := dueBytes(some(r))
		at := r.Intn(len(b))
		switch r.Intn(10) {
		case 0:
			b = slices.Delete(b, at, min(at+1+r.Intn(5), len(b)))
		case 1:
			b = slices.Insert(b, at, make([]byte, 1+r.Intn(5))...)
		case 2:
			b[at] = byte(r.Intn(256))
		default:
			b[at] += byte(r.Intn(5) - 2)
		}
		if mustDecodeAsDue(t, b) {
			formed++
		}
	}
	if formed < 4000 || formed > 16000 {
		t.Error(formed, "are formed")
	}
}

func TestAnyBytesAreDue(t *testing.T) {
	r := rand.New(rand.NewSource(4))
	formed := 0
	for range 50000 {
		b := make([]byte, r.Intn(90)>>r.Intn(5))
		for k := range b {
			b[k] = byte(r.Intn(1 << r.Intn(9)))
		}
		if len(b) > 7 && r.Intn(2) == 0 {
			b[0], b[2] = 1, byte(len(b)-7)
		}
		if mustDecodeAsDue(t, b) {
			formed++
		}
	}
	if formed < 2000 || formed > 40000 {
		t.Error(formed, "are formed")
	}
}

// What is decoded of any bytes is encoded as the same.
func TestWhatIsDecodedIsEncoded(t *testing.T) {
	r := rand.New(rand.NewSource(5))
	for range 10000 {
		b := dueBytes(some(r))
		// Neither the kind, nor how many units, nor the flag.
		for k := 1; k < len(b)-1; k++ {
			if b[0] != 1 || k != 2 {
				b[k] = byte(r.Intn(256))
			}
		}
		c, e := command.Decode(b)
		if e != 0 {
			t.Fatal(b, e)
		}
		if own, e := command.Encode(c); e != 0 || !bytes.Equal(own, b) {
			t.Fatal(b, own, e)
		}
	}
}

func TestAnyCommandsAreAlikeAsDue(t *testing.T) {
	r := rand.New(rand.NewSource(6))
	alike := 0
	for range 10000 {
		a, b := some(r), some(r)
		mustEqual(t, a, b, dueEqual(a, b))
		b = a
		b.Units = slices.Clone(a.Units)
		if r.Intn(2) == 0 {
			change(r, &b)
		}
		mustEqual(t, a, b, dueEqual(a, b))
		if dueEqual(a, b) {
			alike++
		}
	}
	if alike < 4000 || alike > 8000 {
		t.Error(alike)
	}
}
