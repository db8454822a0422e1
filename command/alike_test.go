package command_test

import (
	"slices"
	"testing"

	"recoup/command"
)

func TestACommandIsAlikeItself(t *testing.T) {
	for _, c := range append(someCommands(), wrongCommands()...) {
		mustEqual(t, c, c, true)
		other := c
		other.Units = slices.Clone(c.Units)
		mustEqual(t, c, other, true)
	}
}

func TestOtherCommandsAreUnlike(t *testing.T) {
	l := append(someCommands(), wrongCommands()...)
	for n, a := range l {
		for m, b := range l {
			mustEqual(t, a, b, n == m)
		}
	}
}

func TestNoListIsAlikeAnEmptyOne(t *testing.T) {
	mustEqual(t, command.Command{}, command.Command{Units: []int{}}, true)
	mustEqual(t, command.Command{Kind: 7, Days: 3}, command.Command{Kind: 7, Days: 3, Units: []int{}}, true)
	mustEqual(t, command.Command{}, command.Command{Units: []int{0}}, false)
	mustEqual(t, command.Command{Units: []int{0}}, command.Command{Units: []int{0, 0}}, false)
}

// Whether a command is formed isn't asked.
func TestEachNumberMakesUnlike(t *testing.T) {
	for _, kind := range append(allKinds(), 0, 9, smallest) {
		c := sample(kind)
		for at, n := range numbers(&c) {
			for _, by := range []int{1, -1, 256, 1 << 16, 1 << 32, 1 << 62, smallest} {
				mustEqual(t, c, with(kind, at, *n.of+by), false)
				mustEqual(t, with(kind, at, *n.of+by), with(kind, at, *n.of+by), true)
			}
		}
		for _, by := range []int{1, -1, 256, 1 << 32, smallest} {
			other := sample(kind)
			other.Kind += by
			other.RMA = c.RMA
			mustEqual(t, c, other, false)
		}
	}
}

// What one number has more another one hasn't less, for all that.
func TestEachTwoNumbersMakeUnlike(t *testing.T) {
	for _, kind := range allKinds() {
		c := sample(kind)
		for j, n := range numbers(&c) {
			for k, m := range numbers(&c) {
				if j == k {
					continue
				}
				other := with(kind, j, *n.of+1)
				*numbers(&other)[k].of--
				mustEqual(t, c, other, false)
				other = with(kind, j, *m.of)
				*numbers(&other)[k].of = *n.of
				mustEqual(t, c, other, *n.of == *m.of)
			}
		}
	}
}

func TestOtherFlagsAreUnlike(t *testing.T) {
	for _, c := range append(someCommands(), wrongCommands()...) {
		credit, yes, both := c, c, c
		credit.Credit = !c.Credit
		yes.Yes = !c.Yes
		both.Credit, both.Yes = !c.Credit, !c.Yes
		mustEqual(t, c, credit, false)
		mustEqual(t, c, yes, false)
		mustEqual(t, c, both, false)
		mustEqual(t, credit, yes, false)
	}
}

func TestOtherUnitsAreUnlike(t *testing.T) {
	for _, l := range [][]int{nil, {}, {3}, {3, 4}, {4, 250}, {3, 250, 4}, {250, 4, 3}, {3, 4, 250, 0}, {0, 3, 4, 250}, {3, 4, 251}, {2, 4, 250}, {3, 4, 250 + 256}, {3, 3, 250}} {
		mustEqual(t, sample(1), units(l...), false)
	}
	for at := range 60 {
		c := many(60)
		c.Units[at]++
		mustEqual(t, c, many(60), false)
	}
	mustEqual(t, sample(1), units(3, 4, 250), true)
}
