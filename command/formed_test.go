package command_test

import (
	"slices"
	"testing"

	"recoup/command"
)

// Their numbers are kept in bytes, and stay.
func TestTheNumbersOfKinds(t *testing.T) {
	kinds := []int{command.Request, command.Cancel, command.Deny, command.Pick, command.Receive, command.Grade, command.Tick, command.Reply}
	if !slices.Equal(kinds, []int{1, 2, 3, 4, 5, 6, 7, 8}) {
		t.Error(kinds)
	}
}

func TestSomeCommandsAreFormed(t *testing.T) {
	for _, c := range someCommands() {
		if !dueFormed(c) {
			t.Error("by another hand", c)
		}
		mustBeFormed(t, c)
	}
	for _, c := range wrongCommands() {
		if dueFormed(c) {
			t.Error("by another hand", c)
		}
		mustBeWrong(t, c)
	}
}

// Of no other kind a command is formed, whatever it has.
func TestEachKind(t *testing.T) {
	others := beyond()
	for kind := -300; kind < 600; kind++ {
		others = append(others, kind)
	}
	for _, v := range []int{1 << 16, 1 << 32, 1 << 40, smallest} {
		for _, kind := range allKinds() {
			others = append(others, v+kind)
		}
	}
	for _, kind := range others {
		if kind >= 1 && kind <= 8 {
			mustBeFormed(t, sample(kind))
			continue
		}
		mustBeWrong(t, command.Command{Kind: kind})
		for _, of := range allKinds() {
			c := sample(of)
			c.Kind = kind
			mustBeWrong(t, c)
		}
	}
}

// What one kind needs is no other one's, but for those that need as much or more.
func TestNoKindIsAnother(t *testing.T) {
	for _, of := range allKinds() {
		for _, kind := range allKinds() {
			c := sample(of)
			c.Kind = kind
			if formed := mustBeDue(t, c); formed != (of == kind || 2 <= of && of <= 5 && 2 <= kind && kind <= 6) {
				t.Error(of, kind, formed)
			}
		}
	}
}

// All that is needed but units may be zero.
func TestKindsAlone(t *testing.T) {
	for _, kind := range allKinds() {
		c := command.Command{Kind: kind}
		if formed := mustBeDue(t, c); formed != (kind != 1) {
			t.Error(kind, formed)
		}
		c.Units = []int{}
		mustBeDue(t, c)
	}
	mustBeFormed(t, command.Command{Kind: 1, Units: []int{0}})
}

// Each number that is needed, at both ends and beyond them.
func TestEachNumberHasEnds(t *testing.T) {
	for _, kind := range allKinds() {
		c := sample(kind)
		needed := 0
		for at, n := range numbers(&c) {
			if !n.isNeeded(kind) {
				continue
			}
			needed++
			for _, v := range []int{0, 1, 2, 127, 128, 200, 254, 255, n.most / 2, n.most - 1, n.most} {
				mustBeFormed(t, with(kind, at, v))
			}
			for _, v := range append(beyond(), n.most+1, n.most+2, 2*n.most+1, 2*n.most+2) {
				mustBeWrong(t, with(kind, at, v))
			}
		}
		if needed == 0 {
			t.Error(kind)
		}
	}
}

// Each number that isn't needed is zero.
func TestAllElseIsZero(t *testing.T) {
	for _, kind := range allKinds() {
		c := sample(kind)
		for at, n := range numbers(&c) {
			if n.isNeeded(kind) {
				continue
			}
			mustBeFormed(t, with(kind, at, 0))
			for _, v := range append(beyond(), 1, 2, 3, 128, 255, 256, 65535, 65536, 1<<32-1) {
				mustBeWrong(t, with(kind, at, v))
			}
		}
	}
}

// What one number has beyond its end another one can't make good.
func TestTwoNumbersBeyondTheirEnds(t *testing.T) {
	for _, kind := range allKinds() {
		c := sample(kind)
		for j, n := range numbers(&c) {
			for k, m := range numbers(&c) {
				if j == k {
					continue
				}
				for _, v := range []int{n.most + 1, -1, 1} {
					for _, w := range []int{m.most + 1, -1, 1} {
						other := with(kind, j, v)
						*numbers(&other)[k].of = w
						mustBeDue(t, other)
					}
				}
			}
		}
	}
}

func TestFlags(t *testing.T) {
	for _, kind := range allKinds() {
		for _, credit := range []bool{false, true} {
			for _, yes := range []bool{false, true} {
				c := sample(kind)
				c.Credit, c.Yes = credit, yes
				if formed := mustBeDue(t, c); formed != ((kind == 1 || !credit) && (kind == 8 || !yes)) {
					t.Error(c, formed)
				}
			}
		}
	}
}

func TestHowManyUnits(t *testing.T) {
	for n := range 600 {
		if n >= 1 && n <= 60 {
			mustBeFormed(t, many(n))
		} else {
			mustBeWrong(t, many(n))
		}
	}
	for _, n := range []int{1 << 16, 1<<16 + 1, 1<<16 + 60, 1 << 20} {
		mustBeWrong(t, many(n))
	}
	mustBeWrong(t, command.Command{Kind: 1})
	mustBeWrong(t, command.Command{Kind: 1, Units: []int{}})
}

// Units aren't held against each other, nor against what there is: whether they
// rise is asked elsewhere.
func TestUnitsStandAlone(t *testing.T) {
	for _, l := range [][]int{{0}, {255}, {200}, {3, 2, 1}, {7, 7, 7}, {0, 255, 0}, {255, 254}, slices.Repeat([]int{9}, 60)} {
		mustBeFormed(t, units(l...))
	}
}

// Wherever in a long list one unit doesn't go in.
func TestEachUnitIsAsked(t *testing.T) {
	for at := range 60 {
		for v := range 256 {
			c := many(60)
			c.Units[at] = v
			mustBeFormed(t, c)
		}
		for _, v := range append(beyond(), 256, 257, 511, 512, 65535, 65536, 1<<32-1) {
			c := many(60)
			c.Units[at] = v
			mustBeWrong(t, c)
		}
	}
}

// No other kind has units, not even one that is zero.
func TestUnitsOfOtherKinds(t *testing.T) {
	for _, kind := range append(allKinds()[1:], 0, 9) {
		for _, l := range [][]int{{0}, {1}, {0, 0}, {-1}, {256}, make([]int, 60), make([]int, 61), make([]int, 256)} {
			c := sample(kind)
			c.Units = l
			mustBeWrong(t, c)
		}
		c := sample(kind)
		c.Units = []int{}
		if formed := mustBeDue(t, c); formed != (kind != 0 && kind != 9) {
			t.Error(c, formed)
		}
	}
}
