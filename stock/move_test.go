package stock_test

import (
	"testing"

	"recoup/api"
	"recoup/stock"
)

// Told place by place: a row's letters are where a unit goes from there.
func TestMayOfEveryPair(t *testing.T) {
	for from, row := range [9]string{
		".1.......",
		"..2...6..",
		"...345..8",
		".......7.",
		".........",
		".........",
		".........",
		"...3....8",
		"0.....6..",
	} {
		for to := range 9 {
			want := row[to] != '.'
			if got := stock.May(from, to); got != want {
				t.Errorf("May(%d, %d): %v", from, to, got)
			}
		}
	}
}

func TestMayOfNoPlace(t *testing.T) {
	for _, from := range allPlaces() {
		for _, to := range allPlaces() {
			if got := stock.May(from, to); got != dueMay(from, to) {
				t.Errorf("May(%d, %d): %v", from, to, got)
			}
		}
	}
}

func TestFromScrapNothingMoves(t *testing.T) {
	for _, end := range []int{5, 4, 6} {
		for _, to := range allPlaces() {
			if stock.May(end, to) {
				t.Errorf("May(%d, %d)", end, to)
			}
			p := one(t, end)
			if e := p.s.Move(0, to); e != api.ErrState {
				t.Errorf("from %d to %d: %d", end, to, e)
			}
			p.check(t)
		}
	}
}

func TestMoveOfEveryPair(t *testing.T) {
	moved := 0
	for from := range 9 {
		for _, to := range allPlaces() {
			p := one(t, from)
			if p.move(t, 0, to) == api.OK {
				moved++
			}
			p.check(t)
		}
	}
	if moved != 12 {
		t.Error(moved, "pairs moved")
	}
}

// Of each unit among others, which stay where they are.
func TestMoveOfOneOfMany(t *testing.T) {
	for _, n := range []int{1, 2, 9, 200} {
		for place := range 9 {
			p := begin(t, around(n, 3), many(n, place))
			for _, unit := range []int{0, n / 2, n - 1} {
				for _, to := range allPlaces() {
					c := p.clone()
					c.move(t, unit, to)
					c.check(t)
				}
			}
		}
	}
}

func TestEveryUnitMoves(t *testing.T) {
	for _, n := range []int{1, 3, 200} {
		p := begin(t, around(n, 5), many(n, 0))
		for _, to := range []int{1, 2, 8, 0, 1, 6} {
			for unit := range n {
				if e := p.move(t, unit, to); e != api.OK {
					t.Error(unit, to, e)
				}
			}
			p.check(t)
			if p.s.Count(to) != n {
				t.Error(n, to, p.s.Count(to))
			}
		}
	}
}

func TestMoveOfNoUnit(t *testing.T) {
	for _, n := range []int{0, 1, 2, 9, 199, 200} {
		p := begin(t, many(n, 7), many(n, 0))
		for _, unit := range noUnits(n) {
			// Whether it would move so isn't asked.
			for _, to := range []int{1, 0, 5, 8, 9, -1, greatest, smallest} {
				if e := p.s.Move(unit, to); e != api.ErrNone {
					t.Errorf("Move(%d, %d) of %d: %d", unit, to, n, e)
				}
			}
		}
		p.check(t)
	}
}

// A refused call doesn't matter to those that follow.
func TestARefusedMoveChangesNothing(t *testing.T) {
	p := one(t, 0)
	for _, to := range []int{1, 2, 3, 7, 8, 0, 1, 2, 8, 6} {
		for _, wrong := range allPlaces() {
			if !dueMay(p.place(0), wrong) {
				p.move(t, 0, wrong)
				p.check(t)
			}
		}
		p.move(t, -1, to)
		p.move(t, 1, to)
		p.check(t)
		if e := p.move(t, 0, to); e != api.OK {
			t.Fatal(to, e)
		}
	}
}

// A second time is asked like a first one: where it is now, it doesn't move to.
func TestAMoveTwiceIsRefused(t *testing.T) {
	for from := range 9 {
		for to := range 9 {
			if !dueMay(from, to) {
				continue
			}
			p := one(t, from)
			if e := p.s.Move(0, to); e != api.OK {
				t.Error(from, to, e)
			}
			if e := p.s.Move(0, to); e != api.ErrState || p.s.Place(0) != to {
				t.Error(from, to, e, p.s.Place(0))
			}
		}
	}
}
