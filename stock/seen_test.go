package stock_test

import (
	"testing"

	"recoup/api"
)

func TestSeenOfAWay(t *testing.T) {
	for _, c := range []struct {
		way              string
		received, graded bool
	}{
		{"0", false, false}, {"01", false, false}, {"016", false, false},
		{"012", true, false}, {"0123", true, true}, {"0124", true, true}, {"0125", true, true}, {"0128", true, true},
		{"01237", true, true}, {"012373", true, true}, {"012378", true, true}, {"0123786", true, true},
		{"0123780", true, true}, {"01237801", true, true}, {"012378012", true, true}, {"0123780123", true, true},
		{"01280", true, true}, {"01286", true, true}, {"012801", true, true}, {"0128016", true, true}, {"0128012", true, true}, {"01280128", true, true},
		{"1", false, false}, {"12", true, false}, {"16", false, false}, {"128", true, true}, {"125", true, true},
		{"3", false, false}, {"37", false, false}, {"373", false, false}, {"37373", false, false}, {"378", false, false}, {"3786", false, false},
		{"3780", false, false}, {"37801", false, false}, {"378016", false, false}, {"378012", true, false}, {"3780124", true, true},
		{"4", false, false}, {"5", false, false}, {"6", false, false}, {"7", false, false}, {"73", false, false}, {"78", false, false},
		{"8", false, false}, {"80", false, false}, {"86", false, false}, {"801", false, false}, {"8012", true, false},
		// Whether it was received isn't asked of one that was at the dock at first.
		{"2", false, false}, {"23", false, true}, {"24", false, true}, {"25", false, true}, {"28", false, true},
		{"237", false, true}, {"2378", false, true}, {"280", false, true}, {"2801", false, true}, {"28016", false, true}, {"28012", true, true},
	} {
		p := one(t, int(c.way[0]-'0'))
		for _, to := range c.way[1:] {
			if e := p.move(t, 0, int(to-'0')); e != api.OK {
				t.Fatal(c.way, e)
			}
		}
		if received, graded := p.s.Seen(0); received != c.received || graded != c.graded {
			t.Error(c.way, received, graded)
		}
		p.check(t)
	}
}

// mustGoOn checks a pair, and all that it can become by so many moves.
func mustGoOn(t *testing.T, p pair, left int) (ways int) {
	p.check(t)
	ways = 1
	if left == 0 {
		return ways
	}
	for to := range 9 {
		next := p.clone()
		if next.move(t, 0, to) == api.OK {
			ways += mustGoOn(t, next, left-1)
		}
	}
	return ways
}

func TestSeenOfEveryWay(t *testing.T) {
	all := 0
	for place := range 9 {
		all += mustGoOn(t, one(t, place), 9)
	}
	if all < 300 {
		t.Error(all, "ways")
	}
}

// What came from a customer is at a shelf, or scrap, only if it was received
// and graded; what is reserved goes out, or back.
func TestNothingIsLost(t *testing.T) {
	var look func(p pair, left int)
	look = func(p pair, left int) {
		received, graded := p.s.Seen(0)
		switch place := p.s.Place(0); {
		case 3 <= place && place <= 5 && !(received && graded):
			t.Error(p.ways, "wasn't seen")
		case place == 7 && p.clone().s.Move(0, 3) != api.OK, place == 7 && p.clone().s.Move(0, 8) != api.OK:
			t.Error(p.ways, "stays reserved")
		}
		if left == 0 {
			return
		}
		for to := range 9 {
			if next := p.clone(); next.move(t, 0, to) == api.OK {
				look(next, left-1)
			}
		}
	}
	look(one(t, 0), 9)
	look(one(t, 1), 9)
}

func TestSeenIsOfOneUnitAlone(t *testing.T) {
	for _, n := range []int{2, 200} {
		for _, unit := range []int{0, n / 2, n - 1} {
			p := begin(t, many(n, 7), many(n, 1))
			p.move(t, unit, 2)
			p.check(t)
			p.move(t, unit, 4)
			p.check(t)
		}
	}
}
