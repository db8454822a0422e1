package stock_test

import (
	"testing"

	"recoup/api"
	"recoup/stock"
)

// anyNumbers are places, units, SKUs, or none of them.
func anyNumbers() []int {
	return []int{-1, 0, 1, 2, 3, 7, 8, 9, 199, 200, 1 << 32, greatest, smallest}
}

func TestANilStock(t *testing.T) {
	var s *stock.Stock
	for _, a := range anyNumbers() {
		for _, b := range anyNumbers() {
			if e := s.Move(a, b); e != api.ErrArg {
				t.Error(a, b, e)
			}
		}
		if n, e := s.Pick(a); n != 0 || e != api.ErrArg {
			t.Error(a, n, e)
		}
		received, graded := s.Seen(a)
		if s.Place(a) != 0 || s.SKU(a) != 0 || s.Count(a) != 0 || received || graded {
			t.Error(a, s.Place(a), s.SKU(a), s.Count(a), received, graded)
		}
	}
	if s.Len() != 0 || s.Clone() != nil {
		t.Error(s.Len(), s.Clone())
	}
}

// One that New didn't make has no units.
func TestAStockOfItsOwn(t *testing.T) {
	for _, s := range []*stock.Stock{new(stock.Stock), new(stock.Stock).Clone()} {
		p := pair{s, due{}}
		for _, a := range anyNumbers() {
			for _, b := range anyNumbers() {
				p.move(t, a, b)
			}
			p.pick(t, a)
		}
		p.check(t)
	}
}

// Of all arguments, alone or together with any other one.
func TestAnyArguments(t *testing.T) {
	for _, n := range []int{0, 1, 9, 200} {
		p := begin(t, around(n, 3), around(n, 9))
		for _, a := range anyNumbers() {
			for _, b := range anyNumbers() {
				p.move(t, a, b)
				stock.May(a, b)
			}
			p.pick(t, a)
			p.check(t)
		}
	}
}
