package stock_test

import (
	"slices"
	"sync"
	"testing"

	"recoup/api"
	"recoup/stock"
)

// room is a list with spare room behind it, full of one thing more.
func room(l []int, more int) []int {
	return append(slices.Clone(l), more, more, more)[:len(l)]
}

// fill overwrites a list and its spare room.
func fill(l []int, with int) {
	l = l[:cap(l)]
	for k := range l {
		l[k] = with
	}
}

// use does all that can be done with a stock.
func use(s *stock.Stock) {
	for unit := -1; unit <= s.Len(); unit++ {
		for _, to := range []int{1, 2, 3, 7, 8, 9} {
			s.Move(unit, to)
			s.Pick(s.SKU(unit))
			s.Place(unit)
			s.Seen(unit)
			s.Count(to)
		}
	}
	s.Clone().Move(0, 0)
}

func TestSlicesAreLeftAsTheyAre(t *testing.T) {
	for _, wrong := range []int{0, 8, 9, -1} {
		for _, n := range []int{0, 1, 5, 199, 200, 201} {
			skus, places := room(around(n, 4), 77), room(append(around(max(n, 1)-1, 9), wrong)[:n], 78)
			wholeSKUs, wholePlaces := slices.Clone(skus[:cap(skus)]), slices.Clone(places[:cap(places)])
			if s, e := stock.New(skus, places); e == api.OK {
				use(s)
			}
			if !slices.Equal(skus[:cap(skus)], wholeSKUs) || !slices.Equal(places[:cap(places)], wholePlaces) {
				t.Error(n, wrong, "are now", skus[:cap(skus)], places[:cap(places)])
			}
		}
	}
}

func TestSlicesMayBeChangedAfterwards(t *testing.T) {
	for _, n := range []int{1, 5, 200} {
		skus, places := room(around(n, 4), 77), room(around(n, 9), 78)
		p := begin(t, skus, places)
		fill(skus, 5)
		fill(places, 3)
		p.check(t)
		fill(places, -1)
		p.check(t)
		p.pick(t, 5)
		p.pick(t, 3)
		p.check(t)
	}
}

func TestSpareRoomIsNotRead(t *testing.T) {
	for _, n := range []int{0, 1, 5, 199, 200} {
		p := begin(t, room(many(n, 7), 8), room(many(n, 0), 3))
		p.pick(t, 8)
		p.check(t)
		p = begin(t, room(many(n, 7), 8), room(many(n, 0), 9))
		p.check(t)
		mustNotBegin(t, room(many(n, 7), 8), room(many(n+1, 0), 3))
		mustNotBegin(t, room(many(n+1, 7), 8), room(many(n, 0), 3))
	}
}

// One list for both is as good as two.
func TestOneListForBoth(t *testing.T) {
	both := around(200, 9)
	p := begin(t, both, both)
	use(p.clone().s)
	p.check(t)
	if !slices.Equal(both, around(200, 9)) {
		t.Error(both)
	}
}

func TestTwoStocksOfOneListHaveNothingInCommon(t *testing.T) {
	skus, places := many(9, 7), around(9, 9)
	a, b := begin(t, skus, places), begin(t, skus, places)
	use(a.s)
	b.check(t)
	b.move(t, 0, 1)
	b.pick(t, 7)
	b.check(t)
}

func TestACloneHasNothingInCommon(t *testing.T) {
	for _, n := range []int{0, 1, 9, 200} {
		p := begin(t, around(n, 3), around(n, 9))
		first, second := p.clone(), p.clone()
		use(second.s)
		p.check(t)
		first.check(t)
		use(p.s)
		first.check(t)
		third := first.clone()
		for unit := range n {
			for to := range 9 {
				first.move(t, unit, to)
			}
		}
		third.check(t)
		first.check(t)
		first.clone().check(t)
	}
}

// A clone knows what was seen, and goes on as what it was cloned from.
func TestACloneGoesOnLikeTheOther(t *testing.T) {
	p := begin(t, []int{7, 7, 8}, []int{0, 3, 0})
	for _, c := range []struct{ unit, to int }{{0, 1}, {0, 2}, {2, 1}, {2, 2}, {0, 8}, {0, 0}, {2, 3}, {0, 1}, {0, 6}} {
		other := p.clone()
		other.check(t)
		p.move(t, c.unit, c.to)
		other.check(t)
		other.move(t, c.unit, c.to)
		other.pick(t, 7)
		other.pick(t, 8)
		other.check(t)
		p.check(t)
	}
}

// What is told leaves a stock as it is.
func TestTellingLeavesAStockAsItIs(t *testing.T) {
	p := begin(t, around(20, 3), around(20, 9))
	for range 3 {
		p.check(t)
	}
}

// Nothing is kept from call to call, but in the stock itself; it doesn't matter
// who else asks.
func TestAnswersHangOnTheStockAlone(t *testing.T) {
	var all sync.WaitGroup
	shared := begin(t, around(30, 4), around(30, 9))
	for k := range 4 {
		own := shared.clone()
		all.Go(func() {
			for round := range 100 {
				shared.check(t)
				own.move(t, (k+round)%30, round%9)
				own.pick(t, round%5)
				own.check(t)
			}
		})
	}
	all.Wait()
}
