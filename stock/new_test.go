package stock_test

import (
	"testing"

	"recoup/api"
	"recoup/stock"
)

func TestTheLimitIsTheDocuments(t *testing.T) {
	if api.MaxUnits != 200 {
		t.Error(api.MaxUnits)
	}
}

func TestThePlacesAreTheDocuments(t *testing.T) {
	got := [9]int{stock.Customer, stock.OnItsWay, stock.Dock, stock.Sellable, stock.Refurbish, stock.Scrap, stock.Lost, stock.Reserved, stock.GoneOut}
	if got != [9]int{0, 1, 2, 3, 4, 5, 6, 7, 8} {
		t.Error(got)
	}
}

func TestANewStock(t *testing.T) {
	s, e := stock.New([]int{5, 5, 0, -3}, []int{0, 3, 8, 3})
	if e != api.OK || s.Len() != 4 {
		t.Fatal(e)
	}
	for unit, want := range [4][2]int{{0, 5}, {3, 5}, {8, 0}, {3, -3}} {
		if s.Place(unit) != want[0] || s.SKU(unit) != want[1] {
			t.Error(unit, s.Place(unit), s.SKU(unit))
		}
		if received, graded := s.Seen(unit); received || graded {
			t.Error(unit, received, graded)
		}
	}
	for place, want := range [9]int{0: 1, 3: 2, 8: 1} {
		if s.Count(place) != want {
			t.Error(place, s.Count(place))
		}
	}
	for _, none := range []int{-1, 4} {
		received, graded := s.Seen(none)
		if s.Place(none) != -1 || s.SKU(none) != -1 || received || graded {
			t.Error(none, s.Place(none), s.SKU(none), received, graded)
		}
	}
}

func TestANewStockOfSoMany(t *testing.T) {
	for _, n := range []int{0, 1, 2, 3, 8, 9, 10, 127, 128, 199, 200} {
		begin(t, many(n, 7), many(n, 0)).check(t)
		begin(t, around(n, n+1), around(n, 9)).check(t)
		begin(t, around(n, 3), around(n, 8)).check(t)
	}
	for _, n := range []int{201, 202, 255, 256, 257, 400, 456, 1000, 65536, 65537, 65736} {
		mustNotBegin(t, many(n, 7), many(n, 0))
		mustNotBegin(t, around(n, n), around(n, 9))
		mustNotBegin(t, many(n, 7), many(n, -1))
	}
}

func TestOfNoUnitAtAll(t *testing.T) {
	for _, l := range [][2][]int{{nil, nil}, {{}, {}}, {nil, {}}, {{}, nil}} {
		p := begin(t, l[0], l[1])
		p.check(t)
		p.pick(t, 0)
		for _, unit := range append(noUnits(0), 0) {
			p.move(t, unit, 1)
		}
		p.clone().check(t)
	}
}

func TestAsManySKUsAsPlaces(t *testing.T) {
	for _, n := range []int{0, 1, 2, 3, 100, 199, 200, 201, 255, 256} {
		for _, more := range []int{1, 2, 56, 200, 256, 65536} {
			mustNotBegin(t, many(n, 7), many(n+more, 0))
			mustNotBegin(t, many(n+more, 7), many(n, 0))
		}
	}
	for n := 1; n <= 200; n++ {
		mustNotBegin(t, many(n, 7), many(n-1, 3))
		mustNotBegin(t, many(n-1, 7), many(n, 3))
		mustNotBegin(t, many(n, 7), nil)
		mustNotBegin(t, nil, many(n, 3))
	}
}

func TestAPlaceIsNone(t *testing.T) {
	for _, none := range noPlaces() {
		for _, n := range []int{1, 2, 3, 9, 200} {
			for at := range n {
				places := around(n, 9)
				places[at] = none
				mustNotBegin(t, many(n, 7), places)
			}
			mustNotBegin(t, many(n, 7), many(n, none))
			mustNotBegin(t, many(n-1, 7), many(n, none))
			mustNotBegin(t, many(n+1, 7), many(n, none))
		}
		mustNotBegin(t, many(201, 7), many(201, none))
	}
}

func TestEachPlaceIsOne(t *testing.T) {
	for place := range 9 {
		one(t, place).check(t)
		begin(t, around(200, 200), many(200, place)).check(t)
	}
}

// A SKU may be any number; a unit's is its own.
func TestAnySKU(t *testing.T) {
	for _, sku := range someSKUs() {
		begin(t, []int{sku}, []int{3}).check(t)
		begin(t, many(200, sku), around(200, 9)).check(t)
	}
	p := begin(t, someSKUs(), many(len(someSKUs()), 3))
	p.check(t)
	for unit, sku := range someSKUs() {
		if p.s.SKU(unit) != sku {
			t.Error(unit, p.s.SKU(unit))
		}
	}
}
