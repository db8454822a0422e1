package stock_test

import (
	"math"
	"slices"
	"strconv"
	"strings"
	"testing"

	"recoup/api"
	"recoup/stock"
)

const (
	greatest = math.MaxInt
	smallest = math.MinInt
)

// due is a stock told by another hand: of each unit its SKU, and all the places
// where it was, the last one being where it is.
type due struct {
	skus []int
	ways [][]int
}

// steps are all ways in which a unit moves.
const steps = " 01 12 16 23 24 25 28 37 73 78 80 86 "

func dueMay(from, to int) bool {
	if isNoPlace(from) || isNoPlace(to) {
		return false
	}
	return strings.Contains(steps, " "+strconv.Itoa(from)+strconv.Itoa(to)+" ")
}

func isNoPlace(place int) bool {
	switch place {
	case 0, 1, 2, 3, 4, 5, 6, 7, 8:
		return false
	}
	return true
}

func (d due) isNone(unit int) bool { return unit < 0 || unit >= len(d.ways) }

func (d due) place(unit int) int {
	if d.isNone(unit) {
		return -1
	}
	way := d.ways[unit]
	return way[len(way)-1]
}

func (d due) sku(unit int) int {
	if d.isNone(unit) {
		return -1
	}
	return d.skus[unit]
}

func (d due) seen(unit int) (received, graded bool) {
	if d.isNone(unit) {
		return false, false
	}
	way := d.ways[unit]
	for k := 1; k < len(way); k++ {
		switch {
		case way[k-1] == 1 && way[k] == 2:
			received = true
		case way[k-1] == 2:
			graded = true
		}
	}
	return received, graded
}

func (d due) count(place int) int {
	n := 0
	for unit := range d.ways {
		if d.place(unit) == place {
			n++
		}
	}
	return n
}

func (d due) moveError(unit, to int) api.Errno {
	switch {
	case d.isNone(unit):
		return 7
	case !dueMay(d.place(unit), to):
		return 8
	}
	return 0
}

// picked is below 0, if there is none.
func (d due) picked(sku int) int {
	for unit := range d.skus {
		if d.skus[unit] == sku && d.place(unit) == 3 {
			return unit
		}
	}
	return -1
}

// pair is a stock, and what is due of it.
type pair struct {
	s *stock.Stock
	due
}

// begin is a pair of a new stock.
func begin(t *testing.T, skus, places []int) pair {
	t.Helper()
	s, e := stock.New(skus, places)
	if e != api.OK || s == nil {
		t.Fatalf("New of %d: %p, %d", len(skus), s, e)
	}
	d := due{skus: slices.Clone(skus)}
	for _, place := range places {
		d.ways = append(d.ways, []int{place})
	}
	return pair{s, d}
}

// one is a pair of a single unit, of SKU 7.
func one(t *testing.T, place int) pair {
	t.Helper()
	return begin(t, []int{7}, []int{place})
}

// clone is a pair of the stock's clone.
func (p pair) clone() pair {
	d := due{skus: slices.Clone(p.skus)}
	for _, way := range p.ways {
		d.ways = append(d.ways, slices.Clone(way))
	}
	return pair{p.s.Clone(), d}
}

// move moves a unit, and checks what is answered.
func (p pair) move(t *testing.T, unit, to int) api.Errno {
	t.Helper()
	want := p.moveError(unit, to)
	if e := p.s.Move(unit, to); e != want {
		t.Errorf("Move(%d, %d) of a unit at %d: %d; want %d", unit, to, p.place(unit), e, want)
	}
	if want == api.OK {
		p.ways[unit] = append(p.ways[unit], to)
	}
	return want
}

// pick picks a unit, and checks what is answered.
func (p pair) pick(t *testing.T, sku int) int {
	t.Helper()
	want := p.picked(sku)
	got, e := p.s.Pick(sku)
	if want < 0 {
		if got != 0 || e != api.ErrStock {
			t.Errorf("Pick(%d): %d, %d; want ErrStock alone", sku, got, e)
		}
		return want
	}
	if got != want || e != api.OK {
		t.Errorf("Pick(%d): %d, %d; want %d", sku, got, e, want)
	}
	p.ways[want] = append(p.ways[want], 7)
	return want
}

// check checks all that is told of a stock.
func (p pair) check(t *testing.T) {
	t.Helper()
	if p.s.Len() != len(p.ways) {
		t.Errorf("Len: %d; want %d", p.s.Len(), len(p.ways))
	}
	for unit := range p.ways {
		p.checkUnit(t, unit)
	}
	for _, unit := range noUnits(len(p.ways)) {
		p.checkUnit(t, unit)
	}
	all := 0
	for place := range 9 {
		p.checkCount(t, place)
		all += p.s.Count(place)
	}
	for _, place := range noPlaces() {
		p.checkCount(t, place)
	}
	if all != len(p.ways) {
		t.Errorf("%d units are in a place, of %d", all, len(p.ways))
	}
}

func (p pair) checkUnit(t *testing.T, unit int) {
	t.Helper()
	received, graded := p.seen(unit)
	a, b := p.s.Seen(unit)
	if p.s.Place(unit) != p.place(unit) || p.s.SKU(unit) != p.sku(unit) || a != received || b != graded {
		t.Errorf("unit %d of %d: at %d, SKU %d, seen %v %v; want %d, %d, %v %v", unit, len(p.ways),
			p.s.Place(unit), p.s.SKU(unit), a, b, p.place(unit), p.sku(unit), received, graded)
	}
}

func (p pair) checkCount(t *testing.T, place int) {
	t.Helper()
	if got := p.s.Count(place); got != p.count(place) {
		t.Errorf("Count(%d): %d; want %d", place, got, p.count(place))
	}
}

// mustNotBegin checks that a New is an error alone.
func mustNotBegin(t *testing.T, skus, places []int) {
	t.Helper()
	if s, e := stock.New(skus, places); s != nil || e != api.ErrArg {
		t.Errorf("New of %d SKUs, %d places: %p, %d; want ErrArg alone", len(skus), len(places), s, e)
	}
}
