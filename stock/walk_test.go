package stock_test

import (
	"math/rand"
	"testing"

	"recoup/api"
)

// somewhere is as often a place where the unit moves as any other one.
func (p pair) somewhere(r *rand.Rand, unit int) int {
	if r.Intn(4) == 0 {
		return allPlaces()[r.Intn(len(allPlaces()))]
	}
	to := r.Intn(9)
	for k := range 9 {
		if next := (to + k) % 9; dueMay(p.place(unit), next) {
			return next
		}
	}
	return to
}

// step does one thing, and tells whether it was done.
func (p pair) step(t *testing.T, r *rand.Rand) bool {
	n := len(p.ways)
	if r.Intn(4) == 0 {
		return p.pick(t, r.Intn(6)-1) >= 0
	}
	unit := r.Intn(n+2) - 1
	if r.Intn(20) == 0 {
		unit = noUnits(n)[r.Intn(len(noUnits(n)))]
	}
	return p.move(t, unit, p.somewhere(r, unit)) == api.OK
}

func someStock(t *testing.T, r *rand.Rand) pair {
	n := r.Intn(201) >> r.Intn(8)
	skus, places := make([]int, n), make([]int, n)
	for k := range n {
		skus[k], places[k] = r.Intn(5)-1, r.Intn(9)
		if r.Intn(2) == 0 {
			places[k] = r.Intn(4)
		}
	}
	return begin(t, skus, places)
}

// Beside a stock told by another hand: what is done, refused and told.
func TestAnyStepsAreDue(t *testing.T) {
	r := rand.New(rand.NewSource(1))
	done, all := 0, 0
	for range 300 {
		p := someStock(t, r)
		p.check(t)
		for range r.Intn(200) {
			if p.step(t, r) {
				done++
			}
			all++
			if r.Intn(10) == 0 {
				p.check(t)
			}
		}
		p.check(t)
	}
	if 6*done < all || 6*done > 5*all {
		t.Error(done, "of", all)
	}
}

// Two go on from the same, each its own way.
func TestAnyClonesAreDue(t *testing.T) {
	r := rand.New(rand.NewSource(2))
	for range 200 {
		p := someStock(t, r)
		for range r.Intn(50) {
			p.step(t, r)
		}
		c := p.clone()
		for range r.Intn(50) {
			if r.Intn(2) == 0 {
				p.step(t, r)
			} else {
				c.step(t, r)
			}
		}
		p.check(t)
		c.check(t)
	}
}

// A list some of whose places are none, or that isn't as long as the other.
func TestAnyListsAreDue(t *testing.T) {
	r := rand.New(rand.NewSource(3))
	right := 0
	for range 3000 {
		n := 190 + r.Intn(20)
		if r.Intn(2) == 0 {
			n = r.Intn(20)
		}
		skus, places := make([]int, n), make([]int, max(0, n+(r.Intn(5)-2)/2))
		isWrong := n > 200 || len(places) != n
		for k := range places {
			places[k] = r.Intn(9)
			if r.Intn(300) == 0 {
				places[k] = noPlaces()[r.Intn(len(noPlaces()))]
				isWrong = true
			}
		}
		if isWrong {
			mustNotBegin(t, skus, places)
			continue
		}
		begin(t, skus, places).check(t)
		right++
	}
	if right < 500 || right > 2500 {
		t.Error(right, "are right")
	}
}
