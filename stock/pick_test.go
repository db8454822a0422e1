package stock_test

import (
	"testing"

	"recoup/api"
)

func TestPickReservesTheLeast(t *testing.T) {
	p := begin(t, []int{2, 1, 2, 2, 1, 2}, []int{0, 3, 3, 3, 3, 5})
	for _, c := range []struct {
		sku, want int
		e         api.Errno
	}{{2, 2, 0}, {1, 1, 0}, {2, 3, 0}, {2, 0, api.ErrStock}, {1, 4, 0}, {1, 0, api.ErrStock}, {3, 0, api.ErrStock}} {
		if got, e := p.clone().s.Pick(c.sku); got != c.want || e != c.e {
			t.Error(c.sku, got, e)
		}
		p.pick(t, c.sku)
		p.check(t)
	}
	if p.s.Count(7) != 4 || p.s.Count(3) != 0 {
		t.Error(p.s.Count(7), p.s.Count(3))
	}
}

// Nothing that is elsewhere is picked, whatever it was seen to be.
func TestPickOfNoneThatIsElsewhere(t *testing.T) {
	for place := range 9 {
		for _, n := range []int{1, 2, 200} {
			p := begin(t, many(n, 7), many(n, place))
			if got := p.pick(t, 7); got >= 0 != (place == 3) {
				t.Error(place, got)
			}
			p.check(t)
		}
		p := begin(t, many(3, 7), []int{place, 3, place})
		want := 1
		if place == 3 {
			want = 0
		}
		if got := p.pick(t, 7); got != want {
			t.Error(place, got)
		}
		p.check(t)
	}
}

func TestPickOfNoSuchSKU(t *testing.T) {
	for _, sku := range someSKUs() {
		p := begin(t, many(200, sku), many(200, 3))
		for _, other := range someSKUs() {
			if other != sku {
				p.pick(t, other)
			}
		}
		p.check(t)
		if got := p.pick(t, sku); got != 0 {
			t.Error(sku, got)
		}
		p.check(t)
	}
}

// Each SKU has its own, be it 0 or below.
func TestPickOfEachSKU(t *testing.T) {
	p := begin(t, append(someSKUs(), someSKUs()...), many(2*len(someSKUs()), 3))
	for _, first := range []int{0, len(someSKUs())} {
		for k, sku := range someSKUs() {
			if got := p.pick(t, sku); got != first+k {
				t.Error(sku, got)
			}
			p.check(t)
		}
	}
	for _, sku := range someSKUs() {
		p.pick(t, sku)
	}
	p.check(t)
}

// A unit that there isn't has the SKU -1; it is never picked.
func TestPickOfTheSKUOfNoUnit(t *testing.T) {
	for _, n := range []int{0, 1, 200} {
		p := begin(t, many(n, 7), many(n, 3))
		if got := p.pick(t, -1); got >= 0 {
			t.Error(n, got)
		}
		p.check(t)
	}
}

func TestPickOfAllOneByOne(t *testing.T) {
	for _, n := range []int{1, 2, 9, 199, 200} {
		p := begin(t, many(n, 7), many(n, 3))
		for want := range n {
			if got := p.pick(t, 7); got != want {
				t.Fatal(n, want, got)
			}
		}
		p.check(t)
		p.pick(t, 7)
		p.check(t)
	}
}

// What is sellable again is picked again, the least first.
func TestPickOfWhatIsSellableAgain(t *testing.T) {
	p := begin(t, []int{7, 7, 7}, []int{3, 3, 0})
	p.pick(t, 7)
	p.pick(t, 7)
	for _, to := range []int{1, 2, 3} {
		p.move(t, 2, to)
	}
	p.move(t, 1, 3)
	p.check(t)
	for _, want := range []int{1, 2, -1} {
		if got := p.pick(t, 7); got != want {
			t.Error(want, got)
		}
		p.check(t)
	}
	p.move(t, 0, 3)
	if got := p.pick(t, 7); got != 0 {
		t.Error(got)
	}
	p.move(t, 0, 8)
	p.pick(t, 7)
	p.check(t)
}
