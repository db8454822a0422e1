package outbox_test

import (
	"math/rand"
	"slices"
	"testing"

	"recoup/outbox"
)

// some is a number below n, or one of any kind.
func some(r *rand.Rand, n int) int {
	if r.Intn(25) == 0 {
		return someNumbers()[r.Intn(len(someNumbers()))]
	}
	return r.Intn(n)
}

// step does one thing on a day, and tells how many messages were said again, and
// how many given up.
func (p pair) step(t *testing.T, r *rand.Rand, now int) (said, over int) {
	switch r.Intn(8) {
	case 0, 1:
		p.heard(t, some(r, p.next+2))
	case 2:
		p.drop(t, some(r, 6), some(r, 5))
	case 3, 4:
		a, b := p.say(t, now)
		return len(a), len(b)
	default:
		p.put(t, r.Intn(4)+1, some(r, 6), int64(some(r, 1000)), now)
	}
	return 0, 0
}

// Beside an outbox told by another hand: what is done and told.
func TestAnyStepsAreDue(t *testing.T) {
	r := rand.New(rand.NewSource(1))
	said, over := 0, 0
	for range 300 {
		p, now := begin(), r.Intn(10)
		for range r.Intn(200) {
			a, b := p.step(t, r, now)
			said, over = said+a, over+b
			now += r.Intn(4)
			if r.Intn(5) == 0 {
				p.check(t)
			}
		}
		p.check(t)
		p.checkDays(t)
	}
	if said < 1000 || over < 30 {
		t.Error(said, over)
	}
}

// Two go on from the same, each its own way.
func TestAnyClonesAreDue(t *testing.T) {
	r := rand.New(rand.NewSource(2))
	for range 200 {
		p, now := begin(), 0
		for range r.Intn(60) {
			p.step(t, r, now)
			now += r.Intn(4)
		}
		c := p.clone()
		for range r.Intn(60) {
			if r.Intn(2) == 0 {
				p.step(t, r, now)
			} else {
				c.step(t, r, now)
			}
			now += r.Intn(4)
		}
		p.check(t)
		c.check(t)
		p.checkDays(t)
		c.checkDays(t)
	}
}

// isRight tells by another hand whether there is an outbox of these.
func isRight(next int, l []outbox.Message) bool {
	seen := map[int]bool{}
	for k, m := range l {
		if k > 0 && m.Key < l[k-1].Key || seen[m.Key] {
			return false
		}
		seen[m.Key] = true
		if m.Key <= 0 || next <= m.Key || m.Tries <= 0 || !slices.Contains([]int{1, 2, 3, 4}, m.Kind) {
			return false
		}
	}
	return next > 0
}

// Of any messages: whether they are loaded, and what is said of them then.
func TestAnyMessagesAreLoaded(t *testing.T) {
	r := rand.New(rand.NewSource(3))
	right := 0
	for range 5000 {
		var l []outbox.Message
		key := 0
		for range r.Intn(6) {
			key += 1 + r.Intn(3)
			l = append(l, message(key, 1+r.Intn(4), 1+r.Intn(9), r.Intn(30)))
		}
		next := key + 1 + r.Intn(3)
		if r.Intn(2) == 0 {
			next = some(r, key+3)
		}
		if len(l) > 0 && r.Intn(2) == 0 {
			m := &l[r.Intn(len(l))]
			*[]*int{&m.Key, &m.Kind, &m.Tries, &m.Due}[r.Intn(4)] = some(r, 12)
		}
		if !isRight(next, l) {
			mustNotLoad(t, next, l...)
			continue
		}
		right++
		p := load(t, next, l...)
		p.say(t, r.Intn(30))
		p.check(t)
	}
	if right < 1500 || right > 4500 {
		t.Error(right)
	}
}

// Every way of so many calls, of few numbers and days.
func mustGoOn(t *testing.T, p pair, left int) {
	p.check(t)
	if left == 0 {
		return
	}
	for _, f := range []func(pair){
		func(p pair) { p.put(t, outbox.Label, 1, 5, 0) },
		func(p pair) { p.put(t, outbox.Pay, 1, 5, 1) },
		func(p pair) { p.put(t, outbox.Pay, 2, 6, 0) },
		func(p pair) { p.heard(t, 1) },
		func(p pair) { p.heard(t, 2) },
		func(p pair) { p.drop(t, 1, outbox.Label) },
		func(p pair) { p.drop(t, 1, outbox.Pay) },
		func(p pair) { p.say(t, 1) },
		func(p pair) { p.say(t, 2) },
	} {
		c := p.clone()
		f(c)
		mustGoOn(t, c, left-1)
	}
}

func TestEveryWayOfFourCalls(t *testing.T) { mustGoOn(t, begin(), 4) }

// The same, of labels that are given up soon.
func TestEveryWayBehindLoad(t *testing.T) {
	mustGoOn(t, load(t, 3, message(1, outbox.Label, 4, 1), message(2, outbox.Label, 5, 2)), 4)
}
