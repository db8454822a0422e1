package outbox_test

import (
	"slices"
	"testing"

	"recoup/api"
	"recoup/outbox"
)

// The day before, the day itself, the day after.
func TestAgainAroundADay(t *testing.T) {
	for _, day := range []int{3, 0, 1, -1, -7, 100000, 1 << 32, -1 << 32, smallest + 1} {
		for kind := outbox.Label; kind <= outbox.Back; kind++ {
			for _, c := range []struct{ now, n int }{{smallest, 0}, {day - 1, 0}, {day, 1}, {day + 1, 1}, {day + 1000, 1}} {
				p := load(t, 5, message(2, kind, 1, day))
				said, over := p.say(t, c.now)
				p.check(t)
				if len(said) != c.n || len(over) != 0 || c.n == 1 && (said[0].Tries != 2 || said[0].Due != c.now+2) {
					t.Error(day, kind, c.now, said, over)
				}
			}
		}
	}
}

// A message waits for 1, 2, 4, 8 and then always 8 days.
func TestAgainAndAgain(t *testing.T) {
	for kind := outbox.Pay; kind <= outbox.Back; kind++ {
		p := begin()
		p.put(t, kind, 6, 77, 10)
		for k, day := range []int{11, 13, 17, 25, 33, 41, 49, 57, 65, 73, 81, 89, 97} {
			if said, over := p.say(t, day-1); len(said) != 0 || len(over) != 0 {
				t.Error(kind, day, said, over)
			}
			said, over := p.say(t, day)
			want := outbox.Message{Key: 1, Kind: kind, RMA: 6, Value: 77, Tries: k + 2, Due: day + min(8, 2<<k)}
			if len(over) != 0 || !slices.Equal(said, []outbox.Message{want}) {
				t.Error(kind, day, said, over)
			}
			if said, over := p.say(t, day); len(said) != 0 || len(over) != 0 {
				t.Error(kind, day, "twice", said, over)
			}
			p.check(t)
		}
	}
}

// A label is said five times, then it is there no more.
func TestALabelIsGivenUp(t *testing.T) {
	p := begin()
	p.put(t, outbox.Label, 6, 0, 10)
	for k, day := range []int{11, 13, 17, 25} {
		said, over := p.say(t, day)
		if len(said) != 1 || said[0].Tries != k+2 || len(over) != 0 {
			t.Error(day, said, over)
		}
	}
	if said, over := p.say(t, 32); len(said) != 0 || len(over) != 0 {
		t.Error(said, over)
	}
	said, over := p.say(t, 33)
	want := outbox.Message{Key: 1, Kind: 1, RMA: 6, Tries: api.LabelTries, Due: 33}
	if len(said) != 0 || !slices.Equal(over, []outbox.Message{want}) || len(p.o.All()) != 0 {
		t.Error(said, over, p.o.All())
	}
	p.check(t)
	for _, day := range []int{33, 34, 41, 1000} {
		if said, over := p.say(t, day); len(said) != 0 || len(over) != 0 {
			t.Error(day, said, over)
		}
	}
}

// Of any kind, said any times: only labels are given up, and only those that
// were said LabelTries times.
func TestWhatIsGivenUp(t *testing.T) {
	for kind := outbox.Label; kind <= outbox.Back; kind++ {
		for _, tries := range []int{1, 2, 3, 4, 5, 6, 7, 8, 9, 64, 65, 100, 256, 257, 260, 261, 1 << 32, 1<<32 + 1, greatest - 1} {
			for _, now := range []int{20, 21, 28, 90} {
				p := load(t, 9, message(4, kind, tries, 20))
				if said, over := p.say(t, 19); len(said)+len(over) != 0 {
					t.Error(kind, tries, said, over)
				}
				said, over := p.say(t, now)
				isOver := kind == 1 && tries >= 5
				if isOver != (len(over) == 1) || isOver == (len(said) == 1) || isOver != (len(p.o.All()) == 0) {
					t.Error(kind, tries, now, said, over)
				}
				if isOver && over[0] != message(4, kind, tries, 20) {
					t.Error("it was", over[0])
				}
				p.check(t)
			}
		}
	}
}

// What is put of no kind is said again and again, too.
func TestWhatIsNoLabelIsNotGivenUp(t *testing.T) {
	for _, kind := range append(noKinds(), 2, 3, 4) {
		p := begin()
		p.put(t, kind, 6, 77, 0)
		for k := range 12 {
			said, over := p.say(t, 10*k+10)
			if len(said) != 1 || len(over) != 0 || said[0].Tries != k+2 {
				t.Error(kind, k, said, over)
			}
		}
		p.check(t)
	}
}

// It waits from the day on which it is said, not from the one on which it was
// due.
func TestItWaitsFromTheDayItIsSaid(t *testing.T) {
	for _, late := range []int{0, 1, 2, 7, 100} {
		for tries := 1; tries < 7; tries++ {
			p := load(t, 2, message(1, outbox.Pay, tries, 50))
			said, _ := p.say(t, 50+late)
			if len(said) != 1 || said[0].Due != 50+late+dueWait(tries+1) || said[0].Tries != tries+1 {
				t.Error(late, tries, said)
			}
			p.check(t)
			p.checkDays(t)
		}
	}
}

// Both lists are by keys, whatever the days.
func TestAgainIsByKeys(t *testing.T) {
	l := []outbox.Message{
		message(2, 1, 5, 9), message(3, 2, 3, 8), message(5, 1, 5, 1), message(6, 1, 4, 9), message(7, 1, 7, 4), message(11, 4, 1, 7),
		message(12, 1, 5, 10), message(14, 3, 9, -5), message(15, 2, 1, 10), message(16, 1, 5, 9), message(17, 3, 2, 9), message(1<<40, 1, 9, 0),
	}
	for _, c := range []struct {
		now              int
		said, over, left []int
	}{
		{-6, nil, nil, []int{2, 3, 5, 6, 7, 11, 12, 14, 15, 16, 17, 1 << 40}},
		{0, []int{14}, []int{1 << 40}, []int{2, 3, 5, 6, 7, 11, 12, 14, 15, 16, 17}},
		{7, []int{11, 14}, []int{5, 7, 1 << 40}, []int{2, 3, 6, 11, 12, 14, 15, 16, 17}},
		{9, []int{3, 6, 11, 14, 17}, []int{2, 5, 7, 16, 1 << 40}, []int{3, 6, 11, 12, 14, 15, 17}},
		{10, []int{3, 6, 11, 14, 15, 17}, []int{2, 5, 7, 12, 16, 1 << 40}, []int{3, 6, 11, 14, 15, 17}},
	} {
		p := load(t, 1<<40+1, l...)
		said, over := p.o.Clone().Again(c.now)
		if !slices.Equal(keys(said), c.said) || !slices.Equal(keys(over), c.over) {
			t.Error(c.now, said, over)
		}
		p.say(t, c.now)
		p.check(t)
		if got := keys(p.o.All()); !slices.Equal(got, c.left) {
			t.Error(c.now, got)
		}
		p.checkDays(t)
	}
}

func keys(l []outbox.Message) []int {
	var k []int
	for _, m := range l {
		k = append(k, m.Key)
	}
	return k
}

// What isn't due is as it was, also on an earlier day than the last one.
func TestAgainOfAnEarlierDay(t *testing.T) {
	p := load(t, 4, message(1, 2, 1, 5), message(2, 1, 5, 9), message(3, 3, 2, 6))
	p.say(t, 7)
	p.put(t, 2, 1, 5, 3)
	for _, now := range []int{3, 4, 2, 8, 9, 8, 10, 11, 9} {
		p.say(t, now)
		p.check(t)
	}
	p.checkDays(t)
}

func TestAgainOfTheEdges(t *testing.T) {
	for _, now := range []int{smallest, smallest + 1, -1, 0, 1, greatest - 8, greatest - 1, greatest} {
		p := load(t, 9, message(1, 2, 1, smallest), message(2, 2, 1, greatest), message(3, 1, 5, 0), message(4, 1, 5, greatest), message(5, 4, 1, -1), message(6, 4, 3, greatest-1), message(8, 1, 5, smallest))
		p.say(t, now)
		p.check(t)
		p.say(t, now)
		p.check(t)
	}
}

// What was heard or dropped is said no more, though its day has come.
func TestOnlyWhatIsThereIsSaid(t *testing.T) {
	for round := range 4 {
		p := mixed(12)
		for key := 1; key <= 12; key++ {
			switch (key + round) % 4 {
			case 0:
				p.heard(t, key)
			case 1:
				p.drop(t, (key-1)%3, (key-1)%4+1)
			}
		}
		p.check(t)
		for day := range 60 {
			p.say(t, day)
		}
		p.check(t)
	}
}
