package command_test

import (
	"math"
	"slices"

	"recoup/command"
)

const (
	greatest = math.MaxInt
	smallest = math.MinInt
)

// allKinds are the kinds of commands.
func allKinds() []int { return []int{1, 2, 3, 4, 5, 6, 7, 8} }

// sample is a formed command of a kind, nothing of which that it needs is zero.
func sample(kind int) command.Command {
	switch kind {
	case 1:
		return command.Command{Kind: 1, Order: 2, Units: []int{3, 4, 250}, Reason: 1, Want: 258, Credit: true}
	case 6:
		return command.Command{Kind: 6, RMA: 772, Unit: 5, Grade: 3}
	case 7:
		return command.Command{Kind: 7, Days: 1290}
	case 8:
		return command.Command{Kind: 8, Key: 67305985, Yes: true}
	}
	return command.Command{Kind: kind, RMA: 500 + kind}
}

// many is a Request of n units, some of them alike.
func many(n int) command.Command {
	c := command.Command{Kind: 1, Order: n % 20}
	for k := range n {
		c.Units = append(c.Units, k*77%256)
	}
	return c
}

// someCommands are formed, small and large.
func someCommands() []command.Command {
	l := []command.Command{
		{Kind: 1, Units: []int{0}},
		{Kind: 1, Order: 255, Units: slices.Repeat([]int{255}, 60), Reason: 255, Want: 65535, Credit: true},
		{Kind: 1, Order: 7, Units: []int{9, 9, 1}, Reason: 4, Want: 1001},
		{Kind: 6}, {Kind: 6, RMA: 65535, Unit: 255, Grade: 255}, {Kind: 7}, {Kind: 7, Days: 65535},
		{Kind: 8}, {Kind: 8, Yes: true}, {Kind: 8, Key: 1<<32 - 1}, {Kind: 8, Key: 1<<32 - 1, Yes: true},
		many(2), many(5), many(59), many(60),
	}
	for kind := 2; kind <= 5; kind++ {
		l = append(l, command.Command{Kind: kind}, command.Command{Kind: kind, RMA: 65535})
	}
	for _, kind := range allKinds() {
		l = append(l, sample(kind))
	}
	return l
}

// number is one of a command's, with the kinds that need it, and the greatest
// that goes into its bytes.
type number struct {
	of    *int
	kinds []int
	most  int
}

func (n number) isNeeded(kind int) bool { return slices.Contains(n.kinds, kind) }

// numbers are all of a command's but its kind and its units.
func numbers(c *command.Command) []number {
	return []number{
		{&c.Order, []int{1}, 1<<8 - 1}, {&c.Reason, []int{1}, 1<<8 - 1}, {&c.Want, []int{1}, 1<<16 - 1},
		{&c.RMA, []int{2, 3, 4, 5, 6}, 1<<16 - 1}, {&c.Unit, []int{6}, 1<<8 - 1}, {&c.Grade, []int{6}, 1<<8 - 1},
		{&c.Days, []int{7}, 1<<16 - 1}, {&c.Key, []int{8}, 1<<32 - 1},
	}
}

// with is a kind's sample, one number of which has another value.
func with(kind, at, v int) command.Command {
	c := sample(kind)
	*numbers(&c)[at].of = v
	return c
}

// units are a Request of these.
func units(l ...int) command.Command {
	c := sample(1)
	c.Units = l
	return c
}

// beyond are numbers that go into no bytes here; some of them do, if they lose
// their upper half or their sign.
func beyond() []int {
	return []int{-1, -2, -255, -256, -65536, -1 << 32, -1<<32 + 1, 1 << 32, 1<<32 + 1, 1 << 40, 1 << 62, 1<<62 + 3, greatest, greatest - 1, smallest, smallest + 1, smallest + 7}
}

// wrongCommands aren't formed, but may be held against each other.
func wrongCommands() []command.Command {
	l := []command.Command{
		{}, {Kind: 9}, {Kind: 255}, {Kind: 256}, {Kind: 257}, {Kind: -1}, {Kind: smallest + 7, Days: 3}, {Kind: 1<<32 + 7, Days: 3},
		{Kind: 0, RMA: 1}, {Kind: 9, RMA: 1}, {Kind: 0, Units: []int{1}}, {Kind: 9, Units: []int{1}},
		units(), many(61), many(255), many(256), many(257), many(316), units(256), units(3, -1), units(3, 256, 4), units(1<<32+4, 3),
	}
	for _, kind := range allKinds() {
		c := sample(kind)
		for at, n := range numbers(&c) {
			if n.isNeeded(kind) {
				l = append(l, with(kind, at, n.most+1), with(kind, at, -1))
			} else {
				l = append(l, with(kind, at, 1))
			}
		}
		if kind != 1 {
			c.Units = []int{1}
			l = append(l, c)
			c = sample(kind)
			c.Credit = true
			l = append(l, c)
		}
		if kind != 8 {
			c = sample(kind)
			c.Yes = true
			l = append(l, c)
		}
	}
	return l
}
