package timer_test

import "recoup/timer"

// someNumbers are of any kind; some are alike, if they lose their upper half or
// their sign, or are told apart by what is left when one is taken from another.
func someNumbers() []int {
	return []int{0, 1, 2, 3, 5, 7, 100, 1000, 65536, 65537, -1, -2, -3, -5, -65536, 1 << 32, 1<<32 + 1, -1 << 32, 1 << 62, -1 << 62, greatest, greatest - 1, smallest, smallest + 1}
}

// pairs are a timer of each of the numbers on each of the days.
func pairs(numbers, days []int) []timer.Timer {
	var l []timer.Timer
	for _, number := range numbers {
		for _, day := range days {
			l = append(l, timer.Timer{Day: day, Number: number})
		}
	}
	return l
}

// orders calls f with a list in every order.
func orders(l []timer.Timer, f func([]timer.Timer)) {
	var put func(ahead, rest []timer.Timer)
	put = func(ahead, rest []timer.Timer) {
		if len(rest) == 0 {
			f(ahead)
		}
		for k := range rest {
			less := append(append([]timer.Timer{}, rest[:k]...), rest[k+1:]...)
			put(append(append([]timer.Timer{}, ahead...), rest[k]), less)
		}
	}
	put(nil, l)
}
