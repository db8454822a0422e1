package stock_test

import "slices"

// noPlaces are none of 0 to 8; some of them are, if they lose their upper half
// or their sign, or are told round 9.
func noPlaces() []int {
	return []int{-1, -2, -3, -7, -8, -9, 9, 10, 11, 16, 17, 18, 255, 256, 257, 264, 1 << 16, 1<<16 + 3, 1 << 32, 1<<32 + 1, 1<<32 + 3, 1<<32 + 8, -1 << 32,
		1 << 62, greatest, greatest - 1, smallest, smallest + 1, smallest + 3, smallest + 8}
}

// allPlaces are the places, and some that are none.
func allPlaces() []int { return append([]int{0, 1, 2, 3, 4, 5, 6, 7, 8}, noPlaces()...) }

// noUnits are none of n units; some of them are, if they lose their upper half
// or their sign, or are told round n.
func noUnits(n int) []int {
	return []int{-1, -2, -n, -n - 1, n, n + 1, 2*n + 1, n + 199, n + 255, n + 256, n + 1<<16, n + 1<<32, 1 << 32, 1<<32 + 1, -1 << 32, 1 << 62, greatest, greatest - 1, smallest, smallest + 1}
}

// someSKUs are of any kind; some are alike, if they lose their upper half or
// their sign.
func someSKUs() []int {
	return []int{0, 1, 2, -1, -2, 7, 1000, 1001, 65536, 65537, 1 << 32, 1<<32 + 1, -1 << 32, 1 << 62, greatest, greatest - 1, smallest, smallest + 1}
}

// many is a list of n alike.
func many(n, with int) []int { return slices.Repeat([]int{with}, n) }

// around is a list of n, from 0 round again and again.
func around(n, round int) []int {
	l := make([]int, n)
	for k := range l {
		l[k] = k % round
	}
	return l
}
