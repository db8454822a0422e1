package rule_test

import "recoup/api"

// sample is a right policy that has no two fees and no two shares alike.
func sample() api.Policy {
	return api.Policy{
		Window: 30,
		Fee:    [4]int{0, 1000, 3333, 10000},
		Grades: [4]api.Grade{{Share: 10000, To: 3}, {Share: 5000, To: 4}, {Share: 1, To: 5}, {}},
	}
}

// with is a policy, one of whose numbers is v.
func with(p api.Policy, n, v int) api.Policy {
	*numbers(&p)[n] = v
	return p
}

// ofKind is a policy with its kinds told by bits: 1 Final, 2 Exchange, 4 Credit.
func ofKind(p api.Policy, k int) api.Policy {
	p.Final, p.Exchange, p.Credit = k&1 > 0, k&2 > 0, k&4 > 0
	return p
}

// withOne is a policy, all of whose reasons have a fee, and all of whose grades
// have a share.
func withOne(fee, share int) api.Policy {
	p := api.Policy{Fee: [4]int{fee, fee, fee, fee}}
	for n := range p.Grades {
		p.Grades[n] = api.Grade{Share: share, To: 3}
	}
	return p
}

// rightPolicies are of each kind, with the ends of all that they have.
func rightPolicies() []api.Policy {
	low := api.Policy{}
	high := withOne(10000, 10000)
	high.Window = 1000
	some := withOne(9999, 1)
	some.Window, some.Grades = 1, [4]api.Grade{{}, {Share: 9999, To: 5}, {To: 4}, {Share: 1, To: 3}}
	var l []api.Policy
	for k := range 8 {
		for _, p := range []api.Policy{low, high, some, sample(), withOne(0, 10000)} {
			l = append(l, ofKind(p, k))
		}
	}
	return l
}

// wrongPolicies have one number each that isn't right, and some have more; of
// most of it no call but the one to which it matters would take notice.
func wrongPolicies() []api.Policy {
	high := withOne(10000, 10000)
	high.Window = 1000
	l := []api.Policy{with(sample(), 0, 1001), withOne(-1, 10001), with(with(sample(), 0, smallest), 1, greatest)}
	for n := range numbers(&high) {
		for _, v := range []int{-1, 10001, 1 << 16, 1 << 32, 1<<32 + 3, smallest, smallest + 3, greatest} {
			l = append(l, with(sample(), n, v), ofKind(with(high, n, v), n%8))
		}
	}
	for n := range 4 {
		for _, to := range []int{0, 1, 2, 6, 7, 255, 259} {
			l = append(l, with(high, 9+n, to))
		}
		l = append(l, with(with(sample(), 9+n, 0), 5+n, 1))
	}
	return l
}

// someDays are at, and one off, what a policy may name and what a machine's
// numbers end at.
func someDays(window int) []int {
	return []int{
		smallest, smallest + 1, -1 << 32, -1<<32 + 1, -1001, -1000, -window - 1, -window, -2, -1, 0, 1, 2, window - 1, window, window + 1,
		999, 1000, 1001, 9999, 100000, 100001, 1 << 16, 1 << 32, 1<<32 + 1, 1 << 62, greatest - 1, greatest,
	}
}

// rightOnes are all reasons, or grades.
func rightOnes() []int { return []int{0, 1, 2, 3} }

// wrongOnes are no reasons and no grades; some of them are, if they lose their
// upper half or their sign, or are told round 4.
func wrongOnes() []int {
	return []int{-1, -2, -3, -4, 4, 5, 7, 8, 9, 255, 256, 257, 1 << 16, 1 << 32, 1<<32 + 1, 1<<32 + 3, -1 << 32, 1 << 62, greatest, greatest - 1, smallest, smallest + 1, smallest + 3}
}

// rightSums are some shares, with both ends.
func rightSums() []int64 {
	return []int64{0, 1, 2, 3, 99, 100, 101, 333, 999, 1000, 1001, 4999, 5000, 9999, 10000, 10001, 19999, 20000, 1 << 30, 1 << 32, most/2 + 1, most - 1, most}
}

// wrongSums are below 0, or above MaxCents; some of them are right sums, but
// none is a share.
func wrongSums() []int64 {
	return []int64{
		-1, -2, -10000, least + 1, least, least - 1, -1 << 62, smallest + 1, smallest + 5, smallest,
		most + 1, most + 2, 1 << 51, 1<<51 + 1, 1 << 62, 1<<62 + 1, greatest - 1, greatest,
	}
}

// somePoints are some fees, and shares, with both ends.
func somePoints() []int {
	return []int{0, 1, 2, 100, 1500, 3333, 4999, 5000, 5001, 6667, 9998, 9999, 10000}
}
