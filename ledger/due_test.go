package ledger_test

import (
	"math"
	"math/big"
	"testing"

	"recoup/api"
	"recoup/ledger"
)

const (
	most     = 1 << 50
	least    = -most
	greatest = math.MaxInt64
	smallest = math.MinInt64
)

// of is a short way to write a ledger.
func of(have ...int64) ledger.Ledger {
	var l ledger.Ledger
	copy(l.Have[:], have)
	return l
}

// with is the ledger in which one account has something else.
func with(l ledger.Ledger, account int, have int64) ledger.Ledger {
	l.Have[account] = have
	return l
}

// posting is what is asked of Post.
type posting struct {
	l        ledger.Ledger
	from, to int
	sum      int64
}

// mustPost checks a posting that isn't refused.
func mustPost(t *testing.T, p posting, want ledger.Ledger) {
	t.Helper()
	if got, e := ledger.Post(p.l, p.from, p.to, p.sum); e != api.OK || got != want {
		t.Errorf("of %v: %v, %d; want %v", p, got, e, want)
	}
}

// mustNotPost checks that a posting is an error alone.
func mustNotPost(t *testing.T, p posting, want api.Errno) {
	t.Helper()
	if got, e := ledger.Post(p.l, p.from, p.to, p.sum); e != want || got != of() {
		t.Errorf("of %v: %v, %d; want error %d alone", p, got, e, want)
	}
}

// mustBeDue checks a posting with what is due.
func mustBeDue(t *testing.T, p posting) {
	t.Helper()
	if e := dueError(p); e != 0 {
		mustNotPost(t, p, e)
		return
	}
	mustPost(t, p, duePost(p))
}

// mustTell checks what is told of a ledger, with what is due.
func mustTell(t *testing.T, l ledger.Ledger) {
	t.Helper()
	if got := ledger.Total(l); got != dueTotal(l) {
		t.Errorf("total of %v: %d; want %d", l, got, dueTotal(l))
	}
	for account := -3; account < 8; account++ {
		if got := ledger.Balance(l, account); got != dueBalance(l, account) {
			t.Errorf("balance of %v, %d: %d; want %d", l, account, got, dueBalance(l, account))
		}
	}
}

// The dues are told by another hand: with numbers of any length, and each
// account by its own name.

func number(v int64) *big.Int { return big.NewInt(v) }

// isRight tells whether a number is from -MaxCents to MaxCents.
func isRight(v *big.Int) bool { return v.CmpAbs(number(1<<50)) <= 0 }

// dueBalance is 0 of no account.
func dueBalance(l ledger.Ledger, account int) int64 {
	switch account {
	case 0:
		return l.Have[0]
	case 1:
		return l.Have[1]
	case 2:
		return l.Have[2]
	case 3:
		return l.Have[3]
	case 4:
		return l.Have[4]
	}
	return 0
}

func isNone(account int) bool {
	switch account {
	case 0, 1, 2, 3, 4:
		return false
	}
	return true
}

func dueError(p posting) api.Errno {
	sum := number(p.sum)
	if isNone(p.from) || isNone(p.to) || p.from == p.to || sum.Sign() < 0 {
		return 1
	}
	from, to := number(dueBalance(p.l, p.from)), number(dueBalance(p.l, p.to))
	for _, v := range []*big.Int{sum, from, to, new(big.Int).Sub(from, sum), new(big.Int).Add(to, sum)} {
		if !isRight(v) {
			return 9
		}
	}
	return 0
}

// duePost is of a posting without an error.
func duePost(p posting) ledger.Ledger {
	less := new(big.Int).Sub(number(dueBalance(p.l, p.from)), number(p.sum))
	more := new(big.Int).Add(number(dueBalance(p.l, p.to)), number(p.sum))
	return with(with(p.l, p.from, less.Int64()), p.to, more.Int64())
}

// dueTotal is what all have, the 64 bits at the low end of it.
func dueTotal(l ledger.Ledger) int64 {
	all := new(big.Int)
	for account := range 5 {
		all.Add(all, number(dueBalance(l, account)))
	}
	round := new(big.Int).Lsh(number(1), 64)
	return int64(all.Mod(all, round).Uint64())
}

// rightSums are some sums that a posting may have, with both ends.
func rightSums() []int64 { return []int64{0, 1, 2, 100, most - 1, most} }

// highSums are above MaxCents; some of them are right, if they wrap round or
// lose their upper half.
func highSums() []int64 {
	return []int64{most + 1, most + 2, 1 << 51, 1<<51 + 1, 1 << 52, 1 << 62, 1<<62 + 1, greatest - 1, greatest}
}

// lowSums are below 0; some of them are right sums of an account, but none is
// one of a posting.
func lowSums() []int64 {
	return []int64{-1, -2, -100, least + 1, least, least - 1, -1 << 51, -1 << 62, smallest + 1, smallest + 5, smallest}
}

// wrongHaves are beyond MaxCents or -MaxCents.
func wrongHaves() []int64 {
	return append(highSums(), least-1, least-2, -1<<51, -1<<62, smallest+5, smallest+1, smallest)
}

// noAccounts are none of 0 to 4; some of them are, if they lose their upper
// half or their sign, or are told round 5.
func noAccounts() []int {
	return []int{-1, -2, -4, -5, 5, 6, 9, 10, 255, 256, 257, 1 << 16, 1 << 32, 1<<32 + 1, 1<<32 + 4, -1 << 32, 1 << 62, greatest, greatest - 1, smallest, smallest + 1, smallest + 4}
}

// someLedgers are right, in part, or not at all.
func someLedgers() []ledger.Ledger {
	return []ledger.Ledger{
		of(), of(-5, 5), of(-60, 10, 20, 30), of(1, 2, 3, 4, 5), of(most, most, most, most, most), of(least, least, least, least, least),
		of(most, least, most, least), of(most+1, least-1, most+1, least-1, 7), of(greatest, smallest, greatest, smallest, greatest), of(smallest, smallest, smallest, smallest, smallest),
	}
}
