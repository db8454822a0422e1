package order_test

import (
	"bytes"
	"encoding/binary"
	"slices"
	"testing"

	"recoup/api"
)

func TestBytesCutShortAreNone(t *testing.T) {
	for _, c := range someConfigs() {
		b := dueBytes(c)
		for n := range b {
			mustNotDecode(t, b[:n])
			mustNotDecode(t, bytes.Clone(b[:n]))
		}
	}
	mustNotDecode(t, nil)
	mustNotDecode(t, []byte{})
}

func TestBytesBehindAConfigAreNone(t *testing.T) {
	for _, c := range someConfigs() {
		b := dueBytes(c)
		for _, more := range []int{1, 2, 10, 11, 12, 23, 29, 41, 1000} {
			mustNotDecode(t, append(bytes.Clone(b), make([]byte, more)...))
			mustNotDecode(t, append(bytes.Clone(b), bytes.Repeat([]byte{1}, more)...))
		}
		mustNotDecode(t, append(bytes.Clone(b), b...))
		mustNotDecode(t, append([]byte{0}, b...))
		mustNotDecode(t, b[1:])
	}
}

// Each byte, with each value it can have.
func TestEachByteIsAsked(t *testing.T) {
	for _, c := range []api.Config{sample(), {}, single(api.Order{Tax: 5}, 0, 3), manySupplies(3)} {
		right := 0
		b := dueBytes(c)
		for at, was := range b {
			for v := range 256 {
				b[at] = byte(v)
				if mustDecodeAsDue(t, b) {
					right++
				}
			}
			b[at] = was
		}
		if right < len(b) || right > len(b)*200 {
			t.Error(right, "are right")
		}
	}
}

// Two bytes at once: what one says may be made good by the other.
func TestEachTwoBytesAreAsked(t *testing.T) {
	b := dueBytes(api.Config{Table: policies(1), Supplies: manySupplies(2).Supplies})
	for one := range b {
		for other := range one {
			for _, v := range []byte{0, 1, 2, 255} {
				for _, w := range []byte{0, 1, 2, 255} {
					c := bytes.Clone(b)
					c[one], c[other] = v, w
					mustDecodeAsDue(t, c)
				}
			}
		}
	}
}

// Each number, with its bytes alone changed to what isn't right.
func TestBytesOfWrongNumbersAreNone(t *testing.T) {
	c := sample()
	for k, n := range numbers(&c) {
		for _, v := range append(wrongNumbers(), n.least-1, n.most+1, 1001, 51, 100001) {
			// Of a wrong number some bytes alone go in: they may be a right one's.
			mustDecodeAsDue(t, dueBytes(with(sample, int64(k), v)))
		}
		if n.least-1 >= 0 {
			mustNotDecode(t, dueBytes(with(sample, int64(k), n.least-1)))
		}
		mustNotDecode(t, dueBytes(with(sample, int64(k), n.most+1)))
	}
}

func TestBytesOfTooManyAreNone(t *testing.T) {
	for n := 21; n < 256; n++ {
		mustNotDecode(t, dueBytes(manyOrders(n)))
		mustNotDecode(t, dueBytes(manySupplies(n)))
	}
	for n := range 256 {
		if n == 0 || n > 8 {
			mustNotDecode(t, dueBytes(manyLines(n)))
		}
	}
	mustDecode(t, dueBytes(manyOrders(20)), manyOrders(20))
	mustDecode(t, dueBytes(manySupplies(20)), manySupplies(20))
	mustDecode(t, dueBytes(manyLines(8)), manyLines(8))
}

func TestBytesOfWrongConfigsAreNone(t *testing.T) {
	twice := manySupplies(20)
	twice.Supplies[19].SKU = 1
	foreign := sample()
	foreign.Table = policies(2)
	free := sample()
	free.Orders[1].Discount = 70001
	for _, c := range []api.Config{
		twice, foreign, free,
		manyUnits(8, append(alike(4, 50), 1), nil), manyUnits(8, nil, append(alike(4, 50), 1)), manyUnits(8, alike(160, 1), append(alike(19, 2), 3)),
		manyUnits(8, []int{5, 0}, nil), manyUnits(8, nil, []int{0, 5}), manyUnits(8, alike(160, 255), alike(20, 255)),
	} {
		mustBeWrong(t, c)
		mustNotDecode(t, dueBytes(c))
	}
}

// The numbers of orders, lines and supplies are how many there are.
func TestHowManyThereAreIsAsked(t *testing.T) {
	b := dueBytes(sample())
	orders := 2 + 2 + 23*3
	lines := orders + 1 + 4 + 3*8
	supplies := len(b) - 1 - 3*11
	if b[orders] != 3 || b[lines] != 2 || b[supplies] != 3 {
		t.Fatal(b)
	}
	for _, at := range []int{orders, lines, supplies} {
		was := b[at]
		for v := range 256 {
			b[at] = byte(v)
			if right := mustDecodeAsDue(t, b); right != (b[at] == was) {
				t.Error(at, v, right)
			}
		}
		b[at] = was
	}
}

// How long the table is, told as any number.
func TestTheTablesBytesAreAsMany(t *testing.T) {
	for _, c := range []api.Config{sample(), {}, {Table: policies(1)}} {
		b := dueBytes(c)
		was := int(binary.LittleEndian.Uint16(b))
		for n := range 1 << 16 {
			b[0], b[1] = byte(n), byte(n>>8)
			if n != was {
				mustNotDecode(t, b)
			}
		}
	}
}

// A table's bytes that are cut short, have more behind them, or are none; all
// else is right.
func TestATablesBytesMustBeATables(t *testing.T) {
	whole := dueBytes(api.Config{Table: policies(2)})
	own, rest := whole[2:len(whole)-2], whole[len(whole)-2:]
	with := func(own []byte) []byte {
		b := binary.LittleEndian.AppendUint16(nil, uint16(len(own)))
		return append(append(b, own...), rest...)
	}
	mustDecode(t, with(own), api.Config{Table: policies(2)})
	for n := range own {
		mustNotDecode(t, with(own[:n]))
	}
	for _, more := range []int{1, 2, 23, 46} {
		mustNotDecode(t, with(append(slices.Clone(own), make([]byte, more)...)))
	}
	for at := range own {
		for v := range 256 {
			other := slices.Clone(own)
			other[at] = byte(v)
			mustDecodeAsDue(t, with(other))
		}
	}
	mustNotDecode(t, with(append([]byte{17, 0}, make([]byte, 17*23)...)))
	mustDecode(t, with(append([]byte{16, 0}, make([]byte, 16*23)...)), api.Config{Table: make([]api.Policy, 16)})
	mustNotDecode(t, with(nil))
	mustNotDecode(t, with([]byte{0}))
	mustNotDecode(t, with([]byte{0, 0, 0}))
}

func TestBytesOfOneKindAreNone(t *testing.T) {
	for n := range 600 {
		for _, v := range []byte{0, 1, 2, 3, 20, 127, 128, 255} {
			mustNotDecode(t, bytes.Repeat([]byte{v}, n))
		}
	}
	mustNotDecode(t, bytes.Repeat([]byte{255}, 1<<20))
}

// Many orders of many lines are told in few bytes, and aren't there.
func TestBytesThatTellOfMoreThanTheyHave(t *testing.T) {
	for _, orders := range []byte{1, 20, 21, 255} {
		for _, lines := range []byte{0, 1, 8, 9, 255} {
			one := append(make([]byte, 28), lines)
			b := append([]byte{2, 0, 0, 0, orders}, one...)
			mustNotDecode(t, b)
			mustNotDecode(t, append(b, bytes.Repeat([]byte{0}, 12*int(lines))...))
			mustNotDecode(t, append(b, bytes.Repeat([]byte{1}, 12*int(lines))...))
			mustNotDecode(t, append([]byte{2, 0, 0, 0, orders}, bytes.Repeat(one, int(orders))...))
		}
	}
}
