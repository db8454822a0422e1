package rma_test

import (
	"bytes"
	"slices"
	"testing"

	"recoup/codec"
	"recoup/rma"
)

// The bytes stand here one by one, as they are to be.
func TestBytesOfAReturn(t *testing.T) {
	for _, c := range []struct {
		r rma.RMA
		b []byte
	}{
		{
			rma.RMA{Number: 3, Order: 2, Reason: 1, Want: 258, Reserved: 7, Credit: true, State: 4, Day: 66051, Units: []int{4, 9, 77}, Grades: []int{-1, 2, 4}, Worth: 900, Paid: 10, Credited: 1 << 40, Given: 3},
			[]byte{
				3, 2, 1, 2, 1, 8, 0, 1, 4, 3, 2, 1, 0, 3, 0, 4, 9, 77, 0, 3, 5,
				132, 3, 0, 0, 0, 0, 0, 0, 10, 0, 0, 0, 0, 0, 0, 0, 0, 0, 0, 0, 0, 1, 0, 0, 3, 0, 0, 0, 0, 0, 0, 0,
			},
		},
		{
			rma.RMA{Number: 1, Reserved: -1, State: 1, Units: []int{0}, Grades: []int{-1}},
			append([]byte{1, 0, 0, 0, 0, 0, 0, 0, 1, 0, 0, 0, 0, 1, 0, 0, 0}, make([]byte, 32)...),
		},
		{
			rma.RMA{Number: 100, Order: 19, Reason: 3, Want: 1000, Reserved: 199, Credit: true, State: 9, Day: 100000, Units: []int{198, 199}, Grades: []int{4, 0}, Worth: 1 << 50, Paid: 1<<50 - 1, Credited: 1, Given: 256},
			[]byte{
				100, 19, 3, 232, 3, 200, 0, 1, 9, 160, 134, 1, 0, 2, 0, 198, 199, 5, 1,
				0, 0, 0, 0, 0, 0, 4, 0, 255, 255, 255, 255, 255, 255, 3, 0, 1, 0, 0, 0, 0, 0, 0, 0, 0, 1, 0, 0, 0, 0, 0, 0,
			},
		},
	} {
		mustBeRight(t, c.r)
		if b, e := put(c.r); e != 0 || !bytes.Equal(b, c.b) {
			t.Errorf("of %v: %v, %d; want %v", c.r, b, e, c.b)
		}
		mustTake(t, c.b, c.r)
	}
}

// What follows: what was put of a right return is taken as it was.
func TestWhatWasPutIsTaken(t *testing.T) {
	for _, r := range someReturns() {
		b, e := put(r)
		if e != 0 || len(b) != 47+2*len(r.Units) {
			t.Error(r, b, e)
		}
		i := codec.NewIn(b)
		got := rma.Take(i)
		if !rma.Equal(got, r) || !rma.Right(got) || !i.Done() {
			t.Error(r, got, i.Done())
		}
		if again, e := put(got); e != 0 || !bytes.Equal(again, b) {
			t.Error(b, again, e)
		}
	}
}

// Each number at its ends, or anywhere between them.
func TestEachNumberIsInTheBytes(t *testing.T) {
	r := sample()
	first, _ := put(r)
	for k, n := range numbers(&r) {
		for _, v := range []int64{n.least, n.least + 1, (n.least + n.most) / 2, n.most - 1, n.most} {
			if v < n.least || v > n.most {
				continue
			}
			other := with(int64(k), v)
			mustPut(t, other)
			mustTake(t, dueBytes(other), other)
			if b, _ := put(other); bytes.Equal(b, first) != (v == n.get()) {
				t.Error(k, v, b)
			}
		}
	}
	r.Credit = false
	if b, _ := put(r); bytes.Equal(b, first) {
		t.Error(b)
	}
}

// What isn't right, but goes in, is put and taken, too.
func TestWhatIsNotRightIsPut(t *testing.T) {
	full := rma.RMA{Number: 255, Order: 255, Reason: 255, Want: 65535, Reserved: 65534, State: 255, Day: 1<<32 - 1, Units: []int{255, 0, 255}, Grades: []int{254, -1, 253}, Worth: -1, Paid: smallest, Credited: greatest, Given: -richest - 1}
	for _, r := range []rma.RMA{full, {}, {Reserved: -1}, {Reserved: -1, Units: []int{7, 7}, Grades: []int{5, 5}}, {Number: 101, Order: 20, Reason: 4, Want: 1001, Reserved: 200, State: 10, Day: 100001, Units: []int{9, 4}, Grades: []int{5, 254}}} {
		if rma.Right(r) || !mustPut(t, r) {
			t.Error(r)
		}
		mustTake(t, dueBytes(r), r)
	}
}

// A number that doesn't go in makes the Out bad, with all that was ahead of it.
func TestWhatDoesNotGoIn(t *testing.T) {
	r := sample()
	bad := 0
	for k := range numbers(&r) {
		for _, v := range append(wrongNumbers(), -1, 0, 1, 200, 253, 254, 255, 256, 257, 65533, 65534, 65535, 65536, 65537, 1<<32-2, 1<<32-1, 1<<32, 1<<32+1) {
			if !mustPut(t, with(int64(k), v)) {
				bad++
			}
		}
	}
	if bad < 100 {
		t.Error(bad)
	}
	for _, n := range []int{65535, 65536, 65537, 65536 + 200} {
		if ok := mustPut(t, lists(make([]int, n), []int{1})); ok != (n == 65535) {
			t.Error(n, ok)
		}
	}
	var o codec.Out
	o.U8(9)
	rma.Put(&o, with(0, 256))
	rma.Put(&o, sample())
	if b, e := o.End(); len(b) != 0 || e != 2 {
		t.Error(b, e)
	}
}

// As many grades are put as there are, of a return that isn't right.
func TestOtherNumbersOfGradesArePut(t *testing.T) {
	for units := range 5 {
		for grades := range 5 {
			mustPut(t, lists(many(units).Units, many(grades).Grades))
		}
	}
	b, e := put(rma.RMA{Reserved: -1, Units: []int{5}, Grades: []int{0, 1, 2}})
	if want := append([]byte{0, 0, 0, 0, 0, 0, 0, 0, 0, 0, 0, 0, 0, 1, 0, 5, 1, 2, 3}, make([]byte, 32)...); e != 0 || !bytes.Equal(b, want) {
		t.Error(b, e)
	}
}

// It is put behind what is there, and more may be put behind it.
func TestPutBehindOthers(t *testing.T) {
	var o codec.Out
	o.U16(258)
	want := []byte{2, 1}
	for _, r := range someReturns() {
		rma.Put(&o, r)
		o.U8(7)
		want = append(append(want, dueBytes(r)...), 7)
	}
	b, e := o.End()
	if e != 0 || !bytes.Equal(b, want) {
		t.Fatal(b, e)
	}
	i := codec.NewIn(b)
	if i.U16() != 258 {
		t.Error("first")
	}
	for _, r := range someReturns() {
		if got := rma.Take(i); !dueEqual(got, r) || i.U8() != 7 || i.Bad() {
			t.Error(r, got, i.Bad())
		}
	}
	if !i.Done() {
		t.Error(i.Left())
	}
}

func TestBytesCutShort(t *testing.T) {
	for _, r := range someReturns() {
		b := dueBytes(r)
		for n := range b {
			mustNotTake(t, b[:n])
		}
	}
	mustNotTake(t, nil)
	mustNotTake(t, []byte{})
}

// What is behind is left.
func TestBytesBehind(t *testing.T) {
	for _, r := range someReturns() {
		for _, more := range []int{1, 2, 8, 47, 300} {
			for _, v := range []byte{0, 1, 255} {
				if !mustTakeAsDue(t, append(dueBytes(r), bytes.Repeat([]byte{v}, more)...)) {
					t.Error(r, more, v)
				}
			}
		}
	}
}

// Each byte, with each value it can have.
func TestEachByteIsRead(t *testing.T) {
	for _, r := range []rma.RMA{sample(), many(1), many(2), {Reserved: -1}} {
		b := dueBytes(r)
		taken := 0
		for at, was := range b {
			for v := range 256 {
				b[at] = byte(v)
				if mustTakeAsDue(t, b) {
					taken++
				}
			}
			b[at] = was
		}
		if taken < 254*(len(b)-3) || taken > 256*len(b)-500 {
			t.Error(taken)
		}
	}
}

func TestTheFlagIsAsked(t *testing.T) {
	for v := range 256 {
		b := dueBytes(sample())
		b[7] = byte(v)
		want := sample()
		if want.Credit = v == 1; v < 2 {
			mustTake(t, b, want)
		} else {
			mustNotTake(t, b)
		}
	}
}

// At most MaxUnits units are read, whatever is told, and however much there is.
func TestHowManyUnitsAreRead(t *testing.T) {
	head, rest := dueBytes(rma.RMA{Reserved: -1})[:13], make([]byte, 2*65535+32)
	for n := range 65536 {
		if n > 300 && n%97 != 0 && n != 65535 && n%256 > 3 {
			continue
		}
		b := append(append(slices.Clone(head), byte(n), byte(n>>8)), rest[:2*n+32]...)
		if n <= 200 {
			mustTake(t, b, rma.RMA{Reserved: -1, Units: make([]int, n), Grades: slices.Repeat([]int{-1}, n)})
		} else {
			mustNotTake(t, b)
		}
	}
	for _, n := range []int{199, 200, 201, 255, 256} {
		if b, e := put(many(n)); e != 0 && n <= 256 || mustTakeAsDue(t, b) != (n <= 200) {
			t.Error(n, e)
		}
	}
}

// Of one that is bad already nothing is read.
func TestTakeOfABadOne(t *testing.T) {
	b := dueBytes(sample())
	for _, spoil := range []func(i *codec.In){
		func(i *codec.In) { i.Plain(-1) }, func(i *codec.In) { i.Plain(len(b) + 1) }, func(i *codec.In) { i.Flag() }, func(i *codec.In) { i.Most(1) }, func(i *codec.In) { i.Plain(len(b)); i.U8() },
	} {
		i := codec.NewIn(b)
		spoil(i)
		for range 3 {
			if got := rma.Take(i); !i.Bad() || !isNone(got) || i.Left() != 0 {
				t.Error(got, i.Bad())
			}
		}
	}
}

// All that there was is read, and nothing is left: it isn't bad then.
func TestTakeToTheEnd(t *testing.T) {
	i := codec.NewIn(append(dueBytes(sample()), dueBytes(many(3))...))
	if got := rma.Take(i); !dueEqual(got, sample()) || i.Done() {
		t.Error(got)
	}
	if got := rma.Take(i); !dueEqual(got, many(3)) || !i.Done() {
		t.Error(got)
	}
	if got := rma.Take(i); !isNone(got) || !i.Bad() {
		t.Error(got)
	}
}

func TestNilOnes(t *testing.T) {
	for _, r := range append(someReturns(), wrongReturns()...) {
		rma.Put(nil, r)
	}
	for range 2 {
		if got := rma.Take(nil); !isNone(got) {
			t.Error(got)
		}
		if got := rma.Take(new(codec.In)); !isNone(got) {
			t.Error(got)
		}
	}
}
