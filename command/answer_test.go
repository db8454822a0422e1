package command_test

import (
	"bytes"
	"encoding/binary"
	"math"
	"math/rand"
	"testing"

	"recoup/api"
	"recoup/command"
)

// someValues are what an answer may tell; each int64 is one.
func someValues() []int64 {
	return []int64{0, 1, 2, 100, 255, 256, 65535, 65536, 1 << 32, 1 << 50, 1<<50 + 1, math.MaxInt64, -1, -2, -256, -1 << 32, math.MinInt64, math.MinInt64 + 1, 578437695752307201}
}

// mustTell checks all that holds of an answer that has bytes.
func mustTell(t *testing.T, a command.Answer) {
	t.Helper()
	want := binary.LittleEndian.AppendUint64([]byte{byte(a.Err)}, uint64(a.Value))
	b, e := command.EncodeAnswer(a)
	if e != 0 || !bytes.Equal(b, want) {
		t.Errorf("of %v: %v, %d; want %v", a, b, e, want)
	}
	if got, e := command.DecodeAnswer(want); e != 0 || got != a {
		t.Errorf("of %v: %v, %d; want %v", want, got, e, a)
	}
	if again, e := command.DecodeAnswer(b); e != 0 || again != a {
		t.Errorf("of %v: %v, %d; want %v", b, again, e, a)
	}
}

// mustTellNone checks that bytes are no answer's.
func mustTellNone(t *testing.T, b []byte) {
	t.Helper()
	if got, e := command.DecodeAnswer(b); e != 3 || got != (command.Answer{}) {
		t.Errorf("of %v: %v, %d", b, got, e)
	}
}

// The bytes stand here one by one, as they are to be.
func TestBytesOfAnswers(t *testing.T) {
	for _, c := range []struct {
		a command.Answer
		b []byte
	}{
		{command.Answer{}, []byte{0, 0, 0, 0, 0, 0, 0, 0, 0}},
		{command.Answer{Value: 258}, []byte{0, 2, 1, 0, 0, 0, 0, 0, 0}},
		{command.Answer{Err: api.ErrOld}, []byte{16, 0, 0, 0, 0, 0, 0, 0, 0}},
		{command.Answer{Err: 5, Value: -2}, []byte{5, 254, 255, 255, 255, 255, 255, 255, 255}},
		{command.Answer{Err: 255, Value: 578437695752307201}, []byte{255, 1, 2, 3, 4, 5, 6, 7, 8}},
		{command.Answer{Err: 17, Value: math.MinInt64}, []byte{17, 0, 0, 0, 0, 0, 0, 0, 128}},
	} {
		mustTell(t, c.a)
		if b, e := command.EncodeAnswer(c.a); e != 0 || !bytes.Equal(b, c.b) {
			t.Errorf("of %v: %v, %d; want %v", c.a, b, e, c.b)
		}
		if a, e := command.DecodeAnswer(c.b); e != 0 || a != c.a {
			t.Errorf("of %v: %v, %d; want %v", c.b, a, e, c.a)
		}
	}
}

// An error is 0 to 255, be there one of that number or not.
func TestEachErrorIsTold(t *testing.T) {
	for e := -600; e < 1000; e++ {
		mustTellIfDue(t, e)
	}
	for _, e := range append(beyond(), 1<<16, 1<<16+5, 1<<32+5, smallest+5, 65535) {
		mustTellIfDue(t, e)
	}
}

func mustTellIfDue(t *testing.T, err int) {
	t.Helper()
	for _, v := range someValues() {
		a := command.Answer{Err: api.Errno(err), Value: v}
		if err >= 0 && err <= 255 {
			mustTell(t, a)
		} else if b, e := command.EncodeAnswer(a); e != 1 || len(b) != 0 {
			t.Errorf("of %v: %v, %d", a, b, e)
		}
	}
}

func TestAnyAnswersAreTold(t *testing.T) {
	r := rand.New(rand.NewSource(1))
	for range 20000 {
		mustTell(t, command.Answer{Err: api.Errno(r.Intn(256)), Value: int64(r.Uint64()) >> r.Intn(64)})
	}
}

// Of any nine bytes there is an answer, of no other ones.
func TestBytesOfNoAnswer(t *testing.T) {
	for n := range 600 {
		for _, v := range []byte{0, 1, 7, 255} {
			b := bytes.Repeat([]byte{v}, n)
			if n != 9 {
				mustTellNone(t, b)
				continue
			}
			if a, e := command.DecodeAnswer(b); e != 0 || int(a.Err) != int(v) {
				t.Error(a, e)
			}
		}
	}
	mustTellNone(t, nil)
	mustTellNone(t, make([]byte, 1<<16+9))
}

// What is decoded is encoded as the same.
func TestAnyNineBytesAreAnAnswer(t *testing.T) {
	r := rand.New(rand.NewSource(2))
	for range 20000 {
		b := make([]byte, 9)
		r.Read(b)
		a, e := command.DecodeAnswer(b)
		if e != 0 || a.Value != int64(binary.LittleEndian.Uint64(b[1:])) || int(a.Err) != int(b[0]) {
			t.Error(b, a, e)
		}
		if again, e := command.EncodeAnswer(a); e != 0 || !bytes.Equal(again, b) {
			t.Error(b, again, e)
		}
		mustTellNone(t, b[:r.Intn(9)])
		mustTellNone(t, append(b, b[:1+r.Intn(9)]...))
	}
}

func TestAnAnswersBytesAreNewMemory(t *testing.T) {
	for _, v := range someValues() {
		a := command.Answer{Err: 3, Value: v}
		first, _ := command.EncodeAnswer(a)
		second, _ := command.EncodeAnswer(a)
		fillBytes(second, 255)
		if again, e := command.DecodeAnswer(first); e != 0 || again != a {
			t.Error(a, again, e)
		}
		own := roomyBytes(first)
		before := bytes.Clone(own[:cap(own)])
		got, _ := command.DecodeAnswer(own)
		if !bytes.Equal(own[:cap(own)], before) {
			t.Error(before, "are now", own[:cap(own)])
		}
		fillBytes(own, 255)
		if got != a {
			t.Error(got, "was", a)
		}
	}
}
