package codec_test

import (
	"bytes"
	"testing"

	"recoup/codec"
)

// roomy is bytes with spare room behind them, and all of that memory.
func roomy(s string) (b, all []byte) {
	all = append([]byte(s), "spare room"...)
	return all[:len(s)], all
}

// fill overwrites a slice and its spare room.
func fill(b []byte) {
	b = b[:cap(b)]
	for k := range b {
		b[k] = 'X'
	}
}

func TestPutsLeaveAndKeepNothing(t *testing.T) {
	for _, put := range []func(o *codec.Out, b []byte){(*codec.Out).Bytes, (*codec.Out).Plain} {
		b, all := roomy("abc")
		var o codec.Out
		put(&o, b)
		o.U32(7)
		if string(all) != "abcspare room" {
			t.Errorf("handed in, and now: %s", all)
		}
		due := end(t, &o)
		fill(all)
		if now := end(t, &o); !bytes.Equal(now, due) {
			t.Errorf("kept: % x, due is % x", now, due)
		}
	}
}

func TestNewInLeavesAndKeepsNothing(t *testing.T) {
	b, all := roomy("\x02\x00ab\x01cd")
	i := codec.NewIn(b)
	fill(all)
	if s := string(i.Bytes()); s != "ab" {
		t.Errorf("kept: %q", s)
	}
	if n := i.U8(); n != 1 {
		t.Errorf("kept: %d", n)
	}
	b, all = roomy("\x02\x00abcd")
	i = codec.NewIn(b)
	fill(i.Bytes())
	fill(i.Plain(2))
	if string(all) != "\x02\x00abcdspare room" {
		t.Errorf("handed in, and now: %q", all)
	}
}

func TestEndIsNewMemory(t *testing.T) {
	for n := range 70 {
		var o codec.Out
		o.Plain(bytes.Repeat([]byte{'a'}, n))
		x, y := end(t, &o), end(t, &o)
		fill(x)
		o.U16(258)
		z := end(t, &o)
		fill(x)
		if string(y) != string(bytes.Repeat([]byte{'a'}, n)) || string(z) != string(y)+"\x02\x01" {
			t.Fatalf("%d: %s, %s", n, y, z)
		}
	}
}

func TestReadBytesAreNewMemory(t *testing.T) {
	i := codec.NewIn([]byte("\x02\x00ab" + "cd" + "\x02\x00ef" + "\x08\x00" + "\x01"))
	first := i.Bytes()
	fill(first)
	second := i.Plain(2)
	if string(second) != "cd" {
		t.Errorf("behind Bytes: %q", second)
	}
	fill(second)
	third := i.Bytes()
	if string(third) != "ef" {
		t.Errorf("behind Plain: %q", third)
	}
	fill(first)
	fill(second)
	if string(third) != "ef" {
		t.Errorf("told: %q", third)
	}
	if n, v := i.U16(), i.Flag(); n != 8 || !v || !i.Done() {
		t.Error("the rest", n, v)
	}
}
