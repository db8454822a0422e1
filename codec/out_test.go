package codec_test

import (
	"bytes"
	"math"
	"strings"
	"testing"

	"recoup/api"
	"recoup/codec"
)

// badPuts are all that make an Out bad.
func badPuts() []item {
	l := []item{
		u8(256, ""), u16(65536, ""), u32(1<<32, ""),
		sized(strings.Repeat("x", 65536), ""), sized(strings.Repeat("x", 65536+2), ""), sized(strings.Repeat("x", 1<<20), ""),
	}
	for _, v := range []int{-1, -2, -255, -256, -65536, -1 << 32, math.MinInt, math.MaxInt, 1<<32 + 1, 1 << 40} {
		l = append(l, u8(v, ""), u16(v, ""), u32(v, ""))
	}
	return append(l, u8(257, ""), u8(65536, ""), u16(65537, ""), u16(1<<24, ""))
}

func TestOutIsEmptyAtFirst(t *testing.T) {
	var o codec.Out
	if b, e := o.End(); len(b) != 0 || e != api.OK {
		t.Error(b, e)
	}
}

func TestEachIsPutAsItsBytes(t *testing.T) {
	for _, it := range goodItems() {
		if b := put(t, it); string(b) != it.due {
			t.Errorf("%s: % x, due is % x", it.name, b, it.due)
		}
	}
}

func TestEachIsPutBehindTheOthers(t *testing.T) {
	items, due := goodItems(), ""
	for _, it := range items {
		due += it.due
	}
	if b := put(t, items...); string(b) != due {
		t.Errorf("%d bytes, due are %d", len(b), len(due))
	}
}

func TestNoBytesMayBeNil(t *testing.T) {
	var o codec.Out
	o.Plain(nil)
	o.Bytes(nil)
	o.Bytes([]byte{})
	o.Plain([]byte{})
	if b := end(t, &o); !bytes.Equal(b, make([]byte, 4)) {
		t.Error(b)
	}
}

func TestPutsGoOnBehindEnd(t *testing.T) {
	var o codec.Out
	due := ""
	for range 3 {
		for _, it := range goodItems()[:30] {
			it.put(&o)
			due += it.due
			for range 2 {
				if b := end(t, &o); string(b) != due {
					t.Fatalf("behind %s: % x, due is % x", it.name, b, due)
				}
			}
		}
	}
}

func mustBeRange(t *testing.T, what string, o *codec.Out) {
	t.Helper()
	if b, e := o.End(); len(b) != 0 || e != api.ErrRange {
		t.Fatalf("%s: %d bytes, %v", what, len(b), e)
	}
}

func TestWhatDoesNotGoInMakesBad(t *testing.T) {
	for _, bad := range badPuts() {
		var first codec.Out
		bad.put(&first)
		mustBeRange(t, bad.name, &first)
		var behind codec.Out
		behind.U8(1)
		end(t, &behind)
		bad.put(&behind)
		mustBeRange(t, bad.name+" behind U8(1)", &behind)
		mustBeRange(t, bad.name+" told again", &behind)
	}
}

func TestBadOutStaysBad(t *testing.T) {
	for _, bad := range badPuts() {
		for _, it := range append(goodItems()[:30], badPuts()[:3]...) {
			var o codec.Out
			o.Plain([]byte("ab"))
			bad.put(&o)
			it.put(&o)
			mustBeRange(t, it.name+" behind "+bad.name, &o)
		}
	}
}

func TestOutsAreApart(t *testing.T) {
	var a, b codec.Out
	a.U8(1)
	b.U8(-1)
	a.U8(2)
	if l := end(t, &a); !bytes.Equal(l, []byte{1, 2}) {
		t.Error(l)
	}
	mustBeRange(t, "the other", &b)
}

func TestNilOut(t *testing.T) {
	var o *codec.Out
	for _, it := range append(goodItems(), badPuts()...) {
		it.put(o)
		if b, e := o.End(); len(b) != 0 || e != api.ErrArg {
			t.Fatalf("%s: %v, %v", it.name, b, e)
		}
	}
}
