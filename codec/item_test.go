package codec_test

import (
	"encoding/binary"
	"fmt"
	"reflect"
	"strings"
	"testing"

	"recoup/api"
	"recoup/codec"
)

// item is something that is put and read again, with the bytes that are due
// for it.
type item struct {
	name  string
	put   func(o *codec.Out)
	read  func(i *codec.In) any
	value any
	due   string
}

// nought is what is read instead, when that is bad.
func (it item) nought() any { return reflect.Zero(reflect.TypeOf(it.value)).Interface() }

func u8(v int, due string) item {
	return item{fmt.Sprintf("U8(%d)", v), func(o *codec.Out) { o.U8(v) }, readU8, v, due}
}

func u16(v int, due string) item {
	return item{fmt.Sprintf("U16(%d)", v), func(o *codec.Out) { o.U16(v) }, readU16, v, due}
}

func u32(v int, due string) item {
	return item{fmt.Sprintf("U32(%d)", v), func(o *codec.Out) { o.U32(v) }, readU32, v, due}
}

func i64(v int64, due string) item {
	return item{fmt.Sprintf("I64(%d)", v), func(o *codec.Out) { o.I64(v) }, readI64, v, due}
}

func flag(v bool, due string) item {
	return item{fmt.Sprintf("Flag(%v)", v), func(o *codec.Out) { o.Flag(v) }, readFlag, v, due}
}

func sized(s, due string) item {
	return item{fmt.Sprintf("Bytes of %d", len(s)), func(o *codec.Out) { o.Bytes([]byte(s)) }, readBytes, s, due}
}

func plain(s string) item {
	read := func(i *codec.In) any { return string(i.Plain(len(s))) }
	return item{fmt.Sprintf("Plain of %d", len(s)), func(o *codec.Out) { o.Plain([]byte(s)) }, read, s, s}
}

// most is a U16 that is read by Most.
func most(v, n int) item {
	it := u16(v, string(binary.LittleEndian.AppendUint16(nil, uint16(v))))
	it.name = fmt.Sprintf("Most(%d) of %d", n, v)
	it.read = func(i *codec.In) any { return i.Most(n) }
	return it
}

func readU8(i *codec.In) any    { return i.U8() }
func readU16(i *codec.In) any   { return i.U16() }
func readU32(i *codec.In) any   { return i.U32() }
func readI64(i *codec.In) any   { return i.I64() }
func readFlag(i *codec.In) any  { return i.Flag() }
func readBytes(i *codec.In) any { return string(i.Bytes()) }

// reading is a call that reads, with its nought.
type reading struct {
	name   string
	read   func(i *codec.In) any
	nought any
}

// readings are all calls that read.
func readings() []reading {
	l := []reading{
		{"U8", readU8, 0},
		{"U16", readU16, 0},
		{"U32", readU32, 0},
		{"I64", readI64, int64(0)},
		{"Flag", readFlag, false},
		{"Bytes", readBytes, ""},
	}
	for _, n := range []int{0, 1, 2, -1} {
		l = append(l, reading{fmt.Sprintf("Plain(%d)", n), func(i *codec.In) any { return string(i.Plain(n)) }, ""})
	}
	for _, n := range []int{0, 1, 65535, -1} {
		l = append(l, reading{fmt.Sprintf("Most(%d)", n), func(i *codec.In) any { return i.Most(n) }, 0})
	}
	return l
}

// goodItems are some of each kind, with the edges of what goes in, and their
// bytes written out by hand.
func goodItems() []item {
	return []item{
		u8(0, "\x00"), u8(1, "\x01"), u8(127, "\x7f"), u8(128, "\x80"), u8(255, "\xff"),
		u16(0, "\x00\x00"), u16(2, "\x02\x00"), u16(255, "\xff\x00"), u16(256, "\x00\x01"),
		u16(258, "\x02\x01"), u16(32768, "\x00\x80"), u16(65535, "\xff\xff"),
		u32(0, "\x00\x00\x00\x00"), u32(65535, "\xff\xff\x00\x00"), u32(65536, "\x00\x00\x01\x00"),
		u32(0x01020304, "\x04\x03\x02\x01"), u32(1<<31, "\x00\x00\x00\x80"), u32(1<<32-1, "\xff\xff\xff\xff"),
		i64(0, "\x00\x00\x00\x00\x00\x00\x00\x00"), i64(1, "\x01\x00\x00\x00\x00\x00\x00\x00"),
		i64(-1, "\xff\xff\xff\xff\xff\xff\xff\xff"), i64(-2, "\xfe\xff\xff\xff\xff\xff\xff\xff"),
		i64(0x0102030405060708, "\x08\x07\x06\x05\x04\x03\x02\x01"),
		i64(1<<63-1, "\xff\xff\xff\xff\xff\xff\xff\x7f"), i64(-1<<63, "\x00\x00\x00\x00\x00\x00\x00\x80"),
		flag(false, "\x00"), flag(true, "\x01"),
		sized("", "\x00\x00"), sized("ab", "\x02\x00ab"), sized("\x00", "\x01\x00\x00"),
		sized(strings.Repeat("x", 256), "\x00\x01"+strings.Repeat("x", 256)),
		sized(strings.Repeat("y", 65535), "\xff\xff"+strings.Repeat("y", 65535)),
		plain(""), plain("c"), plain("\xa5\x00"), plain(strings.Repeat("z", 70000)),
		most(0, 0), most(5, 5), most(5, 6), most(65535, 65535), most(65535, 1<<40),
	}
}

// put is what an Out of the items is in the end.
func put(t *testing.T, items ...item) []byte {
	t.Helper()
	var o codec.Out
	for _, it := range items {
		it.put(&o)
	}
	return end(t, &o)
}

// end is all that was put into an Out that isn't bad.
func end(t *testing.T, o *codec.Out) []byte {
	t.Helper()
	b, e := o.End()
	if e != api.OK {
		t.Fatalf("End: %v", e)
	}
	return b
}

// mustBeBad fails the test, if it isn't bad in all that can be seen of it.
func mustBeBad(t *testing.T, what string, i *codec.In) {
	t.Helper()
	if !i.Bad() || i.Done() || i.Left() != 0 {
		t.Fatalf("%s: Bad %v, Done %v, Left %d", what, i.Bad(), i.Done(), i.Left())
	}
}

// mustHave fails the test, if it is bad, or hasn't n bytes left.
func mustHave(t *testing.T, what string, i *codec.In, n int) {
	t.Helper()
	if i.Bad() || i.Done() != (n == 0) || i.Left() != n {
		t.Fatalf("%s: Bad %v, Done %v, Left %d, due is %d", what, i.Bad(), i.Done(), i.Left(), n)
	}
}
