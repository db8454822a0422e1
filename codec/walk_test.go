package codec_test

import (
	"encoding/binary"
	"math/rand"
	"testing"

	"recoup/codec"
)

// anItem is one of any kind, its bytes told by another hand.
func anItem(r *rand.Rand) item {
	le, n := binary.LittleEndian, r.Uint64()>>r.Intn(64)
	text := make([]byte, r.Intn(5))
	r.Read(text)
	switch r.Intn(8) {
	case 0:
		return u8(int(uint8(n)), string([]byte{byte(n)}))
	case 1:
		return u16(int(uint16(n)), string(le.AppendUint16(nil, uint16(n))))
	case 2:
		return u32(int(uint32(n)), string(le.AppendUint32(nil, uint32(n))))
	case 3:
		return i64(int64(n), string(le.AppendUint64(nil, n)))
	case 4:
		return flag(n%2 == 1, string([]byte{byte(n % 2)}))
	case 5:
		return sized(string(text), string([]byte{byte(len(text)), 0})+string(text))
	case 6:
		return most(int(uint16(n)), int(uint16(n))+r.Intn(3))
	}
	return plain(string(text))
}

func someItems(r *rand.Rand) ([]item, string) {
	items, due := make([]item, r.Intn(12)), ""
	for k := range items {
		items[k] = anItem(r)
		due += items[k].due
	}
	return items, due
}

func TestWhatWasPutIsRead(t *testing.T) {
	for seed := range int64(2000) {
		items, due := someItems(rand.New(rand.NewSource(seed)))
		b := put(t, items...)
		if string(b) != due {
			t.Fatalf("walk %d: % x, due is % x", seed, b, due)
		}
		i, left := codec.NewIn(b), len(b)
		for _, it := range items {
			mustHave(t, it.name+" ahead", i, left)
			if v := it.read(i); v != it.value {
				t.Fatalf("walk %d: %s: %v", seed, it.name, v)
			}
			left -= len(it.due)
		}
		mustHave(t, "all", i, 0)
	}
}

// TestCutBytesAreReadUpToTheCut: what lies whole ahead of the cut is read as
// it was put; what the cut is in is bad.
func TestCutBytesAreReadUpToTheCut(t *testing.T) {
	for seed := range int64(400) {
		items, due := someItems(rand.New(rand.NewSource(seed)))
		for cut := range len(due) {
			i, left := codec.NewIn([]byte(due[:cut])), cut
			for _, it := range items {
				v := it.read(i)
				if left -= len(it.due); left < 0 {
					mustBeBad(t, it.name, i)
					break
				}
				if v != it.value {
					t.Fatalf("walk %d cut at %d: %s: %v", seed, cut, it.name, v)
				}
				mustHave(t, it.name, i, left)
			}
		}
	}
}

// TestAnyBytesReadArePutAgain: the readings of any bytes, put again, are those
// bytes, but for what was left.
func TestAnyBytesReadArePutAgain(t *testing.T) {
	for seed := range int64(2000) {
		r := rand.New(rand.NewSource(seed))
		b := make([]byte, r.Intn(40))
		for k := range b {
			b[k] = byte(r.Uint64() >> (56 + r.Intn(9)))
		}
		var o codec.Out
		i, left := codec.NewIn(b), len(b)
		for k := 0; !i.Bad() && k < 60; k++ {
			left = i.Left()
			again(r, i, &o)
		}
		if !i.Bad() {
			left = i.Left()
		}
		if got := end(t, &o); string(got) != string(b[:len(b)-left]) {
			t.Fatalf("walk %d: % x, due is % x", seed, got, b[:len(b)-left])
		}
	}
}

// again reads something, and puts it, if that wasn't bad.
func again(r *rand.Rand, i *codec.In, o *codec.Out) {
	var put func()
	switch r.Intn(7) {
	case 0:
		v := i.U8()
		put = func() { o.U8(v) }
	case 1:
		v := i.U16()
		put = func() { o.U16(v) }
	case 2:
		v := i.U32()
		put = func() { o.U32(v) }
	case 3:
		v := i.I64()
		put = func() { o.I64(v) }
	case 4:
		v := i.Flag()
		put = func() { o.Flag(v) }
	case 5:
		v := i.Bytes()
		put = func() { o.Bytes(v) }
	case 6:
		v := i.Plain(r.Intn(4))
		put = func() { o.Plain(v) }
	}
	if !i.Bad() {
		put()
	}
}
