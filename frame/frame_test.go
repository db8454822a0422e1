package frame_test

import (
	"hash/crc32"
	"strings"
	"testing"

	"recoup/api"
	"recoup/frame"
)

func TestSumOfKnownBytes(t *testing.T) {
	for text, sum := range map[string]uint32{
		"":                 0,
		"\x00":             0xd202ef8d,
		"a":                0xe8b7be43,
		"abc":              0x352441c2,
		"123456789":        0xcbf43926,
		"\x00\x00\x00\x00": 0x2144df1c,
		"\xff\xff\xff\xff": 0xffffffff,
		"The quick brown fox jumps over the lazy dog": 0x414fa339,
	} {
		if s := frame.Sum([]byte(text)); s != sum {
			t.Errorf("%q: %08x, due is %08x", text, s, sum)
		}
	}
	if s := frame.Sum(nil); s != 0 {
		t.Errorf("nil: %08x", s)
	}
}

func TestSumOfEachByte(t *testing.T) {
	for v := range 256 {
		for _, b := range [][]byte{{byte(v)}, {byte(v), 7}, {0xa5, byte(v)}} {
			if s, sum := frame.Sum(b), crc32.ChecksumIEEE(b); s != sum {
				t.Errorf("% x: %08x, due is %08x", b, s, sum)
			}
		}
	}
}

func TestSumOfManyBytes(t *testing.T) {
	for _, n := range []int{65535, 65536, 1 << 20} {
		b := []byte(somehow(n))
		if s, sum := frame.Sum(b), crc32.ChecksumIEEE(b); s != sum {
			t.Errorf("%d bytes: %08x, due is %08x", n, s, sum)
		}
	}
}

func TestFramesByHand(t *testing.T) {
	for text, want := range map[string]string{
		"\x00":         "\xa5\x01\x00\x25\xb3\x83\xfe\x00",
		"de":           "\xa5\x02\x00\xe3\x2c\x04\xb7de",
		"abc":          "\xa5\x03\x00\x1d\x15\xe7\x4babc",
		"123456789":    "\xa5\x09\x00\xe1\xa2\x37\x3d123456789",
		"Hello, world": "\xa5\x0c\x00\x47\x87\x01\x67Hello, world",
	} {
		if b, e := frame.Frame([]byte(text)); string(b) != want || e != api.OK {
			t.Errorf("%q: % x, %v", text, b, e)
		}
		mustTell(t, text, want, text)
	}
}

func TestFrameOfEachLength(t *testing.T) {
	for _, text := range goodTexts() {
		b, e := frame.Frame([]byte(text))
		if string(b) != due(text) || e != api.OK {
			t.Errorf("%d bytes: a frame of %d, %v", len(text), len(b), e)
		}
		mustTell(t, "its frame", string(b), text)
	}
}

func TestFrameOfEachByte(t *testing.T) {
	for v := range 256 {
		text := string([]byte{byte(v)})
		if b, e := frame.Frame([]byte(text)); string(b) != due(text) || e != api.OK {
			t.Errorf("%d: % x, %v", v, b, e)
		}
		mustTell(t, "a byte", due(text), text)
	}
}

func TestNoFrameOfNoneOrTooMany(t *testing.T) {
	for _, n := range []int{0, api.MaxFrame + 1, api.MaxFrame + 2, 65535, 65536, 65537, 65536 + 3, 65536 + api.MaxFrame, 1 << 20} {
		if b, e := frame.Frame(make([]byte, n)); len(b) != 0 || e != api.ErrLong {
			t.Errorf("%d bytes: a frame of %d, %v", n, len(b), e)
		}
	}
	if b, e := frame.Frame(nil); len(b) != 0 || e != api.ErrLong {
		t.Errorf("nil: % x, %v", b, e)
	}
}

func TestWhatBeginsWithNoFrame(t *testing.T) {
	for why, b := range noFrames() {
		mustTell(t, why, b)
		mustTell(t, why+", and a frame behind it", b+due("abc"))
		mustTell(t, why+", behind a frame", due("abc")+b, "abc")
		mustTell(t, why+", between frames", dues("abc", "de")+b+due("f"), "abc", "de")
	}
	mustTell(t, "nil", "")
}

func TestOtherLengthsAreNoFrames(t *testing.T) {
	for _, n := range []int{0, 1, 2, 4, 5, 10, 259, 60000, 60001, 65535} {
		mustTell(t, "the sum of another length", string(dueOf(0xa5, n, "abc")))
		mustTell(t, "the sum of another length, and more", string(dueOf(0xa5, n, "abc"))+strings.Repeat("x", 70000))
	}
}

func TestLengthBeyondTheEnd(t *testing.T) {
	for _, n := range []int{1, 3, 256, api.MaxFrame, api.MaxFrame + 1, 65535} {
		b := due(somehow(n))
		for _, cut := range []int{1, 2, 7, n} {
			mustTell(t, "cut", b[:max(len(b)-cut, 0)])
		}
	}
}

func TestAFrameCutOffAnywhere(t *testing.T) {
	for _, text := range []string{"a", "abc", due("abc"), somehow(300)} {
		b := due(text)
		for cut := range len(b) {
			mustTell(t, "cut", b[:cut])
			mustTell(t, "cut, behind others", dues("x", "yz")+b[:cut], "x", "yz")
		}
	}
}

func TestAByteChangedAnywhere(t *testing.T) {
	for _, text := range []string{"a", "abc", somehow(40)} {
		whole := due(text)
		for at := range len(whole) {
			for change := 1; change < 256; change++ {
				b := []byte(whole)
				b[at] ^= byte(change)
				mustTell(t, "changed", string(b))
			}
			b := []byte(whole)
			b[at] ^= 4
			mustTell(t, "changed, between others", due("x")+string(b)+due("y"), "x")
		}
	}
}

func TestABitChangedInAGreatFrame(t *testing.T) {
	whole := due(somehow(api.MaxFrame))
	for _, at := range []int{0, 1, 2, 3, 4, 5, 6, 7, 8, 255, 256, 30000, 60005, 60006} {
		for bit := range 8 {
			b := []byte(whole)
			b[at] ^= 1 << bit
			mustTell(t, "changed", string(b))
		}
	}
}
