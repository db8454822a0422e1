package frame_test

import (
	"bytes"
	"encoding/binary"
	"fmt"
	"hash/crc32"
	"strings"
	"testing"

	"recoup/api"
	"recoup/frame"
)

// due is the frame of a text, told by another hand; nothing is asked of how
// long the text is, but that a U16 tells it.
func due(text string) string {
	return string(dueOf(0xa5, len(text), text))
}

// dueOf is what begins with any mark, and tells any length, but has the sum
// that is due for them.
func dueOf(mark byte, length int, text string) []byte {
	sized := append(binary.LittleEndian.AppendUint16(nil, uint16(length)), text...)
	b := append([]byte{mark}, sized[:2]...)
	b = binary.LittleEndian.AppendUint32(b, crc32.ChecksumIEEE(sized))
	return append(b, text...)
}

// dues is the frames of some texts, one behind the other.
func dues(texts ...string) string {
	var s strings.Builder
	for _, text := range texts {
		s.WriteString(due(text))
	}
	return s.String()
}

// somehow is a text of n bytes that aren't all the same.
func somehow(n int) string {
	b := make([]byte, n)
	for k := range b {
		b[k] = byte(k*7 + k>>8 + n)
	}
	return string(b)
}

// goodTexts have the edges of what a frame is of.
func goodTexts() []string {
	l := []string{"\x00", "\xa5", "a", "\xff\xff\xff\xff", "abc", due("abc"), due("abc")[:9], strings.Repeat("\x00", 300)}
	for _, n := range []int{2, 3, 7, 8, 255, 256, 257, 4000, 32767, 32768, api.MaxFrame - 1, api.MaxFrame} {
		l = append(l, somehow(n))
	}
	return l
}

// noFrames are bytes that begin with no frame, whatever is behind them; of each
// it is said why.
func noFrames() map[string]string {
	l := map[string]string{
		"only a mark":          "\xa5",
		"no frame at all":      "what is this?",
		"noughts":              strings.Repeat("\x00", 70000),
		"marks":                strings.Repeat("\xa5", 70000),
		"a frame of no bytes":  due(""),
		"no bytes, no sum":     "\xa5\x00\x00\x00\x00\x00\x00",
		"one more than most":   due(somehow(api.MaxFrame + 1)),
		"the most of a U16":    due(somehow(65535)),
		"a frame behind other": "x" + due("abc"),
		"a frame behind 0":     "\x00" + due("abc"),
		"a frame behind a5":    "\xa5" + due("abc"),
		"the length turned":    "\xa5\x00\x03" + due("abc")[3:],
		"the sum turned":       "\xa5\x03\x00\x4b\xe7\x15\x1dabc",
		"of the text alone":    "\xa5\x03\x00\xc2\x41\x24\x35abc",
		"of the mark, too":     string(sumOfAll("abc")),
	}
	for _, mark := range []byte{0, 0xa4, 0x5a, 0xa7, 0x25, 0xff} {
		l[fmt.Sprintf("the mark %02x", mark)] = string(dueOf(mark, 3, "abc"))
	}
	return l
}

// sumOfAll is a frame whose sum is of its mark as well.
func sumOfAll(text string) []byte {
	b := []byte(due(text))
	sum := crc32.ChecksumIEEE(append(bytes.Clone(b[:3]), text...))
	binary.LittleEndian.PutUint32(b[3:], sum)
	return b
}

// told is one frame, as All tells it.
type told struct {
	place int
	text  string
}

// whatIsDue is what All is to tell of frames of these texts.
func whatIsDue(texts ...string) []told {
	var l []told
	place := 0
	for _, text := range texts {
		place += 7 + len(text)
		l = append(l, told{place, text})
	}
	return l
}

// allOf is what All tells.
func allOf(b []byte) []told {
	var l []told
	for n, text := range frame.All(b) {
		l = append(l, told{n, string(text)})
	}
	return l
}

// mustTell fails the test, if All, Whole and First of b don't tell frames of
// just these texts.
func mustTell(t *testing.T, what, b string, texts ...string) {
	t.Helper()
	want, got := whatIsDue(texts...), allOf([]byte(b))
	for k := range max(len(want), len(got)) {
		if k >= len(want) || k >= len(got) || want[k] != got[k] {
			t.Fatalf("%s: All: %d frames, due are %d; number %d isn't as due", what, len(got), len(want), k)
		}
	}
	whole, first, size, form := 0, "", 0, api.ErrForm
	if len(want) > 0 {
		whole = want[len(want)-1].place
		first, size, form = want[0].text, want[0].place, api.OK
	}
	if n := frame.Whole([]byte(b)); n != whole {
		t.Fatalf("%s: Whole: %d, due is %d", what, n, whole)
	}
	if text, n, e := frame.First([]byte(b)); string(text) != first || n != size || e != form {
		t.Fatalf("%s: First: %d bytes, %d, %v, due are %d, %d, %v", what, len(text), n, e, len(first), size, form)
	}
}
