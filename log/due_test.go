package log_test

import (
	"encoding/binary"
	"fmt"
	"hash/crc32"
	"strings"
	"testing"

	"recoup/api"
	"recoup/disk"
	"recoup/log"
)

// framed is the frame of a text, told by another hand.
func framed(text string) string {
	sized := string(binary.LittleEndian.AppendUint16(nil, uint16(len(text)))) + text
	sum := binary.LittleEndian.AppendUint32(nil, crc32.ChecksumIEEE([]byte(sized)))
	return "\xa5" + sized[:2] + string(sum) + text
}

// due is a log's file, told by another hand.
func due(generation uint32, image string, records ...string) string {
	s := framed(string(binary.LittleEndian.AppendUint32(nil, generation)) + image)
	for _, record := range records {
		s += framed(record)
	}
	return s
}

// somehow is a text of n bytes that aren't all the same.
func somehow(n int) string {
	b := make([]byte, n)
	for k := range b {
		b[k] = byte(k*7 + k>>8 + n)
	}
	return string(b)
}

// look is all that a log tells; it can be compared.
type look struct {
	image      string
	records    string
	len        int
	generation int
	over       bool
}

// looks is what a log that isn't over is to tell.
func looks(generation int, image string, records ...string) look {
	return look{image, fmt.Sprintf("%q", records), len(records), generation, false}
}

// ended is the same of a log that is over.
func (l look) ended() look {
	l.over = true
	return l
}

// see asks a log for all that it tells.
func see(l *log.Log) look {
	var records []string
	for _, b := range l.Records() {
		records = append(records, string(b))
	}
	return look{string(l.Image()), fmt.Sprintf("%q", records), l.Len(), l.Generation(), l.Over()}
}

// state is all that a disk has; it can be compared.
type state struct {
	has  [api.MaxFiles]bool
	text [api.MaxFiles]string
	safe [api.MaxFiles]int
	room int
	lost bool
}

// watch asks a disk for all that it has, be it lost.
func watch(d *disk.Disk) state {
	s := state{room: d.Room(), lost: d.Lost()}
	for i := range s.has {
		s.has[i], s.safe[i] = d.Has(i), d.Safe(i)
	}
	c := d.Clone()
	c.Restart(keeping(api.MaxDisk))
	for i := range s.text {
		b, _ := c.Read(i)
		s.text[i] = string(b)
	}
	return s
}

// keeping is a Keep of n for each file.
func keeping(n int) (keep [api.MaxFiles]int) {
	for i := range keep {
		keep[i] = n
	}
	return keep
}

// must fails the test, if a call's error isn't the one that is due.
func must(t *testing.T, what string, e, due api.Errno) {
	t.Helper()
	if e != due {
		t.Fatalf("%s: %v, due is %v", what, e, due)
	}
}

// made is a disk of some room, with files of these bytes, all of them safe;
// "-" is a file that isn't there.
func made(t *testing.T, room int, files ...string) *disk.Disk {
	t.Helper()
	for _, s := range files {
		if s != "-" {
			room += len(s)
		}
	}
	d, e := disk.New(room)
	must(t, "New", e, api.OK)
	for i, s := range files {
		if s != "-" {
			must(t, "Append", d.Append(i, []byte(s)), api.OK)
			must(t, "Sync", d.Sync(i), api.OK)
		}
	}
	return d
}

// opened is the log that stands on d.
func opened(t *testing.T, d *disk.Disk) *log.Log {
	t.Helper()
	l, e := log.Open(d)
	must(t, "Open", e, api.OK)
	return l
}

// mustTell fails the test, if the log tells otherwise.
func mustTell(t *testing.T, what string, l *log.Log, want look) {
	t.Helper()
	if got := see(l); got != want {
		t.Fatalf("%s: %.300s, due is %.300s", what, fmt.Sprintf("%+v", got), fmt.Sprintf("%+v", want))
	}
}

// mustHave fails the test, if the disk has other files than these, all of them
// safe, or no power.
func mustHave(t *testing.T, what string, d *disk.Disk, files ...string) {
	t.Helper()
	want := state{room: d.Room()}
	for i, s := range files {
		if s != "-" {
			want.has[i], want.text[i], want.safe[i] = true, s, len(s)
		}
	}
	if got := watch(d); got != want {
		t.Fatalf("%s: %.300q, due is %.300q", what, fmt.Sprint(got), fmt.Sprint(want))
	}
}

// mustBeAsItWas fails the test, if the disk isn't what it was.
func mustBeAsItWas(t *testing.T, what string, d *disk.Disk, was state) {
	t.Helper()
	if got := watch(d); got != was {
		t.Fatalf("%s: %.300q, was %.300q", what, fmt.Sprint(got), fmt.Sprint(was))
	}
}

// lose ends a disk's power with a change that does nothing else.
func lose(t *testing.T, d *disk.Disk) {
	t.Helper()
	must(t, "Fuse", d.Fuse(0), api.OK)
	must(t, "Append", d.Append(7, nil), api.ErrLost)
}

// fuse is how many further changes go; -1, if it isn't lit.
func fuse(d *disk.Disk) int {
	c := d.Clone()
	for n := range 20 {
		if c.Append(7, nil) != api.OK {
			return n
		}
	}
	return -1
}

// tails are what may stand behind a log's last frame, and is none itself; of
// each it is said why.
func tails() map[string]string {
	good := framed("torn")
	damaged := good[:9] + "x" + good[10:]
	l := map[string]string{
		"a byte":                          "t",
		"a nought":                        "\x00",
		"a mark":                          "\xa5",
		"a frame of no bytes":             framed(""),
		"a frame of too many":             framed(somehow(api.MaxFrame + 1)),
		"a damaged one":                   damaged,
		"a damaged one, and a good one":   damaged + good,
		"a byte, and a good one":          "x" + good,
		"a frame of none, and a good one": framed("") + good,
		"many noughts":                    strings.Repeat("\x00", 70000),
	}
	for cut := 1; cut < len(good); cut++ {
		l[fmt.Sprint("a frame's first ", cut)] = good[:cut]
	}
	return l
}

// heads are what a file may begin with that makes it none that counts; of each
// it is said why.
func heads() map[string]string {
	l := map[string]string{
		"no bytes":                  "",
		"no frame":                  "what is this?",
		"a frame of no bytes":       framed(""),
		"a frame of a byte":         framed("\x01"),
		"a frame of three bytes":    framed("\x01\x01\x01"),
		"the generation 0":          due(0, ""),
		"the generation 0, more":    due(0, "image", "record"),
		"a number of one byte":      framed("\x09") + due(9, "image"),
		"a log behind a byte":       "x" + due(9, "image"),
		"a log behind a mark":       "\xa5" + due(9, "image"),
		"a log behind generation 0": due(0, "image") + due(9, "image"),
		"a number without a frame":  "\x01\x00\x00\x00image",
		"a damaged one":             due(9, "image")[:13] + "x",
	}
	whole := due(9, "im")
	for cut := range len(whole) {
		l[fmt.Sprint("a frame's first ", cut)] = whole[:cut]
	}
	return l
}
