package disk_test

import (
	"bytes"
	"math"
	"testing"

	"recoup/api"
	"recoup/disk"
)

// change is one of the five calls that a fuse counts.
type change struct {
	name string
	do   func(d *disk.Disk) api.Errno
}

// goodChanges all go on a sample.
func goodChanges() []change {
	return []change{
		{"Append", func(d *disk.Disk) api.Errno { return d.Append(1, []byte("12345")) }},
		{"Append of none", func(d *disk.Disk) api.Errno { return d.Append(1, nil) }},
		{"Append to a new file", func(d *disk.Disk) api.Errno { return d.Append(7, []byte("new")) }},
		{"Append of one to a new file", func(d *disk.Disk) api.Errno { return d.Append(6, []byte("n")) }},
		{"Append of none to a new file", func(d *disk.Disk) api.Errno { return d.Append(5, nil) }},
		{"Sync", func(d *disk.Disk) api.Errno { return d.Sync(1) }},
		{"Sync of what is safe", func(d *disk.Disk) api.Errno { return d.Sync(0) }},
		{"Cut", func(d *disk.Disk) api.Errno { return d.Cut(1, 2) }},
		{"Cut of nothing", func(d *disk.Disk) api.Errno { return d.Cut(0, 4) }},
		{"Rename", func(d *disk.Disk) api.Errno { return d.Rename(0, 2) }},
		{"Rename to a new file", func(d *disk.Disk) api.Errno { return d.Rename(0, 7) }},
		{"Remove", func(d *disk.Disk) api.Errno { return d.Remove(1) }},
	}
}

// refused is a call that a sample refuses, and with what.
type refused struct {
	change
	due api.Errno
}

// badCalls are all refused by a sample, though the power is there.
func badCalls() []refused {
	l := []refused{
		{change{"Append of too much", func(d *disk.Disk) api.Errno { return d.Append(0, make([]byte, 23)) }}, api.ErrFull},
		{change{"Append of too much to a new file", func(d *disk.Disk) api.Errno { return d.Append(7, make([]byte, 23)) }}, api.ErrFull},
		{change{"Sync of none", func(d *disk.Disk) api.Errno { return d.Sync(4) }}, api.ErrNone},
		{change{"Cut of none", func(d *disk.Disk) api.Errno { return d.Cut(4, 0) }}, api.ErrNone},
		{change{"Cut of none, below 0", func(d *disk.Disk) api.Errno { return d.Cut(4, -1) }}, api.ErrNone},
		{change{"Cut below 0", func(d *disk.Disk) api.Errno { return d.Cut(1, -1) }}, api.ErrArg},
		{change{"Cut far below 0", func(d *disk.Disk) api.Errno { return d.Cut(1, math.MinInt) }}, api.ErrArg},
		{change{"Cut above the size", func(d *disk.Disk) api.Errno { return d.Cut(1, 7) }}, api.ErrArg},
		{change{"Cut far above the size", func(d *disk.Disk) api.Errno { return d.Cut(1, math.MaxInt) }}, api.ErrArg},
		{change{"Rename of none", func(d *disk.Disk) api.Errno { return d.Rename(4, 5) }}, api.ErrNone},
		{change{"Rename of none to itself", func(d *disk.Disk) api.Errno { return d.Rename(4, 4) }}, api.ErrNone},
		{change{"Rename to itself", func(d *disk.Disk) api.Errno { return d.Rename(0, 0) }}, api.ErrArg},
		{change{"Rename of what is safe in part", func(d *disk.Disk) api.Errno { return d.Rename(1, 4) }}, api.ErrArg},
		{change{"Rename of what isn't safe", func(d *disk.Disk) api.Errno { return d.Rename(2, 4) }}, api.ErrArg},
		{change{"Remove of none", func(d *disk.Disk) api.Errno { return d.Remove(4) }}, api.ErrNone},
		{change{"Read of none", func(d *disk.Disk) api.Errno { return readError(d, 4) }}, api.ErrNone},
		{change{"Fuse below 0", func(d *disk.Disk) api.Errno { return d.Fuse(-1) }}, api.ErrArg},
		{change{"Fuse far below 0", func(d *disk.Disk) api.Errno { return d.Fuse(math.MinInt) }}, api.ErrArg},
	}
	for _, n := range wrongNumbers() {
		l = append(l, refusedNumber(n)...)
	}
	return l
}

// refusedNumber is the calls with a file's number that is none, beside what
// would be another error.
func refusedNumber(n int) []refused {
	return []refused{
		{change{"Append to a wrong number", func(d *disk.Disk) api.Errno { return d.Append(n, nil) }}, api.ErrArg},
		{change{"Append of too much to a wrong number", func(d *disk.Disk) api.Errno { return d.Append(n, make([]byte, 99)) }}, api.ErrArg},
		{change{"Sync of a wrong number", func(d *disk.Disk) api.Errno { return d.Sync(n) }}, api.ErrArg},
		{change{"Cut of a wrong number", func(d *disk.Disk) api.Errno { return d.Cut(n, 0) }}, api.ErrArg},
		{change{"Rename from a wrong number", func(d *disk.Disk) api.Errno { return d.Rename(n, 4) }}, api.ErrArg},
		{change{"Rename to a wrong number", func(d *disk.Disk) api.Errno { return d.Rename(0, n) }}, api.ErrArg},
		{change{"Rename of none to a wrong number", func(d *disk.Disk) api.Errno { return d.Rename(4, n) }}, api.ErrArg},
		{change{"Remove of a wrong number", func(d *disk.Disk) api.Errno { return d.Remove(n) }}, api.ErrArg},
		{change{"Read of a wrong number", func(d *disk.Disk) api.Errno { return readError(d, n) }}, api.ErrArg},
	}
}

// readError is a Read's error; ErrForm, if bytes come beside one.
func readError(d *disk.Disk, file int) api.Errno {
	b, e := d.Read(file)
	if e != api.OK && len(b) != 0 {
		return api.ErrForm
	}
	return e
}

// wrongNumbers are no file's.
func wrongNumbers() []int { return []int{-1, 8, math.MinInt, math.MaxInt, 1 << 32} }

func TestNewAsksTheCapacity(t *testing.T) {
	for _, c := range []int{-1, math.MinInt, 1<<20 + 1, math.MaxInt} {
		if d, e := disk.New(c); d != nil || e != api.ErrArg {
			t.Errorf("New(%d): %v, %v", c, d, e)
		}
	}
	for _, c := range []int{0, 1, 1<<20 - 1, 1 << 20} {
		if l := see(t, made(t, c)); l != (look{room: c, fuse: -1}) {
			t.Errorf("New(%d): %+v", c, l)
		}
	}
}

func TestTellsOfNoFile(t *testing.T) {
	d := sample(t)
	for _, n := range append(wrongNumbers(), 4, 5, 6, 7) {
		if d.Size(n) != 0 || d.Safe(n) != 0 || d.Has(n) {
			t.Errorf("file %d: %d, %d, %v", n, d.Size(n), d.Safe(n), d.Has(n))
		}
	}
}

func TestSampleIsAsItWasMade(t *testing.T) {
	due := look{
		has:   [files]bool{true, true, true, true},
		bytes: [files]string{"zero", "onetwo", "torntorn"},
		size:  [files]int{4, 6, 8, 0},
		safe:  [files]int{4, 3, 0, 0},
		room:  22,
		fuse:  -1,
	}
	if l := see(t, sample(t)); l != due {
		t.Errorf("%+v", l)
	}
}

func TestEachFileHasItsOwnBytes(t *testing.T) {
	d := made(t, 1<<20)
	for i := range files {
		must(t, "Append", d.Append(i, bytes.Repeat([]byte{byte(i)}, i+1)), api.OK)
	}
	for i := range files {
		b, e := d.Read(i)
		if e != api.OK || !bytes.Equal(b, bytes.Repeat([]byte{byte(i)}, i+1)) {
			t.Errorf("Read(%d): %v, %v", i, b, e)
		}
	}
	if d.Room() != 1<<20-36 {
		t.Error(d.Room())
	}
}

func TestAppendPutsBehind(t *testing.T) {
	d := made(t, 10)
	must(t, "Append", d.Append(3, []byte("ab")), api.OK)
	must(t, "Sync", d.Sync(3), api.OK)
	must(t, "Append", d.Append(3, []byte("cde")), api.OK)
	if l := see(t, d); l.bytes[3] != "abcde" || l.safe[3] != 2 || l.room != 5 {
		t.Errorf("%+v", l)
	}
}

func TestAppendOfNoneMakesTheFile(t *testing.T) {
	d := made(t, 0)
	must(t, "Append", d.Append(7, nil), api.OK)
	must(t, "Append", d.Append(0, []byte{}), api.OK)
	if l := see(t, d); !l.has[7] || !l.has[0] || l.size[7] != 0 || l.safe[7] != 0 {
		t.Errorf("%+v", l)
	}
	if b, e := d.Read(7); len(b) != 0 || e != api.OK {
		t.Error(b, e)
	}
}

func TestAppendAsksTheRoomOfAllFiles(t *testing.T) {
	d := made(t, 10)
	must(t, "Append", d.Append(0, make([]byte, 4)), api.OK)
	must(t, "Append", d.Append(1, make([]byte, 7)), api.ErrFull)
	if d.Has(1) || d.Room() != 6 {
		t.Error(d.Has(1), d.Room())
	}
	must(t, "Append", d.Append(1, make([]byte, 6)), api.OK)
	must(t, "Append", d.Append(0, make([]byte, 1)), api.ErrFull)
	must(t, "Append", d.Append(0, nil), api.OK)
	must(t, "Remove", d.Remove(0), api.OK)
	must(t, "Append", d.Append(2, make([]byte, 5)), api.ErrFull)
	must(t, "Append", d.Append(2, make([]byte, 4)), api.OK)
}

func TestAppendFillsTheGreatestDisk(t *testing.T) {
	d := made(t, 1<<20)
	must(t, "Append", d.Append(0, make([]byte, 1<<20+1)), api.ErrFull)
	must(t, "Append", d.Append(0, make([]byte, 1<<20)), api.OK)
	must(t, "Append", d.Append(1, make([]byte, 1)), api.ErrFull)
	if d.Room() != 0 || d.Size(0) != 1<<20 {
		t.Error(d.Room(), d.Size(0))
	}
}

func TestSyncMakesAllSafe(t *testing.T) {
	d := sample(t)
	for i, size := range []int{4, 6, 8, 0} {
		must(t, "Sync", d.Sync(i), api.OK)
		if d.Safe(i) != size || d.Size(i) != size {
			t.Errorf("file %d: %d of %d", i, d.Safe(i), d.Size(i))
		}
	}
}

func TestCutLeavesWhatIsSafe(t *testing.T) {
	for size := range 7 {
		d := sample(t)
		must(t, "Cut", d.Cut(1, size), api.OK)
		l := see(t, d)
		if l.bytes[1] != "onetwo"[:size] || l.safe[1] != size || !l.has[1] || l.room != 28-size {
			t.Errorf("Cut(1, %d): %+v", size, l)
		}
		must(t, "Append", d.Append(1, []byte("X")), api.OK)
		if l = see(t, d); l.bytes[1] != "onetwo"[:size]+"X" || l.safe[1] != size {
			t.Errorf("Append behind Cut(1, %d): %+v", size, l)
		}
	}
}

func TestRenameTakesThePlace(t *testing.T) {
	for _, to := range []int{1, 2, 3, 4, 7} {
		d := sample(t)
		due := see(t, d)
		due.room += due.size[to]
		due.has[to], due.bytes[to], due.size[to], due.safe[to] = true, "zero", 4, 4
		due.has[0], due.bytes[0], due.size[0], due.safe[0] = false, "", 0, 0
		must(t, "Rename", d.Rename(0, to), api.OK)
		if l := see(t, d); l != due {
			t.Errorf("Rename(0, %d): %+v", to, l)
		}
		must(t, "Rename again", d.Rename(0, to), api.ErrNone)
	}
}

func TestRenameOfAnEmptyFile(t *testing.T) {
	d := sample(t)
	must(t, "Rename", d.Rename(3, 1), api.OK)
	if l := see(t, d); l.has[3] || !l.has[1] || l.size[1] != 0 || l.safe[1] != 0 || l.room != 28 {
		t.Errorf("%+v", l)
	}
}

func TestRenamedFilesAreApart(t *testing.T) {
	d := sample(t)
	must(t, "Rename", d.Rename(0, 5), api.OK)
	must(t, "Append", d.Append(0, []byte("none")), api.OK)
	must(t, "Append", d.Append(5, []byte("+")), api.OK)
	if l := see(t, d); l.bytes[0] != "none" || l.safe[0] != 0 || l.bytes[5] != "zero+" || l.safe[5] != 4 {
		t.Errorf("%+v", l)
	}
}

func TestRemoveLeavesNothing(t *testing.T) {
	d := sample(t)
	must(t, "Remove", d.Remove(1), api.OK)
	if l := see(t, d); l.has[1] || l.size[1] != 0 || l.safe[1] != 0 || l.room != 28 {
		t.Errorf("%+v", l)
	}
	must(t, "Remove again", d.Remove(1), api.ErrNone)
	must(t, "Append", d.Append(1, []byte("new")), api.OK)
	if l := see(t, d); l.bytes[1] != "new" || l.safe[1] != 0 {
		t.Errorf("%+v", l)
	}
}

func TestRefusedCallsChangeNothing(t *testing.T) {
	for _, lit := range []int{-1, 0, 1, 2} {
		for _, c := range badCalls() {
			d := sample(t)
			if lit >= 0 {
				must(t, "Fuse", d.Fuse(lit), api.OK)
			}
			was := see(t, d)
			if e := c.do(d); e != c.due {
				t.Errorf("%s: %v, due is %v", c.name, e, c.due)
			}
			if l := see(t, d); l != was || l.fuse != lit {
				t.Errorf("%s, with a fuse of %d: %+v, was %+v", c.name, lit, l, was)
			}
		}
	}
}

func TestReadAndTellsChangeNothing(t *testing.T) {
	d := sample(t)
	must(t, "Fuse", d.Fuse(1), api.OK)
	was := see(t, d)
	for i := range 4 {
		if b, e := d.Read(i); string(b) != was.bytes[i] || e != api.OK {
			t.Errorf("Read(%d): %q, %v", i, b, e)
		}
	}
	if l := see(t, d); l != was || l.fuse != 1 {
		t.Errorf("%+v, was %+v", l, was)
	}
}

func TestNilDisk(t *testing.T) {
	var d *disk.Disk
	for _, n := range []int{0, 7, -1, 8} {
		for i, e := range []api.Errno{d.Append(n, []byte("a")), d.Append(n, nil), d.Sync(n), d.Cut(n, 0), d.Rename(n, 1), d.Rename(1, n), d.Remove(n), readError(d, n), d.Fuse(n)} {
			if e != api.ErrArg {
				t.Errorf("call %d of %d: %v", i, n, e)
			}
		}
		if d.Size(n) != 0 || d.Safe(n) != 0 || d.Has(n) {
			t.Errorf("file %d: %d, %d, %v", n, d.Size(n), d.Safe(n), d.Has(n))
		}
	}
	d.Restart([files]int{1, 2})
	if d.Room() != 0 || d.Lost() || d.Clone() != nil {
		t.Error(d.Room(), d.Lost(), d.Clone())
	}
}

func TestAppendLeavesAndKeepsNotWhatIsHandedIn(t *testing.T) {
	for _, lit := range []bool{false, true} {
		d := made(t, 100)
		if lit {
			must(t, "Fuse", d.Fuse(0), api.OK)
		}
		room := []byte("abcdefgh")
		d.Append(1, room[:4:8])
		d.Restart(keepAll())
		must(t, "Append", d.Append(1, []byte("XY")), api.OK)
		if string(room) != "abcdefgh" {
			t.Errorf("what was handed in: %q", room)
		}
		was := see(t, d)
		copy(room, "????????")
		if l := see(t, d); l != was {
			t.Errorf("%+v, was %+v", l, was)
		}
	}
}

func TestReadAnswersNewMemory(t *testing.T) {
	d := made(t, 100)
	for range 9 {
		must(t, "Append", d.Append(1, []byte("abcde")), api.OK)
	}
	must(t, "Cut", d.Cut(1, 5), api.OK)
	a, _ := d.Read(1)
	b, _ := d.Read(1)
	clear(a[:cap(a)])
	must(t, "Append", d.Append(1, []byte("fg")), api.OK)
	clear(a[:cap(a)])
	if string(b) != "abcde" {
		t.Errorf("another answer: %q", b)
	}
	if l := see(t, d); l.bytes[1] != "abcdefg" {
		t.Errorf("the disk: %q", l.bytes[1])
	}
	d.Append(1, bytes.Repeat([]byte("-"), 9))
	if len(bytes.Trim(a[:cap(a)], "\x00")) != 0 {
		t.Errorf("an answer that was told: %q", a[:cap(a)])
	}
}

func TestCloneIsLikeItAndApart(t *testing.T) {
	for lit := range 3 {
		d := sample(t)
		must(t, "Fuse", d.Fuse(lit), api.OK)
		was := see(t, d)
		for _, c := range goodChanges() {
			x, y := d.Clone(), d.Clone()
			if see(t, x) != was {
				t.Fatalf("a clone: %+v, was %+v", see(t, x), was)
			}
			c.do(x)
			if see(t, d) != was || see(t, y) != was {
				t.Errorf("%s reaches beyond its clone", c.name)
			}
		}
	}
}

func TestCloneSharesNoSpareRoom(t *testing.T) {
	d := sample(t)
	must(t, "Cut", d.Cut(2, 4), api.OK)
	c := d.Clone()
	must(t, "Append", d.Append(2, []byte("1111")), api.OK)
	must(t, "Append", c.Append(2, []byte("2222")), api.OK)
	if a, b := see(t, d).bytes[2], see(t, c).bytes[2]; a != "torn1111" || b != "torn2222" {
		t.Errorf("%q, %q", a, b)
	}
}

func TestLimitsAndErrors(t *testing.T) {
	for i, l := range [][2]int{
		{api.MaxFiles, 8}, {api.MaxDisk, 1 << 20}, {api.MaxRecord, 4000}, {api.MaxFrame, 60000},
		{api.MaxCents, 1 << 50}, {api.MaxOrders, 20}, {api.MaxLines, 8}, {api.MaxUnits, 200},
		{api.MaxTable, 16}, {api.MaxRMAs, 100}, {api.MaxDay, 100000}, {api.Points, 10000},
		{api.LabelDays, 14}, {api.ClaimDays, 30}, {api.LabelTries, 5}, {api.MaxWait, 8}, {api.MaxNet, 64},
	} {
		if l[0] != l[1] {
			t.Errorf("limit %d: %d, due is %d", i, l[0], l[1])
		}
	}
	for i, e := range []api.Errno{
		api.OK, api.ErrArg, api.ErrRange, api.ErrForm, api.ErrLong, api.ErrFull, api.ErrLost, api.ErrNone,
		api.ErrState, api.ErrMoney, api.ErrRule, api.ErrWindow, api.ErrFinal, api.ErrTaken, api.ErrStock,
		api.ErrMany, api.ErrOld,
	} {
		if int(e) != i {
			t.Errorf("error %d is %d", i, int(e))
		}
	}
}
