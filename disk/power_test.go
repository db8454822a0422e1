package disk_test

import (
	"math"
	"testing"

	"recoup/api"
	"recoup/disk"
)

// torn is what a sample looks like when the power ended with a change: as it
// was, but for half of what an Append brought.
func torn(was look, name string) look {
	was.lost, was.fuse = true, -1
	file, half := -1, ""
	switch name {
	case "Append":
		file, half = 1, "12"
	case "Append of none":
		file = 1
	case "Append to a new file":
		file, half = 7, "n"
	case "Append of one to a new file":
		file = 6
	case "Append of none to a new file":
		file = 5
	}
	if file >= 0 {
		was.has[file] = true
		was.bytes[file] += half
		was.size[file] += len(half)
		was.room -= len(half)
	}
	return was
}

func TestTheDocumentsExample(t *testing.T) {
	d := made(t, 20)
	must(t, "Fuse", d.Fuse(0), api.OK)
	must(t, "Append", d.Append(1, []byte("four")), api.ErrLost)
	if !d.Lost() || !d.Has(1) || d.Size(1) != 2 || d.Safe(1) != 0 || d.Room() != 18 {
		t.Errorf("%+v", see(t, d))
	}
}

func TestThePowerEndsWithEachChange(t *testing.T) {
	for _, c := range goodChanges() {
		d := sample(t)
		due := torn(see(t, d), c.name)
		must(t, "Fuse", d.Fuse(0), api.OK)
		must(t, c.name, c.do(d), api.ErrLost)
		if l := see(t, d); l != due {
			t.Errorf("%s: %+v, due is %+v", c.name, l, due)
		}
	}
}

func TestHalfIsRoundedDown(t *testing.T) {
	for n := range 9 {
		d := made(t, 8)
		must(t, "Fuse", d.Fuse(0), api.OK)
		must(t, "Append", d.Append(2, []byte("abcdefgh")[:n]), api.ErrLost)
		if l := see(t, d); !l.has[2] || l.bytes[2] != "abcdefgh"[:n/2] || l.safe[2] != 0 {
			t.Errorf("%d bytes: %+v", n, l)
		}
	}
}

func TestSoManyChangesGo(t *testing.T) {
	for n := range 4 {
		for _, c := range goodChanges() {
			d := sample(t)
			must(t, "Fuse", d.Fuse(n), api.OK)
			for range n {
				must(t, "Append", d.Append(4, []byte("-")), api.OK)
			}
			must(t, c.name, c.do(d), api.ErrLost)
			if !d.Lost() || d.Size(4) != n {
				t.Errorf("%s behind %d: %v, %d", c.name, n, d.Lost(), d.Size(4))
			}
		}
	}
}

func TestEachChangeIsCountedAndGoesAsItDoes(t *testing.T) {
	for _, c := range goodChanges() {
		plain, lit := sample(t), sample(t)
		must(t, "Fuse", lit.Fuse(3), api.OK)
		must(t, c.name, c.do(plain), api.OK)
		must(t, c.name, c.do(lit), api.OK)
		due := see(t, plain)
		due.fuse = 2
		if l := see(t, lit); l != due {
			t.Errorf("%s: %+v, due is %+v", c.name, l, due)
		}
	}
}

func TestWithoutAFuseThePowerStays(t *testing.T) {
	d := made(t, 10)
	for range 5000 {
		must(t, "Append", d.Append(0, []byte("a")), api.OK)
		must(t, "Cut", d.Cut(0, 0), api.OK)
	}
}

func TestAFuseTakesTheOtherOnesPlace(t *testing.T) {
	for _, l := range [][2]int{{0, 2}, {2, 0}, {1, math.MaxInt}} {
		d := sample(t)
		must(t, "Fuse", d.Fuse(l[0]), api.OK)
		must(t, "Fuse", d.Fuse(l[1]), api.OK)
		due := l[1]
		if due == math.MaxInt {
			due = -1
		}
		if n := fuse(d); n != due {
			t.Errorf("Fuse(%d), Fuse(%d): %d", l[0], l[1], n)
		}
	}
}

// lose ends a disk's power with a change that does nothing else.
func lose(t *testing.T, d *disk.Disk) {
	t.Helper()
	must(t, "Fuse", d.Fuse(0), api.OK)
	must(t, "Sync", d.Sync(0), api.ErrLost)
}

func TestALostDiskOnlyTells(t *testing.T) {
	d := sample(t)
	lose(t, d)
	was := see(t, d)
	for _, c := range goodChanges() {
		must(t, c.name, c.do(d), api.ErrLost)
	}
	for _, c := range badCalls() {
		must(t, c.name, c.do(d), api.ErrLost)
	}
	for i, e := range []api.Errno{d.Fuse(0), d.Fuse(9), readError(d, 0), readError(d, 3)} {
		if e != api.ErrLost {
			t.Error(i, e)
		}
	}
	due := see(t, sample(t))
	due.lost = true
	if l := see(t, d); l != was || l != due {
		t.Errorf("%+v, due is %+v", l, due)
	}
	if c := d.Clone(); !c.Lost() || c.Sync(0) != api.ErrLost || see(t, c) != was {
		t.Error("the clone of a lost disk")
	}
}

func TestRestartKeepsSoManyBytes(t *testing.T) {
	for keep, left := range map[int]int{math.MinInt: 0, -1: 0, 0: 0, 1: 1, 2: 2, 3: 3, 4: 3, 5: 3, 6: 3, 1 << 40: 3, math.MaxInt: 3, math.MaxInt - 2: 3} {
		for _, lost := range []bool{false, true} {
			d := sample(t)
			if lost {
				lose(t, d)
			}
			due := see(t, d)
			due.lost = false
			due.bytes[1], due.size[1], due.safe[1] = "onetwo"[:3+left], 3+left, 3+left
			due.bytes[2], due.size[2] = "", 0
			due.room = 33 - left
			d.Restart([files]int{1: keep})
			if l := see(t, d); l != due {
				t.Errorf("keep %d: %+v, due is %+v", keep, l, due)
			}
		}
	}
}

func TestRestartAsksEachFilesKeep(t *testing.T) {
	d := made(t, 200)
	var keep [files]int
	for i := range files {
		put(t, d, i, "safe+torntorn", 4)
		keep[i] = i
	}
	d.Restart(keep)
	for i := range files {
		b, e := d.Read(i)
		if string(b) != "safe+torntorn"[:4+i] || e != api.OK || d.Safe(i) != 4+i {
			t.Errorf("file %d: %q, %v, %d", i, b, e, d.Safe(i))
		}
	}
}

func TestRestartPutsTheFuseOut(t *testing.T) {
	for n := range 3 {
		d := sample(t)
		must(t, "Fuse", d.Fuse(n), api.OK)
		d.Restart(keepAll())
		if fuse(d) != -1 {
			t.Errorf("a fuse of %d still burns", n)
		}
		lose(t, d)
		d.Restart(keepAll())
		if fuse(d) != -1 || d.Lost() {
			t.Error("the power isn't there")
		}
	}
}

func TestRestartOfWhatIsSafeChangesNothing(t *testing.T) {
	d := sample(t)
	d.Restart([files]int{2: 5})
	was := see(t, d)
	d.Restart([files]int{})
	if l := see(t, d); l != was || l.bytes[2] != "torntorn"[:5] || l.safe[2] != 5 {
		t.Errorf("%+v, was %+v", l, was)
	}
}

func TestRestartMakesNoFile(t *testing.T) {
	d := made(t, 10)
	must(t, "Append", d.Append(6, []byte("gone")), api.OK)
	d.Restart([files]int{0: 3, 7: 9})
	if l := see(t, d); l != (look{has: [files]bool{6: true}, room: 10, fuse: -1}) {
		t.Errorf("%+v", l)
	}
}
