package image_test

import (
	"bytes"
	"slices"
	"sync"
	"testing"

	"recoup/api"
	"recoup/image"
	"recoup/saga"
)

// room are bytes with spare room behind them, which says what they begin with.
func room(b []byte) []byte { return append(append(slices.Clone(b), b...), 1)[:len(b)] }

// fill overwrites bytes and their spare room.
func fill(b []byte, with byte) {
	b = b[:cap(b)]
	for k := range b {
		b[k] = with
	}
}

// use takes all commands that there are, of which many are taken.
func use(s *saga.Saga) {
	for range 2 {
		for _, c := range someCommands() {
			s.Take(c)
		}
	}
}

func TestASagaIsLeftAsItIs(t *testing.T) {
	for _, s := range someSagas(t) {
		before := s.Parts()
		for range 3 {
			b, _ := image.Encode(s)
			fill(b, 77)
			image.Equal(s, s)
			image.Equal(s, nil)
			image.Equal(nil, s)
			image.Equal(s, busy(t))
			if !alike(s.Parts(), before) {
				t.Fatalf("%+v; was %+v", s.Parts(), before)
			}
		}
		mustEncode(t, s)
	}
}

// The bytes of one answer are no other's, not even their spare room.
func TestBytesAreNewMemory(t *testing.T) {
	for _, s := range someSagas(t) {
		first, _ := image.Encode(s)
		second, _ := image.Encode(s)
		want := dueBytes(s.Parts())
		_ = append(second, 9)
		fill(second, 255)
		if !bytes.Equal(first, want) {
			t.Error(first)
		}
		third, _ := image.Encode(s)
		fill(first, 254)
		if !bytes.Equal(third, want) {
			t.Error(third)
		}
	}
}

// What was encoded stays, whatever is taken afterwards.
func TestBytesStay(t *testing.T) {
	for _, s := range someSagas(t) {
		b, _ := image.Encode(s)
		want := dueBytes(s.Parts())
		use(s)
		if !bytes.Equal(b, want) {
			t.Error(b)
		}
	}
}

func TestBytesAreLeftAsTheyAre(t *testing.T) {
	for _, s := range someSagas(t) {
		b := room(dueBytes(s.Parts()))
		before := slices.Clone(b[:cap(b)])
		got := mustDecode(t, b, s.Parts())
		use(got)
		mustNotDecode(t, b[:len(b)-1])
		mustNotDecode(t, b[:len(b)+1])
		if !bytes.Equal(b[:cap(b)], before) {
			t.Error(b[:cap(b)], "was", before)
		}
	}
}

// What is behind the bytes, as their spare room, isn't read.
func TestSpareRoomIsNotRead(t *testing.T) {
	for _, s := range someSagas(t) {
		b := dueBytes(s.Parts())
		for _, n := range []int{len(b) - 1, len(b) - 2, len(b) - 20, len(b) / 2, 1, 0} {
			mustNotDecode(t, b[:max(n, 0)])
		}
	}
}

func TestBytesMayBeChangedAfterwards(t *testing.T) {
	for _, s := range someSagas(t) {
		b := room(dueBytes(s.Parts()))
		got := mustDecode(t, b, s.Parts())
		fill(b, 255)
		mustTellAlike(t, got, s)
		for _, c := range someCommands()[:20] {
			mustGoOnAlike(t, s, got, c)
		}
	}
}

// Two that were decoded of the same bytes have nothing in common.
func TestDecodedOnesHaveNothingInCommon(t *testing.T) {
	for _, s := range someSagas(t) {
		b := dueBytes(s.Parts())
		first, second := mustDecode(t, b, s.Parts()), mustDecode(t, b, s.Parts())
		if first == second {
			t.Error("both are one")
		}
		use(first)
		mustTellAlike(t, second, s)
		use(s)
		mustDecode(t, b, second.Parts())
	}
}

// Nothing is kept from call to call: what was refused or told before doesn't
// matter, nor who else asks.
func TestAnswersHangOnTheArgumentsAlone(t *testing.T) {
	var all sync.WaitGroup
	shared, wide := busy(t), changed(t, func(p *saga.Parts) { p.Next = 1 << 32 })
	want, parts := dueBytes(shared.Parts()), shared.Parts()
	for range 4 {
		all.Go(func() {
			for range 30 {
				if b, e := image.Encode(shared); e != api.OK || !bytes.Equal(b, want) {
					t.Error(b, e)
				}
				mustNotEncode(t, wide)
				mustNotDecode(t, want[:len(want)-1])
				if s, e := image.Decode(want); e != api.OK || !alike(s.Parts(), parts) || !image.Equal(s, shared) {
					t.Error(e)
				}
				mustEqual(t, shared, wide, false)
			}
		})
	}
	all.Wait()
}

// A refused Decode leaves nothing behind for the next one, nor does one that was
// answered.
func TestDecodeInAnyOrder(t *testing.T) {
	l := someSagas(t)
	for k := range 4 * len(l) {
		s := l[k*7%len(l)]
		b := dueBytes(s.Parts())
		mustNotDecode(t, b[1:])
		mustDecode(t, b, s.Parts())
		mustNotDecode(t, append(b, 0))
	}
}
