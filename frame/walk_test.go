package frame_test

import (
	"math/rand"
	"testing"

	"recoup/api"
	"recoup/frame"
)

// someTexts are few, and mostly short; some look like frames.
func someTexts(r *rand.Rand) []string {
	texts := make([]string, r.Intn(8))
	for k := range texts {
		b := make([]byte, 1+r.Intn(1<<r.Intn(9)))
		r.Read(b)
		texts[k] = string(b)
		if r.Intn(5) == 0 {
			texts[k] = due(texts[k])
		}
	}
	return texts
}

// framed is the frames of some texts, made by Frame, one behind the other.
func framed(t *testing.T, texts []string) string {
	t.Helper()
	var all []byte
	for _, text := range texts {
		b, e := frame.Frame([]byte(text))
		if e != api.OK {
			t.Fatal(e)
		}
		all = append(all, b...)
	}
	return string(all)
}

func TestWhatWasFramedIsTold(t *testing.T) {
	for seed := range int64(1000) {
		r := rand.New(rand.NewSource(seed))
		texts := someTexts(r)
		whole := framed(t, texts)
		if whole != dues(texts...) {
			t.Fatalf("walk %d: not the frames that are due", seed)
		}
		mustTell(t, "whole", whole, texts...)
		part := framed(t, []string{"part" + somehow(r.Intn(300))})
		mustTell(t, "and part of another", whole+part[:r.Intn(len(part))], texts...)
	}
}

func TestWhatWasFramedIsToldUpToAFault(t *testing.T) {
	for seed := range int64(1000) {
		r := rand.New(rand.NewSource(seed))
		texts := append(someTexts(r), "last")
		b, places := []byte(framed(t, texts)), whatIsDue(texts...)
		at, n := r.Intn(len(b)), 0
		for places[n].place <= at {
			n++
		}
		if r.Intn(2) == 0 {
			b[at] ^= byte(1 + r.Intn(255))
		} else {
			b = b[:at]
		}
		mustTell(t, "faulty", string(b), texts[:n]...)
	}
}

// TestAnyBytesThatAreToldAreFrames: what is told of any bytes, framed again, is
// those bytes, up to Whole.
func TestAnyBytesThatAreToldAreFrames(t *testing.T) {
	for seed := range int64(1000) {
		r := rand.New(rand.NewSource(seed))
		b := make([]byte, r.Intn(60))
		r.Read(b)
		b = append([]byte(dues(someTexts(r)...)), b...)
		for k := r.Intn(3); k > 0 && len(b) > 0; k-- {
			b[r.Intn(len(b))] ^= byte(r.Intn(4))
		}
		mustBeFrames(t, b)
	}
}

// mustBeFrames fails the test, if what is told of b is other than what b has.
func mustBeFrames(t *testing.T, b []byte) {
	t.Helper()
	var texts []string
	for _, x := range allOf(b) {
		texts = append(texts, x.text)
	}
	n := frame.Whole(b)
	if n < 0 || n > len(b) || framed(t, texts) != string(b[:n]) {
		t.Fatalf("of % x %d are told as %q", b, n, texts)
	}
	if text, size, e := frame.First(b[n:]); len(text) != 0 || size != 0 || e != api.ErrForm {
		t.Fatalf("% x: behind the last one a frame is left: %q", b, text)
	}
}
