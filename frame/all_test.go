package frame_test

import (
	"slices"
	"strings"
	"testing"

	"recoup/frame"
)

func TestFramesOneBehindTheOther(t *testing.T) {
	texts := goodTexts()
	mustTell(t, "all", dues(texts...), texts...)
	for _, text := range texts {
		mustTell(t, "one", due(text), text)
		mustTell(t, "the same twice", dues(text, text), text, text)
		mustTell(t, "with a short one", dues("s", text, "s"), "s", text, "s")
	}
}

func TestPartOfAnotherFrameBehindThem(t *testing.T) {
	texts := []string{"one", "two", due("three")}
	whole, part := dues(texts...), due("four")
	for cut := range len(part) {
		mustTell(t, "part", whole+part[:cut], texts...)
		mustTell(t, "part alone", part[:cut])
	}
	mustTell(t, "whole", whole+part, append(texts, "four")...)
}

func TestCutAnywhereTheFramesAheadAreTold(t *testing.T) {
	texts := []string{"a", "bc", due("d"), "efgh", somehow(20)}
	whole, places := dues(texts...), whatIsDue(texts...)
	for cut := range len(whole) + 1 {
		n := 0
		for n < len(places) && places[n].place <= cut {
			n++
		}
		mustTell(t, "cut", whole[:cut], texts[:n]...)
	}
}

func TestWhatIsBehindABadFrameIsNotTold(t *testing.T) {
	texts := []string{"a", "bc", "def"}
	whole, places := dues(texts...), whatIsDue(texts...)
	for at := range len(whole) {
		b := []byte(whole)
		b[at] ^= 0x80
		n := 0
		for places[n].place <= at {
			n++
		}
		mustTell(t, "changed", string(b), texts[:n]...)
	}
}

func TestAFrameWithinAFrameIsBytes(t *testing.T) {
	inner := dues("a", "b")
	mustTell(t, "within", dues(inner, "c"), inner, "c")
}

func TestManyFrames(t *testing.T) {
	texts := slices.Repeat([]string{"x", "yz", strings.Repeat("w", 90)}, 5000)
	mustTell(t, "many", dues(texts...)+"\xa5", texts...)
}

func TestAllOfNone(t *testing.T) {
	for _, b := range [][]byte{nil, {}} {
		for n, text := range frame.All(b) {
			t.Error(n, text)
		}
	}
}

func TestWhoHasEnoughStops(t *testing.T) {
	texts := []string{"a", "bc", "def", "ghij"}
	want := whatIsDue(texts...)
	all := frame.All([]byte(dues(texts...) + "\xa5\x01"))
	for enough := range len(texts) + 2 {
		var got []told
		// By hand: a range would panic, instead of telling that it went on.
		all(func(n int, text []byte) bool {
			got = append(got, told{n, string(text)})
			return len(got) < enough
		})
		if due := want[:min(max(enough, 1), len(want))]; !slices.Equal(got, due) {
			t.Errorf("enough are %d: %v, due is %v", enough, got, due)
		}
	}
}

func TestStoppedAndBegunAgain(t *testing.T) {
	texts := []string{"a", "bc", "def"}
	all := frame.All([]byte(dues(texts...)))
	for range 3 {
		for n, text := range all {
			if n != 8 || string(text) != "a" {
				t.Fatal(n, text)
			}
			break
		}
		var got []told
		for n, text := range all {
			got = append(got, told{n, string(text)})
		}
		if !slices.Equal(got, whatIsDue(texts...)) {
			t.Fatal(got)
		}
	}
}

func TestRangesWithinRanges(t *testing.T) {
	texts := []string{"a", "bc", "def"}
	all, want := frame.All([]byte(dues(texts...))), whatIsDue(texts...)
	var outer []told
	for n, text := range all {
		outer = append(outer, told{n, string(text)})
		var inner []told
		for n, text := range all {
			inner = append(inner, told{n, string(text)})
		}
		if !slices.Equal(inner, want) {
			t.Error(inner)
		}
	}
	if !slices.Equal(outer, want) {
		t.Error(outer)
	}
}

func TestAllsAreApart(t *testing.T) {
	x, y := frame.All([]byte(dues("a", "b"))), frame.All([]byte(due("c")))
	var got string
	for _, p := range x {
		for _, q := range y {
			got += string(p) + string(q)
		}
	}
	if got != "acbc" {
		t.Error(got)
	}
}

func TestNobodyAsksForFrames(t *testing.T) {
	for _, b := range []string{"", "abc", dues("a", "b")} {
		frame.All([]byte(b))(nil)
	}
}
