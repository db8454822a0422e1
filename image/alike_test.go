package image_test

import (
	"testing"

	"recoup/api"
	"recoup/command"
	"recoup/image"
	"recoup/saga"
)

func TestTwoNewSagasAreEqual(t *testing.T) {
	for k, c := range someConfigs() {
		mustEqual(t, create(t, c), create(t, c), true)
		for n, other := range someConfigs() {
			mustEqual(t, create(t, c), create(t, other), k == n)
		}
	}
	mustEqual(t, create(t, api.Config{}), create(t, api.Config{Orders: []api.Order{}, Supplies: []api.Supply{}, Table: []api.Policy{}}), true)
}

func TestEachSagaIsEqualToItselfAlone(t *testing.T) {
	l := someSagas(t)
	for k, a := range l {
		mustEqual(t, a, a, true)
		mustEqual(t, a, a.Clone(), true)
		for n, b := range l {
			mustEqual(t, a, b, k == n)
		}
	}
}

// Those that differ in one number aren't equal.
func TestOneChangeMakesUnequal(t *testing.T) {
	s := busy(t)
	for k, change := range changes() {
		other := changed(t, change)
		if image.Equal(s, other) || image.Equal(other, s) {
			t.Errorf("%d: %+v", k, other.Parts())
		}
		mustEqual(t, other, changed(t, change), true)
	}
}

// They are equal by what they have, however they came to it.
func TestWhatTheyCameByDoesNotMatter(t *testing.T) {
	a, b := inState(t, 4), inState(t, 4)
	take(t, a, grade(1, 0, 0), tick(2))
	take(t, b, grade(1, 0, 0))
	mustEqual(t, a, b, false)
	take(t, b, tick(1))
	mustEqual(t, a, b, false)
	take(t, b, tick(1))
	mustEqual(t, a, b, true)

	a, b = inState(t, 4), inState(t, 4)
	take(t, a, grade(1, 0, 0), grade(1, 1, 2))
	take(t, b, grade(1, 1, 2), grade(1, 0, 0))
	mustEqual(t, a, b, true)
	take(t, b, reply(2, true))
	mustEqual(t, a, b, false)
	take(t, a, reply(2, true))
	mustEqual(t, a, b, true)
}

// Days go by alike in one or more steps, if nothing is due on them.
func TestDaysInStepsAreEqual(t *testing.T) {
	a, b := create(t, sample()), create(t, sample())
	take(t, a, tick(30))
	for range 30 {
		mustEqual(t, a, b, false)
		take(t, b, tick(1))
	}
	mustEqual(t, a, b, true)
}

func TestARefusedCommandLeavesThemEqual(t *testing.T) {
	a, b := busy(t), busy(t)
	for _, c := range []command.Command{{}, tick(0), reply(99, true), of(command.Pick, 1), of(command.Cancel, 10), ask(0, 0), ask(2, 0), grade(4, 4, 0)} {
		if _, _, e := a.Take(c); e == api.OK {
			t.Error(c)
		}
		mustEqual(t, a, b, true)
	}
}

// What is decoded is equal to what was encoded, but not to what that is later.
func TestDecodedOnesAreEqual(t *testing.T) {
	for _, s := range someSagas(t) {
		first := mustDecode(t, mustEncode(t, s), s.Parts())
		second := mustDecode(t, mustEncode(t, first), s.Parts())
		for _, a := range []*saga.Saga{s, first, second} {
			for _, b := range []*saga.Saga{s, first, second} {
				mustEqual(t, a, b, true)
			}
		}
		take(t, first, tick(1))
		mustEqual(t, s, first, false)
		mustEqual(t, s, second, true)
		take(t, s, tick(1))
		mustEqual(t, s, first, true)
	}
}
