package query_test

import (
	"strconv"
	"testing"

	"recoup/api"
	"recoup/query"
	"recoup/rma"
	"recoup/saga"
)

func mustRead(t *testing.T, s *saga.Saga, number int, want string) {
	t.Helper()
	if got, e := query.Line(s, number); got != want || e != api.OK {
		t.Errorf("Line(%d): %q, %d; want %q", number, got, e, want)
	}
}

func TestALineOfEachState(t *testing.T) {
	s := busy(t)
	for number, want := range []string{
		"return 1: open worth 0.00 paid 0.00 credited 0.00 given 0.00",
		"return 2: labelled worth 0.00 paid 0.00 credited 0.00 given 0.00",
		"return 3: moving worth 0.00 paid 0.00 credited 0.00 given 0.00",
		"return 4: docked worth 0.00 paid 0.00 credited 0.00 given 0.00",
		"return 5: settling worth 9.90 paid 0.00 credited 0.00 given 0.00",
		"return 6: closed worth 4.95 paid 0.00 credited 4.95 given 0.00",
		"return 7: denied worth 0.00 paid 0.00 credited 0.00 given 0.00",
		"return 8: expired worth 0.00 paid 0.00 credited 0.00 given 0.00",
		"return 9: cancelled worth 0.00 paid 0.00 credited 0.00 given 0.00",
	} {
		mustRead(t, s, number+1, want)
	}
}

func TestTheLineOfTheChapter(t *testing.T) {
	s := create(t, sample())
	said := take(t, s, grade(dock(t, s, ask(0, 3)), 3, 0))
	mustRead(t, s, 1, "return 1: settling worth 9.90 paid 0.00 credited 0.00 given 0.00")
	take(t, s, reply(said[0].Key, true))
	mustRead(t, s, 1, "return 1: closed worth 9.90 paid 9.90 credited 0.00 given 0.00")
}

func TestALineOfAnExchange(t *testing.T) {
	s := busy(t)
	for _, m := range s.Outbox().All() {
		if m.RMA == 5 {
			take(t, s, reply(m.Key, true))
		}
	}
	mustRead(t, s, 5, "return 5: closed worth 9.90 paid 0.90 credited 0.00 given 9.00")
}

// Each sum stands at its word, in dollars and two digits of cents.
func TestTheSumsOfALine(t *testing.T) {
	for sum, want := range map[int64]string{
		0: "0.00", 1: "0.01", 9: "0.09", 10: "0.10", 11: "0.11", 50: "0.50", 99: "0.99", 100: "1.00", 101: "1.01", 109: "1.09", 110: "1.10", 999: "9.99",
		1000: "10.00", 1005: "10.05", 12345: "123.45", 99999: "999.99", 100000: "1000.00", 123456789: "1234567.89",
		1<<31 - 1: "21474836.47", 1 << 31: "21474836.48", 1 << 32: "42949672.96", richest - 1: "11258999068426.23", richest: "11258999068426.24",
	} {
		mustRead(t, with(t, rma.Closed, sum, 0, 0, 0), 1, "return 1: closed worth "+want+" paid 0.00 credited 0.00 given 0.00")
		mustRead(t, with(t, rma.Settling, 7, sum, 8, 9), 1, "return 1: settling worth 0.07 paid "+want+" credited 0.08 given 0.09")
		mustRead(t, with(t, rma.Docked, 7, 8, sum, 9), 1, "return 1: docked worth 0.07 paid 0.08 credited "+want+" given 0.09")
		mustRead(t, with(t, rma.Denied, 7, 8, 9, sum), 1, "return 1: denied worth 0.07 paid 0.08 credited 0.09 given "+want)
	}
}

func TestTheNumberOfALine(t *testing.T) {
	s := many(t)
	for number := 1; number <= 100; number++ {
		state := "cancelled"
		if number%10 == 0 {
			state = "denied"
			if number > 50 {
				state = "open"
			}
		}
		mustRead(t, s, number, "return "+strconv.Itoa(number)+": "+state+" worth 0.00 paid 0.00 credited 0.00 given 0.00")
	}
}
