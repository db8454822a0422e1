package order_test

import (
	"bytes"
	"reflect"
	"slices"
	"sync"
	"testing"

	"recoup/api"
	"recoup/order"
)

// fill overwrites a list and its spare room.
func fill[T any](l []T, with T) {
	l = l[:cap(l)]
	for k := range l {
		l[k] = with
	}
}

// fillAll overwrites all that a config has.
func fillAll(c api.Config) {
	for _, o := range c.Orders {
		fill(o.Lines, api.Line{SKU: 77, Category: -1, Price: 77, Count: 77})
	}
	fill(c.Orders, api.Order{Day: -77})
	fill(c.Supplies, api.Supply{SKU: 77, Price: 77, Count: 77})
	fill(c.Table, api.Policy{Window: -77})
}

// room is a list with spare room behind it, full of one thing more.
func room[T any](l []T, more T) []T {
	return append(slices.Clone(l), more, more, more)[:len(l)]
}

// roomy is a config all of whose lists have spare room behind them: if it were
// read, the config would be another one, and not right.
func roomy(c api.Config) api.Config {
	orders := room(c.Orders, api.Order{Day: -1})
	for k := range orders {
		orders[k].Lines = room(orders[k].Lines, api.Line{SKU: -1, Count: 60})
	}
	return api.Config{Orders: orders, Supplies: room(c.Supplies, api.Supply{SKU: -1, Count: 60}), Table: room(c.Table, api.Policy{Window: -1})}
}

// whole is a config with its spare room, as new memory.
func whole(c api.Config) api.Config {
	orders := slices.Clone(c.Orders[:cap(c.Orders)])
	for k := range orders {
		lines := orders[k].Lines
		orders[k].Lines = slices.Clone(lines[:cap(lines)])
	}
	return api.Config{Orders: orders, Supplies: slices.Clone(c.Supplies[:cap(c.Supplies)]), Table: slices.Clone(c.Table[:cap(c.Table)])}
}

func TestAConfigIsLeftAsItIs(t *testing.T) {
	for _, plain := range append(someConfigs(), wrongConfigs()...) {
		c := roomy(plain)
		before := whole(c)
		order.Right(c)
		l, _ := order.Units(c)
		fill(l, order.Unit{Order: 77})
		b, _ := order.Encode(c)
		fill(b, 'X')
		fillAll(order.Clone(c))
		order.Equal(c, c)
		order.Equal(c, sample())
		order.Equal(sample(), c)
		order.Price(c, 5)
		order.Price(c, -1)
		if !dueEqual(whole(c), before) {
			t.Error(before, "is now", whole(c))
		}
	}
}

func TestBytesAreLeftAsTheyAre(t *testing.T) {
	for _, c := range someConfigs() {
		b := dueBytes(c)
		for _, b := range [][]byte{b, b[:len(b)-1], append(b, 0), {}, {255, 255}} {
			part := room(b, 1)
			all := part[:cap(part)]
			before := bytes.Clone(all)
			got, _ := order.Decode(part)
			fillAll(got)
			if !bytes.Equal(all, before) {
				t.Error(before, "are now", all)
			}
		}
	}
}

func TestSpareRoomIsNotRead(t *testing.T) {
	for _, c := range someConfigs() {
		mustBeRight(t, roomy(c))
		mustEqual(t, roomy(c), c, true)
		mustEqual(t, roomy(c), order.Clone(roomy(c)), true)
		mustNotCost(t, roomy(c), -1)
		mustDecode(t, room(dueBytes(c), 1), c)
	}
	b := dueBytes(sample())
	for n := range b {
		mustNotDecode(t, b[:n])
	}
	mustDecode(t, append(b, 1, 2, 3)[:len(b)], sample())
}

func TestACloneIsNewMemory(t *testing.T) {
	for _, c := range append(someConfigs(), wrongConfigs()...) {
		own := roomy(c)
		first, second := order.Clone(own), order.Clone(own)
		fillAll(second)
		if !dueEqual(first, c) || !dueEqual(own, c) {
			t.Error(c, first, own)
		}
		fillAll(own)
		if !dueEqual(first, c) {
			t.Error(first, "was", c)
		}
	}
}

// No two lists of one answer have memory in common, spare room too.
func TestListsAreNewMemoryEach(t *testing.T) {
	for _, c := range someConfigs() {
		got, _ := order.Decode(dueBytes(c))
		for _, d := range []api.Config{got, order.Clone(c), order.Clone(roomy(c))} {
			for k := range d.Orders {
				before := order.Clone(d)
				fill(d.Orders[k].Lines, api.Line{SKU: 5 + k})
				before.Orders[k].Lines = slices.Repeat([]api.Line{{SKU: 5 + k}}, len(before.Orders[k].Lines))
				if !dueEqual(d, before) {
					t.Error(before, "is", d)
				}
			}
		}
	}
}

func TestUnitsAndBytesAreNewMemory(t *testing.T) {
	for _, c := range someConfigs() {
		own := order.Clone(c)
		units, _ := order.Units(own)
		others, _ := order.Units(own)
		b, _ := order.Encode(own)
		again, _ := order.Encode(own)
		fill(others, order.Unit{Order: 77})
		fill(again, 'X')
		fillAll(own)
		if !slices.Equal(units, dueUnits(c)) || !bytes.Equal(b, dueBytes(c)) {
			t.Error(c, units, b)
		}
		mustBeRight(t, c)
	}
}

func TestADecodedConfigIsNewMemory(t *testing.T) {
	for _, c := range someConfigs() {
		b := dueBytes(c)
		first, _ := order.Decode(b)
		second, _ := order.Decode(b)
		fill(b, 255)
		fillAll(second)
		if !dueEqual(first, c) {
			t.Error(first, "was", c)
		}
		mustDecode(t, dueBytes(c), c)
	}
}

// All of a config is asked, copied and written: it has no field that these
// tests don't know.
func TestAConfigHasTheseFields(t *testing.T) {
	for of, want := range map[reflect.Type]int{reflect.TypeFor[api.Config](): 3, reflect.TypeFor[api.Order](): 5, reflect.TypeFor[api.Line](): 4, reflect.TypeFor[api.Supply](): 3, reflect.TypeFor[order.Unit](): 4} {
		if of.NumField() != want {
			t.Error(of, of.NumField())
		}
	}
}

// Nothing is kept from call to call: what was refused or told before doesn't
// matter, nor who else asks.
func TestAnswersHangOnTheArgumentsAlone(t *testing.T) {
	var all sync.WaitGroup
	right, wrong := someConfigs(), wrongConfigs()[:20]
	cut := dueBytes(sample())[:50]
	for range 4 {
		all.Go(func() {
			for range 10 {
				for _, c := range right {
					mustBeRight(t, c)
					mustNotDecode(t, cut)
					mustEqual(t, c, order.Clone(c), true)
					mustNotCost(t, c, -1)
				}
				for _, c := range wrong {
					mustBeWrong(t, c)
				}
			}
		})
	}
	all.Wait()
}
