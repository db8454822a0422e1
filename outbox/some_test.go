package outbox_test

import "recoup/outbox"

// someNumbers are of any kind; some are alike, if they lose their upper half or
// their sign.
func someNumbers() []int {
	return []int{0, 1, 2, 3, 4, 5, 7, 100, 1000, 65536, 65537, -1, -2, -3, -5, -65536, 1 << 32, 1<<32 + 1, -1 << 32, 1 << 62, -1 << 62, greatest, greatest - 1, smallest, smallest + 1}
}

// noKinds are none of 1 to 4; some of them are, if they lose their upper half or
// their sign.
func noKinds() []int {
	return []int{0, -1, -2, -3, -4, 5, 6, 8, 17, 256, 257, 260, 65537, 1 << 32, 1<<32 + 1, 1<<32 + 4, -1 << 32, greatest, greatest - 1, smallest, smallest + 1, smallest + 4}
}

// message is one of a key and a kind, said so many times, and due on a day.
func message(key, kind, tries, day int) outbox.Message {
	return outbox.Message{Key: key, Kind: kind, RMA: key%3 + 1, Value: int64(key) * 10, Tries: tries, Due: day}
}

// mixed is a pair of n messages put, some of them of a return, a kind or a day.
func mixed(n int) pair {
	p := begin()
	for k := range n {
		kind, rma, value, now := k%4+1, k%3, int64(k*k), k*7%5
		p.o.Put(kind, rma, value, now)
		p.l = append(p.l, outbox.Message{Key: k + 1, Kind: kind, RMA: rma, Value: value, Tries: 1, Due: now + 1})
		p.next++
	}
	return p
}
