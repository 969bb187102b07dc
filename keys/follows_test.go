package keys_test

import (
	"cmp"
	"slices"
	"testing"

	"boomerang/api"
	"boomerang/keys"
)

// numbers is a row of numbers that is the same each time.
type numbers uint64

func (n *numbers) below(m int) int {
	*n = *n*6364136223846793005 + 1442695040888963407
	return int((uint64(*n) >> 33) % uint64(m))
}

func shuffled[T any](r *numbers, l []T) []T {
	l = slices.Clone(l)
	for i := len(l) - 1; i > 0; i-- {
		j := r.below(i + 1)
		l[i], l[j] = l[j], l[i]
	}
	return l
}

// some is an event out of few, so that keys and IDs often come twice.
func some(r *numbers) api.Event {
	e := event(r.below(3), r.below(2)-1, r.below(2)-1, r.below(2), 0)
	if r.below(4) == 0 {
		e.Data = r.below(2)
	}
	return e
}

// ahead tells by the document's words alone whether an event stands ahead of another one.
func ahead(a, b api.Event) bool {
	return cmp.Or(cmp.Compare(a.At, b.At), cmp.Compare(a.Src, b.Src), cmp.Compare(a.Sent, b.Sent), cmp.Compare(a.No, b.No)) < 0
}

// plainSort puts each event behind all those that it is not ahead of.
func plainSort(l []api.Event) (s []api.Event) {
	for _, e := range l {
		i := len(s)
		for i > 0 && ahead(e, s[i-1]) {
			i--
		}
		s = slices.Insert(s, i, e)
	}
	return s
}

// plainSettle holds each message against each other one.
func plainSettle(l []api.Message) (left []api.Message, e api.Errno) {
	for i, a := range l {
		met := false
		for j, b := range l {
			same := a.Src == b.Src && a.Sent == b.Sent && a.No == b.No
			switch {
			case i == j || !same:
			case a.Anti == b.Anti || a.Event != b.Event:
				return nil, api.ErrThere
			default:
				met = true
			}
		}
		if !met {
			left = append(left, a)
		}
	}
	return left, api.OK
}

// P2.3: of two keys that are not the same one is ahead, and what is ahead of what is ahead is ahead.
func TestOrderIsOne(t *testing.T) {
	var l []api.Key
	for i := range 3 * 3 * 3 * 3 {
		l = append(l, api.Key{At: i % 3, Src: i/3%3 - 1, Sent: i/9%3 - 1, No: i / 27})
	}
	for _, a := range l {
		for _, b := range l {
			n, m := keys.Compare(a, b), keys.Compare(b, a)
			if n != -m || (n == 0) != (a == b) || n < -1 || n > 1 {
				t.Fatalf("%v and %v: %d, %d", a, b, n, m)
			}
			for _, c := range l {
				if n < 0 && keys.Compare(b, c) <= 0 && keys.Compare(a, c) >= 0 {
					t.Fatalf("%v, %v, %v", a, b, c)
				}
			}
		}
	}
}

// P2.3, and P2.1 along the way: a sorted list has the same events, in order.
func TestSortFollows(t *testing.T) {
	r := numbers(1)
	for range 2000 {
		var l []api.Event
		for i := range r.below(30) {
			e := some(&r)
			e.Kind = i
			l = append(l, e)
		}
		s := keys.Sort(l...)
		if !slices.Equal(s, plainSort(l)) {
			t.Fatalf("Sort(%v): %v", l, s)
		}
		var together []api.Event
		last := -1
		for at, b := range keys.Batches(l...) {
			if at <= last || len(b) == 0 || slices.ContainsFunc(b, func(e api.Event) bool { return e.At != at }) {
				t.Fatalf("%d, behind %d: %v", at, last, b)
			}
			last, together = at, append(together, b...)
		}
		if !slices.Equal(s, together) {
			t.Fatalf("Batches(%v): %v", l, together)
		}
	}
}

// P2.3: in what order events without a key in common are told does not count.
func TestSortAnyOrder(t *testing.T) {
	r := numbers(2)
	var l []api.Event
	for i := range 24 {
		l = append(l, event(i/8, i/4%2, i/2%2-1, i%2, i))
	}
	for range 500 {
		if s := keys.Sort(shuffled(&r, l)...); !slices.Equal(s, l) {
			t.Fatal(s)
		}
	}
}

func inOrder(l []api.Message) []api.Message {
	return slices.SortedFunc(slices.Values(l), func(a, b api.Message) int {
		return cmp.Or(keys.Compare(a.Key, b.Key), cmp.Compare(a.Data, b.Data))
	})
}

// P2.3, and P2.2 along the way: the same messages are left, in whatever order they stand.
func TestSettleFollows(t *testing.T) {
	r := numbers(3)
	settled := 0
	for range 5000 {
		var l []api.Message
		for range r.below(7) {
			l = append(l, api.Message{Event: some(&r), Anti: r.below(2) == 0})
		}
		left, e := keys.Settle(l...)
		want, f := plainSettle(l)
		if !slices.Equal(left, want) || e != f {
			t.Fatalf("Settle(%v): %v, %d, not %v, %d", l, left, int(e), want, int(f))
		}
		if e == api.OK && len(left) < len(l) {
			settled++
		}
		other, f := keys.Settle(shuffled(&r, l)...)
		if e != f || !slices.Equal(inOrder(left), inOrder(other)) {
			t.Fatalf("of %v are left %v, %d, and in another order %v, %d", l, left, int(e), other, int(f))
		}
	}
	if settled < 100 {
		t.Error("too few lists were settled:", settled)
	}
}

// P2.3: messages that are settled in parts leave what they leave all at once.
func TestSettleInParts(t *testing.T) {
	r := numbers(4)
	for range 1000 {
		var l []api.Message
		for i := range 12 {
			e := event(9, i/4, i%4, 0, i)
			if r.below(4) > 0 {
				l = append(l, told(e))
			}
			if r.below(4) > 0 {
				l = append(l, anti(e))
			}
		}
		l = shuffled(&r, l)
		want, e := keys.Settle(l...)
		if e != api.OK {
			t.Fatal(l, int(e))
		}
		var left []api.Message
		for rest := l; len(rest) > 0; {
			n := 1 + r.below(len(rest))
			left, e = keys.Settle(append(left, rest[:n]...)...)
			if e != api.OK {
				t.Fatal(l, int(e))
			}
			rest = rest[n:]
		}
		if !slices.Equal(left, want) {
			t.Fatalf("%v: %v, and in parts %v", l, want, left)
		}
	}
}

// P2.2: many messages, of which all but the last one meet.
func TestSettleMany(t *testing.T) {
	var l []api.Message
	for i := range 20000 {
		l = append(l, told(event(1000+i, i%32, i, 0, i)))
	}
	for _, m := range slices.Backward(l[:len(l)-1]) {
		l = append(l, anti(m.Event))
	}
	left, e := keys.Settle(l...)
	if e != api.OK || !slices.Equal(left, l[19999:20000]) {
		t.Error(len(left), int(e))
	}
}
