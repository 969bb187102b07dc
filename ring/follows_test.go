package ring_test

import (
	"slices"
	"testing"

	"boomerang/api"
	"boomerang/ring"
)

// numbers is a row of numbers that is the same each time.
type numbers uint64

func (n *numbers) below(m int) int {
	*n = *n*6364136223846793005 + 1442695040888963407
	return int((uint64(*n) >> 33) % uint64(m))
}

// item is a time, and the number that stands there.
type item struct {
	at int
	v  int
}

// plain is a ring as the chapter's words tell it: all things in order, without any haste.
type plain struct {
	room int
	l    []item
}

func (p *plain) push(at, v int) api.Errno {
	n := len(p.l)
	switch {
	case n > 0 && at < p.l[n-1].at:
		return api.ErrTime
	case n == p.room:
		return api.ErrFull
	}
	p.l = append(p.l, item{at, v})
	return api.OK
}

func (p *plain) upto(at int) (x item, e api.Errno) {
	e = api.ErrNone
	for _, y := range p.l {
		if y.at <= at {
			x, e = y, api.OK
		}
	}
	return x, e
}

// part takes away those that are less than a time, or those that are not, in the order in which they stood.
func (p *plain) part(at int, less bool) (gone []int) {
	var rest []item
	for _, x := range p.l {
		if (x.at < at) == less {
			gone = append(gone, x.v)
		} else {
			rest = append(rest, x)
		}
	}
	p.l = rest
	return gone
}

func items(r *ring.Ring[int]) (l []item) {
	for at, v := range r.All() {
		l = append(l, item{at, v})
	}
	return l
}

func checkSame(t *testing.T, r *ring.Ring[int], p plain) {
	t.Helper()
	got := items(r)
	if !slices.Equal(got, p.l) || r.Len() != len(p.l) || r.Room() != p.room-len(p.l) {
		t.Fatalf("All: %v, Len: %d, Room: %d, not %v, of %d", got, r.Len(), r.Room(), p.l, p.room)
	}
	if !slices.IsSortedFunc(got, func(a, b item) int { return a.at - b.at }) {
		t.Fatal("times fall:", got)
	}
	var first, last item
	want := api.ErrNone
	if n := len(p.l); n > 0 {
		first, last, want = p.l[0], p.l[n-1], api.OK
	}
	if at, v, e := r.First(); at != first.at || v != first.v || e != want {
		t.Fatalf("First: %d, %d, %d, not %v", at, v, int(e), first)
	}
	if at, v, e := r.Last(); at != last.at || v != last.v || e != want {
		t.Fatalf("Last: %d, %d, %d, not %v", at, v, int(e), last)
	}
}

// near is a time that is next to one that stands in a ring, or at it.
func near(p *plain, n *numbers) int {
	if len(p.l) == 0 {
		return n.below(9) - 4
	}
	return p.l[n.below(len(p.l))].at + n.below(5) - 2
}

// do does one thing at random to a ring, and the same to a plain one.
func do(t *testing.T, r *ring.Ring[int], p *plain, n *numbers, i int) {
	t.Helper()
	at := near(p, n)
	switch n.below(16) {
	default:
		if len(p.l) > 0 && n.below(6) > 0 {
			at = p.l[len(p.l)-1].at + n.below(3)
		}
		if e, f := r.Push(at, i), p.push(at, i); e != f {
			t.Fatalf("Push(%d): %d, not %d", at, int(e), int(f))
		}
	case 0, 1:
		want := turned(p.part(at, false))
		if l := r.Back(at); !slices.Equal(l, want) {
			t.Fatalf("Back(%d): %v, not %v", at, l, want)
		}
	case 2, 3, 4:
		want := p.part(at, true)
		if l := r.Front(at); !slices.Equal(l, want) {
			t.Fatalf("Front(%d): %v, not %v", at, l, want)
		}
	}
	for _, x := range []int{at, near(p, n)} {
		want, f := p.upto(x)
		if at, v, e := r.Upto(x); at != want.at || v != want.v || e != f {
			t.Fatalf("Upto(%d): %d, %d, %d, not %v, %d", x, at, v, int(e), want, int(f))
		}
	}
}

// P4.3, and P4.1 and P4.2 along the way: whatever is done in whatever order.
func TestFollows(t *testing.T) {
	full := 0
	for seed := range 120 {
		n := numbers(seed)
		p := plain{room: 1 + seed%40}
		r, _ := ring.New[int](p.room)
		for i := range 400 {
			do(t, r, &p, &n, i+1)
			checkSame(t, r, p)
			if r.Room() == 0 {
				full++
			}
			if n.below(30) == 0 {
				old := r
				r = r.Copy()
				old.Front(1 << 40)
				old.Push(-1, -1)
			}
		}
	}
	if full < 400 {
		t.Error("too few rings were full:", full)
	}
}

// P4.3: what Back and Front of one time take away is all, whichever comes first, and each thing is taken away once.
func TestBackAndFrontAreAll(t *testing.T) {
	for seed := range 200 {
		n := numbers(seed)
		r, p := some(&n, 1+n.below(30))
		at := near(&p, &n)
		k := r.Copy()
		back := r.Back(at)
		front := r.Front(at)
		if r.Len() != 0 || r.Room() != p.room {
			t.Fatal("there are things left:", items(r))
		}
		other := k.Front(at)
		if rest := k.Back(at); k.Len() != 0 || !slices.Equal(rest, back) || !slices.Equal(other, front) {
			t.Fatalf("Front and Back(%d): %v, %v, not %v, %v", at, other, rest, front, back)
		}
		var want []int
		for _, x := range p.l {
			want = append(want, x.v)
		}
		if got := append(front, turned(back)...); !slices.Equal(got, want) {
			t.Fatalf("Front and Back(%d): %v, not %v", at, got, want)
		}
	}
}

// some is a ring with things, that has been gone round, and a plain one with the same.
func some(n *numbers, room int) (*ring.Ring[int], plain) {
	p := plain{room: room}
	r, _ := ring.New[int](room)
	for i := range 3 * room {
		at := i/3 - 5
		if r.Push(at, i) == api.OK {
			p.push(at, i)
		} else if n.below(2) == 0 {
			early := at - n.below(room)
			r.Front(early)
			p.part(early, true)
		}
	}
	return r, p
}

// P4.3: what was pushed, and taken away by Back, and pushed again, is as it was.
func TestPushedAgain(t *testing.T) {
	for seed := range 200 {
		n := numbers(seed)
		r, p := some(&n, 1+n.below(30))
		for range 20 {
			at := near(&p, &n)
			var again []item
			for _, x := range p.l {
				if x.at >= at {
					again = append(again, x)
				}
			}
			if l := r.Back(at); len(l) != len(again) {
				t.Fatalf("Back(%d): %v, not %v", at, l, again)
			}
			for _, x := range again {
				if e := r.Push(x.at, x.v); e != api.OK {
					t.Fatalf("Push(%v) again: %d", x, int(e))
				}
			}
			checkSame(t, r, p)
		}
	}
}

// P4.3: many things, that come and go at both ends of a ring of the greatest room, in order.
func TestMany(t *testing.T) {
	const many = 200000
	r, _ := ring.New[int](api.MaxSlots)
	next := 0
	for i := range many {
		if r.Room() == 0 {
			for _, v := range r.Front(i - api.MaxSlots/3) {
				if v != next {
					t.Fatalf("Front: %d, not %d", v, next)
				}
				next++
			}
		}
		if e := r.Push(i, i); e != api.OK {
			t.Fatalf("Push(%d): %d", i, int(e))
		}
		if at, v, e := r.Upto(i - 1000); i-1000 >= next && (at != i-1000 || v != at || e != api.OK) {
			t.Fatalf("Upto(%d): %d, %d, %d", i-1000, at, v, int(e))
		}
	}
	if r.Len() != many-next {
		t.Error(r.Len(), next)
	}
}
