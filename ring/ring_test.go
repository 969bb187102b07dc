package ring_test

import (
	"iter"
	"math"
	"runtime"
	"slices"
	"testing"
	"weak"

	"boomerang/api"
	"boomerang/ring"
)

const least, most = math.MinInt, math.MaxInt

// pair is a time, and a thing.
type pair struct {
	at int
	v  string
}

func pairs(seq iter.Seq2[int, string]) (l []pair) {
	for at, v := range seq {
		l = append(l, pair{at, v})
	}
	return l
}

func things(l []pair) (s []string) {
	for _, p := range l {
		s = append(s, p.v)
	}
	return s
}

// turned is a list from its end on.
func turned[V any](l []V) []V {
	l = slices.Clone(l)
	slices.Reverse(l)
	return l
}

// filled is a ring of a room, into which pairs were pushed.
func filled(t *testing.T, room int, l ...pair) *ring.Ring[string] {
	t.Helper()
	r, e := ring.New[string](room)
	if r == nil || e != api.OK {
		t.Fatalf("New(%d): %d", room, int(e))
	}
	for _, p := range l {
		pushed(t, r, p.at, p.v)
	}
	return r
}

// wound is a ring of a room, into which pairs were pushed once it had been gone round as far as a number tells.
func wound(t *testing.T, room, far int, l ...pair) *ring.Ring[string] {
	t.Helper()
	r := filled(t, room)
	for range room {
		pushed(t, r, least, "old")
	}
	fronted(t, r, least+1, slices.Repeat([]string{"old"}, room)...)
	for range far {
		pushed(t, r, least, "old")
		fronted(t, r, least+1, "old")
	}
	for _, p := range l {
		pushed(t, r, p.at, p.v)
	}
	return r
}

func pushed(t *testing.T, r *ring.Ring[string], at int, v string) {
	t.Helper()
	n := r.Len()
	if e := r.Push(at, v); e != api.OK || r.Len() != n+1 {
		t.Fatalf("Push(%d, %q): %d, and %d things", at, v, int(e), r.Len())
	}
}

// refused pushes what does not go in, and asks that nothing is changed.
func refused(t *testing.T, r *ring.Ring[string], at int, want api.Errno) {
	t.Helper()
	was, room := pairs(r.All()), r.Room()
	if e := r.Push(at, "z"); e != want {
		t.Errorf("Push(%d): %d, not %d", at, int(e), int(want))
	}
	holds(t, r, len(was)+room, was...)
}

func backed(t *testing.T, r *ring.Ring[string], at int, want ...string) {
	t.Helper()
	if l := r.Back(at); !slices.Equal(l, want) {
		t.Fatalf("Back(%d): %q, not %q", at, l, want)
	}
}

func fronted(t *testing.T, r *ring.Ring[string], at int, want ...string) {
	t.Helper()
	if l := r.Front(at); !slices.Equal(l, want) {
		t.Fatalf("Front(%d): %q, not %q", at, l, want)
	}
}

// holds asks a ring of a room for all of these pairs.
func holds(t *testing.T, r *ring.Ring[string], room int, want ...pair) {
	t.Helper()
	if got := pairs(r.All()); !slices.Equal(got, want) {
		t.Fatalf("All: %v, not %v", got, want)
	}
	if r.Len() != len(want) || r.Room() != room-len(want) {
		t.Fatalf("Len: %d, Room: %d, of %d, with %v", r.Len(), r.Room(), room, want)
	}
	if len(want) == 0 {
		nothing(t, r, api.ErrNone)
		return
	}
	first, last := want[0], want[len(want)-1]
	if at, v, e := r.First(); at != first.at || v != first.v || e != api.OK {
		t.Fatalf("First: %d, %q, %d, not %v", at, v, int(e), first)
	}
	if at, v, e := r.Last(); at != last.at || v != last.v || e != api.OK {
		t.Fatalf("Last: %d, %q, %d, not %v", at, v, int(e), last)
	}
}

// nothing asks a ring that has no things.
func nothing(t *testing.T, r *ring.Ring[string], want api.Errno) {
	t.Helper()
	if at, v, e := r.First(); at != 0 || v != "" || e != want {
		t.Errorf("First: %d, %q, %d, not %d", at, v, int(e), int(want))
	}
	if at, v, e := r.Last(); at != 0 || v != "" || e != want {
		t.Errorf("Last: %d, %q, %d, not %d", at, v, int(e), int(want))
	}
	for _, x := range []int{least, -1, 0, 1, most} {
		hasNoneUpto(t, r, x, want)
		if l := r.Back(x); len(l) != 0 {
			t.Errorf("Back(%d): %q", x, l)
		}
		if l := r.Front(x); len(l) != 0 {
			t.Errorf("Front(%d): %q", x, l)
		}
	}
	if got := pairs(r.All()); len(got) != 0 || r.Len() != 0 {
		t.Error(got, r.Len())
	}
}

func hasNoneUpto(t *testing.T, r *ring.Ring[string], x int, want api.Errno) {
	t.Helper()
	if at, v, e := r.Upto(x); at != 0 || v != "" || e != want {
		t.Errorf("Upto(%d): %d, %q, %d, not %d", x, at, v, int(e), int(want))
	}
}

// times is things by times, some of which are shared, and some at the ends of what a time may be.
func times() []pair {
	return []pair{{least, "a"}, {-7, "b"}, {-1, "c"}, {0, "d"}, {0, "e"}, {1, "f"}, {4, "g"}, {4, "h"}, {4, "i"}, {9, "j"}, {api.MaxEnd, "k"}, {most, "l"}, {most, "m"}}
}

// asked is the times for which a ring with those of times is asked: all of them, and what stands between.
func asked() []int {
	return []int{least, least + 1, -8, -7, -6, -2, -1, 0, 1, 2, 3, 4, 5, 8, 9, 10, api.MaxEnd - 1, api.MaxEnd, api.MaxEnd + 1, most - 1, most}
}

// P4.1: a room is from 1 to 4096; beside an error there is no ring.
func TestNew(t *testing.T) {
	for _, room := range []int{least, -4096, -1, 0, api.MaxSlots + 1, 2 * api.MaxSlots, most} {
		if r, e := ring.New[string](room); r != nil || e != api.ErrArg {
			t.Errorf("New(%d): %v, %d", room, r, int(e))
		}
	}
	for _, room := range []int{1, 2, 3, 100, api.MaxSlots - 1, api.MaxSlots} {
		holds(t, filled(t, room), room)
	}
	r := filled(t, 2)
	pushed(t, r, 5, "a")
	holds(t, filled(t, 2), 2)
	holds(t, r, 2, pair{5, "a"})
}

// P4.1: there may be as many things as room tells, and no more, until some are taken away.
func TestPushFull(t *testing.T) {
	for _, room := range []int{1, 2, 3, 5, 8, 17, api.MaxSlots} {
		r := filled(t, room)
		var want []pair
		for i := range room {
			p := pair{i / 2, string(rune('a' + i%26))}
			pushed(t, r, p.at, p.v)
			want = append(want, p)
			if r.Room() != room-i-1 {
				t.Fatalf("Room: %d, of %d, with %d things", r.Room(), room, i+1)
			}
		}
		holds(t, r, room, want...)
		last := want[room-1]
		refused(t, r, last.at, api.ErrFull)
		refused(t, r, most, api.ErrFull)
		same := 0
		for same < room && want[same].at == 0 {
			same++
		}
		fronted(t, r, 1, things(want[:same])...)
		pushed(t, r, last.at, "y")
		holds(t, r, room, append(want[same:], pair{last.at, "y"})...)
	}
}

// P4.1: what is behind the last time, or at it, goes in; what is ahead of it does not.
func TestPushTime(t *testing.T) {
	r := filled(t, 20, pair{-3, "a"}, pair{-3, "b"}, pair{5, "c"})
	for _, at := range []int{least, -4, -3, -2, 0, 4} {
		refused(t, r, at, api.ErrTime)
	}
	pushed(t, r, 5, "d")
	pushed(t, r, 6, "e")
	refused(t, r, 5, api.ErrTime)
	pushed(t, r, most, "f")
	refused(t, r, most-1, api.ErrTime)
	pushed(t, r, most, "g")
	holds(t, r, 20, pair{-3, "a"}, pair{-3, "b"}, pair{5, "c"}, pair{5, "d"}, pair{6, "e"}, pair{most, "f"}, pair{most, "g"})
}

// P4.1: the last time is that of a thing that is there: what was taken away does not count.
func TestPushTimeOfWhatIsThere(t *testing.T) {
	r := filled(t, 3, pair{1, "a"}, pair{5, "b"}, pair{9, "c"})
	backed(t, r, 5, "c", "b")
	refused(t, r, 0, api.ErrTime)
	pushed(t, r, 1, "d")
	pushed(t, r, 2, "e")
	holds(t, r, 3, pair{1, "a"}, pair{1, "d"}, pair{2, "e"})
	fronted(t, r, 2, "a", "d")
	refused(t, r, 1, api.ErrTime)
	fronted(t, r, most, "e")
	pushed(t, r, least, "f")
	backed(t, r, least, "f")
	pushed(t, r, -1, "g")
	holds(t, r, 3, pair{-1, "g"})
}

// P4.1, R1: of a ring that is full, a time that is past is told ahead of the room that is not there.
func TestPushPastAndFull(t *testing.T) {
	r := filled(t, 2, pair{4, "a"}, pair{6, "b"})
	refused(t, r, 5, api.ErrTime)
	refused(t, r, 6, api.ErrFull)
	refused(t, r, 7, api.ErrFull)
}

// P4.1: the last thing whose time is no later.
func TestUpto(t *testing.T) {
	r := filled(t, 20, times()...)
	for _, x := range asked() {
		var want pair
		for _, p := range times() {
			if p.at <= x {
				want = p
			}
		}
		if at, v, e := r.Upto(x); at != want.at || v != want.v || e != api.OK {
			t.Errorf("Upto(%d): %d, %q, %d, not %v", x, at, v, int(e), want)
		}
	}
	holds(t, r, 20, times()...)
	fronted(t, r, 4, "a", "b", "c", "d", "e", "f")
	for _, x := range []int{least, -7, 0, 3} {
		hasNoneUpto(t, r, x, api.ErrNone)
	}
	if at, v, e := r.Upto(4); at != 4 || v != "i" || e != api.OK {
		t.Error(at, v, int(e))
	}
}

// P4.2: all whose times are no less go, the last one first, and no others; again there is nothing to go.
func TestBack(t *testing.T) {
	for _, x := range asked() {
		r := filled(t, 20, times()...)
		i := slices.IndexFunc(times(), func(p pair) bool { return p.at >= x })
		backed(t, r, x, turned(things(times()[i:]))...)
		holds(t, r, 20, times()[:i]...)
		backed(t, r, x)
		holds(t, r, 20, times()[:i]...)
	}
}

// P4.2: all whose times are less go, the first one first, and no others; again there is nothing to go.
func TestFront(t *testing.T) {
	for _, x := range asked() {
		r := filled(t, 20, times()...)
		i := slices.IndexFunc(times(), func(p pair) bool { return p.at >= x })
		fronted(t, r, x, things(times()[:i])...)
		holds(t, r, 20, times()[i:]...)
		fronted(t, r, x)
		holds(t, r, 20, times()[i:]...)
	}
}

// P4.1, P4.2: the chapter's example.
func TestExample(t *testing.T) {
	r := filled(t, 5, pair{1, "a"}, pair{4, "b"}, pair{4, "c"})
	if at, v, e := r.Upto(3); at != 1 || v != "a" || e != api.OK {
		t.Error(at, v, int(e))
	}
	backed(t, r, 4, "c", "b")
	refused(t, r, 0, api.ErrTime)
	holds(t, r, 5, pair{1, "a"})
}

// P4.1, P4.2: wherever in its list a ring stands when it is filled, and wherever it is parted.
func TestGoneRound(t *testing.T) {
	l := []pair{{1, "a"}, {2, "b"}, {2, "c"}, {3, "d"}, {5, "e"}}
	for room := len(l); room <= len(l)+2; room++ {
		for far := range room {
			for n := range len(l) + 1 {
				for x := 0; x <= 6; x++ {
					partedRound(t, wound(t, room, far, l[:n]...), room, x, l[:n])
				}
			}
		}
	}
}

// partedRound takes away from a ring what is ahead of a time, and, from a copy, what is not; then both are filled again.
func partedRound(t *testing.T, r *ring.Ring[string], room, x int, l []pair) {
	t.Helper()
	holds(t, r, room, l...)
	k := r.Copy()
	i := slices.IndexFunc(l, func(p pair) bool { return p.at >= x })
	if i < 0 {
		i = len(l)
	}
	fronted(t, r, x, things(l[:i])...)
	holds(t, r, room, l[i:]...)
	refill(t, r, room, l[i:])
	backed(t, k, x, turned(things(l[i:]))...)
	holds(t, k, room, l[:i]...)
	refill(t, k, room, l[:i])
}

func refill(t *testing.T, r *ring.Ring[string], room int, l []pair) {
	t.Helper()
	l = slices.Clone(l)
	for r.Room() > 0 {
		pushed(t, r, 6, "f")
		l = append(l, pair{6, "f"})
	}
	holds(t, r, room, l...)
	refused(t, r, 6, api.ErrFull)
}

// P4.2, R2: what Back and Front answer is the caller's, and no two answers share anything with each other, or with the ring.
func TestAnswersAreTheCallers(t *testing.T) {
	r := filled(t, 6, pair{1, "a"}, pair{2, "b"}, pair{3, "c"}, pair{4, "d"}, pair{5, "e"}, pair{6, "f"})
	k := r.Copy()
	front, back := r.Front(3), r.Back(5)
	same, other := k.Front(3), k.Back(5)
	for _, l := range [][]string{front, back} {
		l[0], l[1] = "x", "y"
		_ = append(l, "z", "z", "z", "z")
	}
	if !slices.Equal(same, []string{"a", "b"}) || !slices.Equal(other, []string{"f", "e"}) {
		t.Error(same, other)
	}
	holds(t, r, 6, pair{3, "c"}, pair{4, "d"})
	for i := range 4 {
		pushed(t, r, 7+i, "n")
	}
	if !slices.Equal(front, []string{"x", "y"}) || !slices.Equal(back, []string{"x", "y"}) {
		t.Error(front, back)
	}
}

// P4.2: All tells things as they are when it is asked for, as often as it is gone through.
func TestAllAsAskedFor(t *testing.T) {
	l := times()
	r := wound(t, len(l), 5, l...)
	all := r.All()
	r.Front(0)
	r.Back(4)
	for range 5 {
		pushed(t, r, 3, "new")
	}
	for range 2 {
		if got := pairs(all); !slices.Equal(got, l) {
			t.Error(got)
		}
	}
	r = wound(t, len(l), 5, l...)
	var got []pair
	for at, v := range r.All() {
		got = append(got, pair{at, v})
		r.Front(at)
		r.Back(most)
		r.Push(most, "more")
	}
	if !slices.Equal(got, l) {
		t.Error(got)
	}
	holds(t, r, len(l), pair{most, "more"})
}

// P4.2: one who goes through all things may leave off, and begin again.
func TestAllLeftOff(t *testing.T) {
	l := times()
	r := wound(t, len(l), 5, l...)
	all := r.All()
	for n := 1; n <= len(l); n++ {
		var got []pair
		for at, v := range all {
			if got = append(got, pair{at, v}); len(got) == n {
				break
			}
		}
		if !slices.Equal(got, l[:n]) {
			t.Error(got)
		}
	}
	holds(t, r, len(l), l...)
}

// P4.2, R2: of no things, there is an iterator that tells nothing.
func TestAllOfNone(t *testing.T) {
	var none *ring.Ring[string]
	gone := filled(t, 2, pair{1, "a"}, pair{2, "b"})
	gone.Back(0)
	for _, r := range []*ring.Ring[string]{none, filled(t, 1), gone} {
		all := r.All()
		if all == nil {
			t.Fatal("a nil function")
		}
		if got := pairs(all); len(got) != 0 {
			t.Error(got)
		}
	}
}

// P4.2: a copy is the same, its room too, and each of both goes its own way.
func TestCopy(t *testing.T) {
	l := times()
	for far := range 15 {
		r := wound(t, 15, far, l...)
		k := r.Copy()
		if k == r {
			t.Fatal("the copy is the ring itself")
		}
		holds(t, k, 15, l...)
		backed(t, r, 4, turned(things(l[6:]))...)
		pushed(t, r, 4, "r")
		holds(t, k, 15, l...)
		fronted(t, k, 1, things(l[:5])...)
		for range 7 {
			pushed(t, k, most, "k")
		}
		refused(t, k, most, api.ErrFull)
		holds(t, r, 15, append(times()[:6], pair{4, "r"})...)
		holds(t, k, 15, append(times()[5:], slices.Repeat([]pair{{most, "k"}}, 7)...)...)
	}
}

// P4.2: a copy of a ring that has nothing takes things.
func TestCopyOfNone(t *testing.T) {
	r := filled(t, 2)
	k := r.Copy()
	holds(t, k, 2)
	pushed(t, k, 1, "a")
	pushed(t, k, 2, "b")
	refused(t, k, 2, api.ErrFull)
	holds(t, k, 2, pair{1, "a"}, pair{2, "b"})
	holds(t, r, 2)
}

// P4.2, R1: a nil ring.
func TestNilRing(t *testing.T) {
	var r *ring.Ring[string]
	for _, at := range []int{least, 0, 1, most} {
		if e := r.Push(at, "a"); e != api.ErrNil {
			t.Error(int(e))
		}
	}
	nothing(t, r, api.ErrNil)
	if r.Len() != 0 || r.Room() != 0 || r.Copy() != nil {
		t.Error(r.Len(), r.Room(), r.Copy())
	}
}

// P4.1: a thing may be its type's zero value, or of a type that cannot be held against another.
func TestOtherTypes(t *testing.T) {
	r := filled(t, 3, pair{0, ""}, pair{0, ""})
	holds(t, r, 3, pair{0, ""}, pair{0, ""})
	backed(t, r, 0, "", "")
	f, _ := ring.New[func() int](2)
	f.Push(1, func() int { return 7 })
	f.Push(2, nil)
	if at, v, e := f.First(); at != 1 || e != api.OK || v() != 7 {
		t.Error(at, int(e))
	}
	if l := f.Back(2); len(l) != 1 || l[0] != nil {
		t.Error(len(l))
	}
}

// P4.2: what is taken away is kept no longer, though its place stays.
func TestCleared(t *testing.T) {
	for far := range 6 {
		r, _ := ring.New[*[64]int](6)
		for range 6 {
			r.Push(0, new([64]int))
		}
		r.Front(1)
		for range far {
			r.Push(0, new([64]int))
			r.Front(1)
		}
		var l []weak.Pointer[[64]int]
		for i := range 6 {
			v := new([64]int)
			r.Push(i, v)
			l = append(l, weak.Make(v))
		}
		r.Front(2)
		r.Back(4)
		runtime.GC()
		for i, p := range l {
			if stays := i == 2 || i == 3; (p.Value() != nil) != stays {
				t.Errorf("thing %d, gone round by %d: it is there: %v", i, far, !stays)
			}
		}
		runtime.KeepAlive(r)
	}
}
