package keys_test

import (
	"math"
	"slices"
	"testing"

	"boomerang/api"
	"boomerang/keys"
)

// event is one whose key is told, and whose data tells it from others of that key.
func event(at, src, sent, no, data int) api.Event {
	return api.Event{Key: api.Key{At: at, Src: src, Sent: sent, No: no}, Data: data}
}

func told(e api.Event) api.Message { return api.Message{Event: e} }

func anti(e api.Event) api.Message { return api.Message{Event: e, Anti: true} }

// unlike is an event in each way in which it may differ from e, by one field each.
func unlike(e api.Event) []api.Event {
	l := make([]api.Event, 7)
	for i := range l {
		l[i] = e
	}
	l[0].At++
	l[1].Src++
	l[2].Sent++
	l[3].No++
	l[4].Dst++
	l[5].Kind++
	l[6].Data++
	return l
}

// P2.1: the ID is Src, Sent and No, and nothing else counts for it.
func TestOf(t *testing.T) {
	for _, c := range []struct {
		src, sent, no int
	}{
		{0, 0, 0},
		{3, 5, 7},
		{-1, -1, 1023},
		{math.MinInt, math.MaxInt, math.MinInt + 1},
	} {
		e := api.Event{Key: api.Key{At: 11, Src: c.src, Sent: c.sent, No: c.no}, Dst: 13, Kind: 17, Data: 19}
		if id := keys.Of(e); id != (keys.ID{Src: c.src, Sent: c.sent, No: c.no}) {
			t.Errorf("Of(%v): %v", e, id)
		}
	}
	e := event(9, 1, 2, 3, 4)
	for i, u := range unlike(e) {
		if same, want := keys.Of(u) == keys.Of(e), i == 0 || i > 3; same != want {
			t.Errorf("%v and %v have one ID: %v", e, u, same)
		}
	}
}

// P2.1: each number from its least to its greatest, and those beside them.
func TestCheck(t *testing.T) {
	const least, most = math.MinInt, math.MaxInt
	for _, c := range []struct {
		at, src, sent, no, dst int
		want                   api.Errno
	}{
		{5, 0, 1, 0, 0, api.OK},
		{0, -1, -1, 0, 0, api.OK},
		{api.MaxEnd, 31, api.MaxEnd - 1, 1023, 31, api.OK},
		{api.MaxEnd, -1, -1, 1023, 31, api.OK},
		{1, 0, 0, 0, 0, api.OK},

		{5, -2, 1, 0, 0, api.ErrRange},
		{5, -1, 1, 0, 0, api.OK},
		{5, 31, 1, 0, 0, api.OK},
		{5, 32, 1, 0, 0, api.ErrRange},
		{5, least, 1, 0, 0, api.ErrRange},
		{5, most, 1, 0, 0, api.ErrRange},

		{5, 0, 1, 0, -1, api.ErrRange},
		{5, 0, 1, 0, 31, api.OK},
		{5, 0, 1, 0, 32, api.ErrRange},
		{5, 0, 1, 0, least, api.ErrRange},
		{5, 0, 1, 0, most, api.ErrRange},

		{5, 0, 1, -1, 0, api.ErrRange},
		{5, 0, 1, 1023, 0, api.OK},
		{5, 0, 1, 1024, 0, api.ErrRange},
		{5, 0, 1, least, 0, api.ErrRange},
		{5, 0, 1, most, 0, api.ErrRange},

		{-1, 0, -1, 0, 0, api.ErrRange},
		{api.MaxEnd + 1, 0, 1, 0, 0, api.ErrRange},
		{least, 0, -1, 0, 0, api.ErrRange},
		{most, 0, 1, 0, 0, api.ErrRange},

		{5, 0, -1, 0, 0, api.OK},
		{5, 0, -2, 0, 0, api.ErrTime},
		{5, 0, 4, 0, 0, api.OK},
		{5, 0, 5, 0, 0, api.ErrTime},
		{5, 0, 6, 0, 0, api.ErrTime},
		{0, 0, 0, 0, 0, api.ErrTime},
		{5, 0, least, 0, 0, api.ErrTime},
		{5, 0, most, 0, 0, api.ErrTime},
		{api.MaxEnd, 0, api.MaxEnd, 0, 0, api.ErrTime},

		// Of several errors, the one that is named first.
		{-1, 0, -2, 0, 0, api.ErrRange},
		{5, 32, 5, 0, 0, api.ErrRange},
		{5, 0, 5, 1024, 0, api.ErrRange},
		{5, 0, -2, 0, 32, api.ErrRange},
		{api.MaxEnd + 1, 0, api.MaxEnd + 1, 0, 0, api.ErrRange},
	} {
		for _, free := range []int{0, 1, -1, least, most} {
			e := api.Event{Key: api.Key{At: c.at, Src: c.src, Sent: c.sent, No: c.no}, Dst: c.dst, Kind: free, Data: free}
			if got := keys.Check(e); got != c.want {
				t.Errorf("Check(%+v): %d, not %d", e, int(got), int(c.want))
			}
		}
	}
}

// P2.1: At counts ahead of Src, that ahead of Sent, and that ahead of No.
func TestCompare(t *testing.T) {
	const least, most = math.MinInt, math.MaxInt
	rising := []api.Key{
		{At: least, Src: most, Sent: most, No: most},
		{At: 4, Src: 9, Sent: 9, No: 9},
		{At: 5, Src: -1, Sent: 9, No: 9},
		{At: 5, Src: 0, Sent: -1, No: 9},
		{At: 5, Src: 0, Sent: 1, No: 0},
		{At: 5, Src: 0, Sent: 1, No: 1},
		{At: 5, Src: 0, Sent: 2, No: 0},
		{At: 5, Src: 1, Sent: 0, No: 0},
		{At: 6, Src: 0, Sent: 0, No: least},
		{At: 6, Src: 0, Sent: 0, No: most},
		{At: most, Src: least, Sent: least, No: least},
	}
	for i, a := range rising {
		for j, b := range rising {
			want := 0
			if i < j {
				want = -1
			} else if i > j {
				want = 1
			}
			if got := keys.Compare(a, b); got != want {
				t.Errorf("Compare(%v, %v): %d, not %d", a, b, got, want)
			}
		}
	}
}

// P2.1: the chapter's example.
func TestCompareExample(t *testing.T) {
	a, b := api.Key{At: 5, Src: 0, Sent: 1, No: 0}, api.Key{At: 5, Src: 0, Sent: 1, No: 1}
	if n := keys.Compare(a, b); n != -1 {
		t.Error(n)
	}
}

// P2.1: events of one key stay in the order in which they stood, whatever else they tell.
func TestSort(t *testing.T) {
	l := []api.Event{
		event(7, 0, 1, 0, 9),
		event(5, 1, 1, 0, 8),
		event(7, 0, 1, 0, 3),
		event(5, 0, 2, 1, 7),
		event(5, 0, 2, 0, 6),
		event(7, 0, 1, 0, 5),
		event(5, 0, 1, 4, 4),
		event(-3, 99, 99, -1, 2),
	}
	l[0].Dst, l[2].Dst, l[5].Kind = 2, 1, -4
	want := []api.Event{l[7], l[6], l[4], l[3], l[1], l[0], l[2], l[5]}
	if got := keys.Sort(l...); !slices.Equal(got, want) {
		t.Errorf("%v, not %v", got, want)
	}
	if got := keys.Sort(); len(got) != 0 {
		t.Error(got)
	}
	if got := keys.Sort(l[0]); !slices.Equal(got, l[:1]) {
		t.Error(got)
	}
}

// P2.1: the order in which events of one key stood counts in long lists, too.
func TestSortManyOfOneKey(t *testing.T) {
	var l []api.Event
	for i := range 1000 {
		l = append(l, event((i*7)%3, 0, -1, 0, i))
	}
	s := keys.Sort(l...)
	if len(s) != len(l) {
		t.Fatal(len(s))
	}
	for i := 1; i < len(s); i++ {
		if a, b := s[i-1], s[i]; a.At > b.At || a.At == b.At && a.Data >= b.Data {
			t.Fatalf("%v stands ahead of %v", a, b)
		}
	}
}

// R2: what is handed to Sort stays as it is, also behind its length, and is not what is answered.
func TestSortLeavesEvents(t *testing.T) {
	l := []api.Event{event(3, 0, 0, 0, 0), event(2, 0, 0, 0, 1), event(1, 0, 0, 0, 2), event(0, 0, 0, 0, 3)}
	was := slices.Clone(l)
	s := keys.Sort(l[:2]...)
	if len(s) != 2 || s[0] != was[1] || s[1] != was[0] {
		t.Error(s)
	}
	s[0].Data, s[1].Data = 100, 100
	_ = append(s, event(9, 9, 9, 9, 9))
	if !slices.Equal(l, was) {
		t.Error(l)
	}
	one := keys.Sort(l[:1]...)
	one[0].Data = 100
	if !slices.Equal(l, was) {
		t.Error(l)
	}
}

type part struct {
	at int
	l  []api.Event
}

func parts(seq func(func(int, []api.Event) bool)) (l []part) {
	for at, b := range seq {
		l = append(l, part{at, b})
	}
	return l
}

func checkParts(t *testing.T, got []part, want ...part) {
	t.Helper()
	if !slices.EqualFunc(got, want, func(a, b part) bool { return a.at == b.at && slices.Equal(a.l, b.l) }) {
		t.Errorf("%v, not %v", got, want)
	}
}

// P2.1: a batch of each time at which an event comes, none of another time.
func TestBatches(t *testing.T) {
	a, b, c := event(5, 1, 0, 0, 1), event(5, 0, 4, 0, 2), event(5, 0, 4, 0, 3)
	d, e, f := event(0, -1, -1, 0, 4), event(9, 0, 0, 0, 5), event(api.MaxEnd, 0, 0, 0, 6)
	g := event(-7, 40, 8, -1, 7)
	checkParts(t, parts(keys.Batches(e, a, f, b, d, c, g)),
		part{-7, []api.Event{g}}, part{0, []api.Event{d}}, part{5, []api.Event{b, c, a}}, part{9, []api.Event{e}}, part{api.MaxEnd, []api.Event{f}})
	checkParts(t, parts(keys.Batches(c, b)), part{5, []api.Event{c, b}})
	checkParts(t, parts(keys.Batches(d)), part{0, []api.Event{d}})
}

// P2.1, R2: of no events, there is an iterator that tells nothing.
func TestBatchesOfNone(t *testing.T) {
	seq := keys.Batches()
	if seq == nil {
		t.Fatal("a nil function")
	}
	checkParts(t, parts(seq))
	checkParts(t, parts(keys.Batches([]api.Event{}...)))
}

// P2.1: events are told as they were when Batches was asked for, as often as they are gone through.
func TestBatchesAsAskedFor(t *testing.T) {
	a, b, c := event(1, 0, 0, 0, 1), event(2, 0, 0, 0, 2), event(3, 0, 0, 0, 3)
	l := []api.Event{c, a, b}
	seq := keys.Batches(l...)
	l[0], l[1] = event(8, 8, 8, 8, 8), event(8, 8, 8, 8, 8)
	for range 2 {
		checkParts(t, parts(seq), part{1, []api.Event{a}}, part{2, []api.Event{b}}, part{3, []api.Event{c}})
	}
	l = []api.Event{c, a, b}
	var got []part
	for at, p := range keys.Batches(l...) {
		l[0], l[1], l[2] = a, a, a
		got = append(got, part{at, p})
	}
	checkParts(t, got, part{1, []api.Event{a}}, part{2, []api.Event{b}}, part{3, []api.Event{c}})
}

// P2.1: one who goes through batches may leave off, and begin again.
func TestBatchesLeftOff(t *testing.T) {
	seq := keys.Batches(event(1, 0, 0, 0, 1), event(2, 0, 0, 0, 2), event(3, 0, 0, 0, 3))
	for n := 1; n <= 3; n++ {
		var times []int
		for at := range seq {
			if times = append(times, at); len(times) == n {
				break
			}
		}
		if !slices.Equal(times, []int{1, 2, 3}[:n]) {
			t.Error(times)
		}
	}
}

// R2: a batch is the caller's: what is written into it, or behind it, is not seen in any other one.
func TestBatchesAreTheCallers(t *testing.T) {
	a, b, c := event(1, 0, 0, 0, 1), event(1, 0, 0, 1, 2), event(2, 0, 0, 0, 3)
	l := []api.Event{a, b, c}
	seq := keys.Batches(l...)
	for range 2 {
		var got []part
		for at, p := range seq {
			got = append(got, part{at, slices.Clone(p)})
			p[0] = event(7, 7, 7, 7, 7)
			p = append(p, p[0], p[0])
			p[len(p)-1].Data = 70
		}
		checkParts(t, got, part{1, []api.Event{a, b}}, part{2, []api.Event{c}})
	}
	if !slices.Equal(l, []api.Event{a, b, c}) {
		t.Error(l)
	}
}

// P2.2: messages meet if one alone is an antimessage, and each field of their events is the same.
func TestMeets(t *testing.T) {
	e := api.Event{Key: api.Key{At: 5, Src: 1, Sent: 2, No: 3}, Dst: 4, Kind: 5, Data: 6}
	for _, c := range []struct {
		a, b api.Message
		want bool
	}{
		{told(e), anti(e), true},
		{anti(e), told(e), true},
		{told(e), told(e), false},
		{anti(e), anti(e), false},
		{api.Message{}, api.Message{}, false},
		{api.Message{}, api.Message{Anti: true}, true},
	} {
		if got := keys.Meets(c.a, c.b); got != c.want {
			t.Errorf("Meets(%v, %v): %v", c.a, c.b, got)
		}
	}
	for _, u := range unlike(e) {
		if keys.Meets(told(e), anti(u)) || keys.Meets(anti(e), told(u)) || keys.Meets(told(e), told(u)) {
			t.Errorf("%v meets %v", e, u)
		}
	}
}

func checkSettle(t *testing.T, l []api.Message, want ...api.Message) {
	t.Helper()
	if got, e := keys.Settle(l...); e != api.OK || !slices.Equal(got, want) {
		t.Errorf("Settle(%v): %v, %d, not %v", l, got, int(e), want)
	}
}

func checkThere(t *testing.T, l ...api.Message) {
	t.Helper()
	if got, e := keys.Settle(l...); e != api.ErrThere || len(got) != 0 {
		t.Errorf("Settle(%v): %v, %d, not %d", l, got, int(e), int(api.ErrThere))
	}
}

// P2.2: what meets is gone, in whatever order; what is left stays in its order, antimessages too.
func TestSettle(t *testing.T) {
	a, b, c := event(9, 0, 1, 0, 1), event(5, 0, 1, 1, 2), event(7, 1, 1, 0, 3)
	type ms = []api.Message
	checkSettle(t, nil)
	checkSettle(t, ms{told(a)}, told(a))
	checkSettle(t, ms{anti(a)}, anti(a))
	checkSettle(t, ms{told(a), anti(a)})
	checkSettle(t, ms{anti(a), told(a)})
	checkSettle(t, ms{told(a), anti(a), told(b)}, told(b))
	checkSettle(t, ms{told(a), told(b), anti(a)}, told(b))
	checkSettle(t, ms{anti(a), anti(b), told(a)}, anti(b))
	checkSettle(t, ms{told(a), anti(b), told(c)}, told(a), anti(b), told(c))
	checkSettle(t, ms{told(c), anti(b), told(a)}, told(c), anti(b), told(a))
	checkSettle(t, ms{told(a), told(b), told(c), anti(c), anti(a), anti(b)})
	checkSettle(t, ms{told(b), told(a), told(c), anti(a)}, told(b), told(c))
}

// P2.2: an ID is Src, Sent and No together; messages that differ in one of them do not disturb each other.
func TestSettleOtherIDs(t *testing.T) {
	e := event(9, 1, 2, 3, 4)
	for _, u := range unlike(e)[1:4] {
		checkSettle(t, []api.Message{told(e), told(u)}, told(e), told(u))
		checkSettle(t, []api.Message{anti(e), anti(u)}, anti(e), anti(u))
		checkSettle(t, []api.Message{told(e), anti(u)}, told(e), anti(u))
		checkSettle(t, []api.Message{told(e), anti(u), told(u)}, told(e))
	}
}

// P2.2: two of one ID that do not meet, wherever they stand, and if others of it met.
func TestSettleThere(t *testing.T) {
	e, other := event(9, 1, 2, 3, 4), event(9, 5, 2, 3, 4)
	for _, u := range append(unlike(e), e) {
		if keys.Of(u) != keys.Of(e) {
			continue
		}
		checkThere(t, told(e), told(u))
		checkThere(t, anti(e), anti(u))
		checkThere(t, told(e), told(other), anti(other), told(u))
		checkThere(t, told(e), anti(e), told(u))
		checkThere(t, told(e), anti(e), anti(u))
		checkThere(t, anti(e), told(e), told(u), anti(u))
		checkThere(t, told(other), told(u), anti(e), told(e))
		if u != e {
			checkThere(t, told(e), anti(u))
			checkThere(t, anti(e), told(u))
			checkThere(t, told(other), anti(e), anti(other), told(u))
		}
	}
	checkThere(t, told(e), anti(e), told(e), anti(e))
}

// P2.2: Settle does not ask whether an event may be.
func TestSettleOfWhatMayNotBe(t *testing.T) {
	e := api.Event{Key: api.Key{At: math.MinInt, Src: math.MaxInt, Sent: math.MaxInt, No: math.MinInt}, Dst: -1}
	checkSettle(t, []api.Message{told(e), anti(e)})
	checkSettle(t, []api.Message{anti(e)}, anti(e))
}

// R2: what is handed to Settle stays as it is, also behind its length, and is not what is answered.
func TestSettleLeavesMessages(t *testing.T) {
	a, b, c := event(9, 0, 1, 0, 1), event(5, 0, 1, 1, 2), event(7, 1, 1, 0, 3)
	l := []api.Message{told(a), anti(a), told(b), told(c), anti(c)}
	was := slices.Clone(l)
	for _, n := range []int{3, 4} {
		left, e := keys.Settle(l[:n]...)
		if e != api.OK || len(left) != n-2 {
			t.Fatal(left, int(e))
		}
		for i := range left {
			left[i] = anti(c)
		}
		_ = append(left, anti(c), anti(c))
		if !slices.Equal(l, was) {
			t.Error(l)
		}
	}
	none, _ := keys.Settle(l[2:4]...)
	none[0], none[1] = anti(a), anti(a)
	if !slices.Equal(l, was) {
		t.Error(l)
	}
}

// P2.2: the least At and the least Sent, which two messages may tell.
func TestLeast(t *testing.T) {
	const least, most = math.MinInt, math.MaxInt
	type ms = []api.Message
	for _, c := range []struct {
		l        ms
		at, sent int
	}{
		{ms{told(event(5, 0, 3, 0, 0))}, 5, 3},
		{ms{anti(event(5, 0, 3, 0, 0))}, 5, 3},
		{ms{told(event(5, 0, 3, 0, 0)), told(event(6, 0, 2, 0, 0))}, 5, 2},
		{ms{told(event(6, 0, 2, 0, 0)), told(event(5, 0, 3, 0, 0))}, 5, 2},
		{ms{told(event(6, 0, 2, 0, 0)), anti(event(5, 0, 3, 0, 0)), told(event(9, 0, 8, 0, 0))}, 5, 2},
		{ms{told(event(6, 0, 4, 0, 0)), anti(event(7, 0, -1, 0, 0)), told(event(9, 0, 8, 0, 0))}, 6, -1},
		{ms{told(event(5, 0, 3, 0, 0)), anti(event(5, 0, 3, 0, 0))}, 5, 3},
		{ms{told(event(api.MaxEnd, 0, 7, 0, 0)), told(event(api.MaxEnd, 0, 8, 0, 0))}, api.MaxEnd, 7},
		{ms{told(event(most, 0, most, 0, 0))}, most, most},
		{ms{told(event(most, 0, least, 0, 0)), told(event(least, 0, most, 0, 0))}, least, least},
	} {
		was := slices.Clone(c.l)
		at, sent, e := keys.Least(c.l...)
		if at != c.at || sent != c.sent || e != api.OK {
			t.Errorf("Least(%v): %d, %d, %d, not %d, %d", c.l, at, sent, int(e), c.at, c.sent)
		}
		if !slices.Equal(c.l, was) {
			t.Error(c.l)
		}
	}
	if at, sent, e := keys.Least(); at != 0 || sent != 0 || e != api.ErrNone {
		t.Error(at, sent, int(e))
	}
}
