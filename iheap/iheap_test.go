package iheap_test

import (
	"math"
	"slices"
	"testing"

	"boomerang/api"
	"boomerang/iheap"
	"boomerang/keys"
)

const least, most = math.MinInt, math.MaxInt

func key(at, src, sent, no int) api.Key {
	return api.Key{At: at, Src: src, Sent: sent, No: no}
}

// pair is a key, and its thing.
type pair struct {
	k api.Key
	v string
}

func pairs(seq func(func(api.Key, string) bool)) (l []pair) {
	for k, v := range seq {
		l = append(l, pair{k, v})
	}
	return l
}

// filled is a heap into which pairs were pushed.
func filled(t *testing.T, l ...pair) *iheap.Heap[string] {
	t.Helper()
	h := iheap.New[string]()
	if h == nil {
		t.Fatal("New: nil")
	}
	for _, p := range l {
		pushed(t, h, p.k, p.v)
	}
	return h
}

func pushed(t *testing.T, h *iheap.Heap[string], k api.Key, v string) {
	t.Helper()
	n := h.Len()
	if e := h.Push(k, v); e != api.OK || h.Len() != n+1 {
		t.Fatalf("Push(%v): %d, and %d things", k, int(e), h.Len())
	}
}

func pulled(t *testing.T, h *iheap.Heap[string], k api.Key, want string) {
	t.Helper()
	if v, e := h.Pull(k); v != want || e != api.OK {
		t.Fatalf("Pull(%v): %q, %d, not %q", k, v, int(e), want)
	}
}

func popped(t *testing.T, h *iheap.Heap[string], want pair) {
	t.Helper()
	if k, v, e := h.Pop(); k != want.k || v != want.v || e != api.OK {
		t.Fatalf("Pop: %v, %q, %d, not %v", k, v, int(e), want)
	}
}

func batched(t *testing.T, h *iheap.Heap[string], want int, things ...string) {
	t.Helper()
	if at, l, e := h.Batch(); at != want || !slices.Equal(l, things) || e != api.OK {
		t.Fatalf("Batch: %d, %q, %d, not %d, %q", at, l, int(e), want, things)
	}
}

// holds asks a heap for all of these pairs, that stand in order, and for the first one.
func holds(t *testing.T, h *iheap.Heap[string], want ...pair) {
	t.Helper()
	if got := pairs(h.All()); !slices.Equal(got, want) || h.Len() != len(want) {
		t.Fatalf("All: %v, Len: %d, not %v", got, h.Len(), want)
	}
	for _, p := range want {
		if v, e := h.Get(p.k); v != p.v || e != api.OK {
			t.Fatalf("Get(%v): %q, %d, not %q", p.k, v, int(e), p.v)
		}
	}
	if len(want) == 0 {
		nothing(t, h, api.ErrNone)
		return
	}
	if k, v, e := h.First(); k != want[0].k || v != want[0].v || e != api.OK {
		t.Fatalf("First: %v, %q, %d, not %v", k, v, int(e), want[0])
	}
}

// nothing asks a heap that has no first thing.
func nothing(t *testing.T, h *iheap.Heap[string], want api.Errno) {
	t.Helper()
	if k, v, e := h.First(); k != (api.Key{}) || v != "" || e != want {
		t.Errorf("First: %v, %q, %d, not %d", k, v, int(e), int(want))
	}
	if k, v, e := h.Pop(); k != (api.Key{}) || v != "" || e != want {
		t.Errorf("Pop: %v, %q, %d, not %d", k, v, int(e), int(want))
	}
	if at, l, e := h.Batch(); at != 0 || len(l) != 0 || e != want {
		t.Errorf("Batch: %d, %q, %d, not %d", at, l, int(e), int(want))
	}
}

// lacks asks a heap for a key that has no thing.
func lacks(t *testing.T, h *iheap.Heap[string], k api.Key, want api.Errno) {
	t.Helper()
	n := h.Len()
	if v, e := h.Get(k); v != "" || e != want {
		t.Errorf("Get(%v): %q, %d, not %d", k, v, int(e), int(want))
	}
	if v, e := h.Pull(k); v != "" || e != want {
		t.Errorf("Pull(%v): %q, %d, not %d", k, v, int(e), int(want))
	}
	if h.Len() != n {
		t.Errorf("Get and Pull of %v, which has nothing, left %d things of %d", k, h.Len(), n)
	}
}

// rising is keys in order, each of which differs from the one ahead of it in another way.
func rising() []api.Key {
	return []api.Key{
		key(least, most, most, most),
		key(-1, 0, 0, 0),
		key(0, -1, -1, 0),
		key(5, -1, 9, 9),
		key(5, 0, -1, 9),
		key(5, 0, 1, 0),
		key(5, 0, 1, 1),
		key(5, 0, 2, 0),
		key(5, 1, 0, 0),
		key(6, 0, 0, least),
		key(6, 0, 0, most),
		key(api.MaxEnd, 31, api.MaxEnd-1, 1023),
		key(most, least, least, least),
	}
}

// named gives each key a thing that no other one has.
func named(l []api.Key) (p []pair) {
	for i, k := range l {
		p = append(p, pair{k, string(rune('a' + i))})
	}
	return p
}

// P3.1, P3.2: a new heap has nothing, and each is one of its own.
func TestNew(t *testing.T) {
	h := filled(t)
	holds(t, h)
	lacks(t, h, api.Key{}, api.ErrNone)
	lacks(t, h, key(5, 0, 1, 0), api.ErrNone)
	pushed(t, h, api.Key{}, "a")
	holds(t, filled(t))
	holds(t, h, pair{api.Key{}, "a"})
}

// P3.1: keys that differ in any one field have things of their own.
func TestPushOtherKeys(t *testing.T) {
	k := key(5, 1, 2, 3)
	others := []api.Key{key(6, 1, 2, 3), key(5, 2, 2, 3), key(5, 1, 3, 3), key(5, 1, 2, 4)}
	h := filled(t, pair{k, "k"})
	for i, o := range others {
		lacks(t, h, o, api.ErrNone)
		pushed(t, h, o, string(rune('a'+i)))
	}
	holds(t, h, pair{k, "k"}, pair{others[3], "d"}, pair{others[2], "c"}, pair{others[1], "b"}, pair{others[0], "a"})
}

// P3.1: a key that has a thing keeps it; once it is gone, however it went, the key may have another one.
func TestPushThere(t *testing.T) {
	a, b, c := key(5, 0, 1, 0), key(4, 0, 1, 0), key(6, 0, 1, 0)
	h := filled(t, pair{a, "a"}, pair{b, "b"}, pair{c, "c"})
	for _, k := range []api.Key{a, b, c} {
		if e := h.Push(k, "z"); e != api.ErrThere {
			t.Errorf("Push(%v): %d", k, int(e))
		}
	}
	holds(t, h, pair{b, "b"}, pair{a, "a"}, pair{c, "c"})
	pulled(t, h, a, "a")
	pushed(t, h, a, "d")
	popped(t, h, pair{b, "b"})
	pushed(t, h, b, "e")
	batched(t, h, 4, "e")
	pushed(t, h, b, "f")
	holds(t, h, pair{b, "f"}, pair{a, "d"}, pair{c, "c"})
	if e := h.Push(b, ""); e != api.ErrThere {
		t.Error(int(e))
	}
}

// P3.1: Pull answers a key's thing once, wherever the key stands, and leaves all others.
func TestPull(t *testing.T) {
	l := named(rising())
	for i, p := range l {
		h := filled(t, l...)
		pulled(t, h, p.k, p.v)
		lacks(t, h, p.k, api.ErrNone)
		holds(t, h, slices.Delete(slices.Clone(l), i, i+1)...)
	}
	h := filled(t, l...)
	for i, p := range l {
		pulled(t, h, p.k, p.v)
		holds(t, h, l[i+1:]...)
	}
}

// P3.1: what takes the place of what was pulled comes from below another one, and may have to go up.
func TestPullGoesUp(t *testing.T) {
	var l []pair
	for i, at := range []int{0, 50, 10, 60, 70, 20, 30, 80, 90, 100, 110, 25} {
		l = append(l, pair{key(at, 0, -1, 0), string(rune('a' + i))})
	}
	h := filled(t, l...)
	pulled(t, h, l[7].k, l[7].v)
	slices.SortFunc(l, func(a, b pair) int { return keys.Compare(a.k, b.k) })
	for _, p := range l {
		if p.k.At != 80 {
			popped(t, h, p)
		}
	}
	holds(t, h)
}

// P3.1: Get takes nothing away.
func TestGet(t *testing.T) {
	h := filled(t, named(rising())...)
	for range 2 {
		holds(t, h, named(rising())...)
	}
	lacks(t, h, key(5, 0, 1, 2), api.ErrNone)
	lacks(t, h, api.Key{}, api.ErrNone)
}

// P3.1: a thing may be its type's zero value: it is there all the same.
func TestZeroThings(t *testing.T) {
	a, b := key(1, 0, 0, 0), api.Key{}
	h := filled(t, pair{a, ""}, pair{b, ""})
	holds(t, h, pair{b, ""}, pair{a, ""})
	if e := h.Push(b, "z"); e != api.ErrThere {
		t.Error(int(e))
	}
	popped(t, h, pair{b, ""})
	batched(t, h, 1, "")
	holds(t, h)
}

// P3.2: the order is that of keys, at all keys, in whatever order they are pushed.
func TestOrder(t *testing.T) {
	l := named(rising())
	if !slices.IsSortedFunc(l, func(a, b pair) int { return keys.Compare(a.k, b.k) }) {
		t.Fatal(l)
	}
	for first := range l {
		turned := slices.Concat(l[first:], l[:first])
		for range 2 {
			h := filled(t, turned...)
			holds(t, h, l...)
			for i, p := range l {
				if k, v, e := h.First(); k != p.k || v != p.v || e != api.OK {
					t.Fatalf("First: %v, %q, %d, not %v", k, v, int(e), p)
				}
				popped(t, h, p)
				holds(t, h, l[i+1:]...)
				lacks(t, h, p.k, api.ErrNone)
			}
			slices.Reverse(turned)
		}
	}
}

// P3.2: Batch takes all of the first time, in order, and nothing of another one.
func TestBatch(t *testing.T) {
	l := named(rising())
	h := filled(t, l...)
	batched(t, h, least, "a")
	batched(t, h, -1, "b")
	batched(t, h, 0, "c")
	holds(t, h, l[3:]...)
	batched(t, h, 5, "d", "e", "f", "g", "h", "i")
	for _, p := range l[:9] {
		lacks(t, h, p.k, api.ErrNone)
	}
	holds(t, h, l[9:]...)
	batched(t, h, 6, "j", "k")
	batched(t, h, api.MaxEnd, "l")
	batched(t, h, most, "m")
	holds(t, h)
}

// P3.2: the chapter's example.
func TestBatchExample(t *testing.T) {
	h := filled(t, pair{key(5, 0, 1, 0), "a"}, pair{key(3, 0, 1, 1), "b"}, pair{key(3, -1, -1, 0), "c"})
	batched(t, h, 3, "c", "b")
	holds(t, h, pair{key(5, 0, 1, 0), "a"})
}

// P3.2, R2: what Batch answers is the caller's, and no two answers share anything.
func TestBatchIsTheCallers(t *testing.T) {
	h := filled(t, pair{key(1, 0, 0, 0), "a"}, pair{key(1, 1, 0, 0), "b"}, pair{key(2, 0, 1, 0), "c"}, pair{key(2, 1, 1, 0), "d"})
	k := h.Copy()
	_, first, _ := h.Batch()
	_, same, _ := k.Batch()
	first[0], first[1] = "x", "y"
	_ = append(first, "z", "z")
	if !slices.Equal(same, []string{"a", "b"}) {
		t.Error(same)
	}
	holds(t, h, pair{key(2, 0, 1, 0), "c"}, pair{key(2, 1, 1, 0), "d"})
	batched(t, h, 2, "c", "d")
	if !slices.Equal(first, []string{"x", "y"}) {
		t.Error(first)
	}
}

// P3.2: All tells things as they are when it is asked for, as often as it is gone through.
func TestAllAsAskedFor(t *testing.T) {
	l := named(rising())
	h := filled(t, l...)
	all := h.All()
	pulled(t, h, l[4].k, l[4].v)
	popped(t, h, l[0])
	pushed(t, h, l[4].k, "new")
	pushed(t, h, key(7, 0, 0, 0), "other")
	for range 2 {
		if got := pairs(all); !slices.Equal(got, l) {
			t.Error(got)
		}
	}
	h = filled(t, l...)
	var got []pair
	for k, v := range h.All() {
		got = append(got, pair{k, v})
		h.Pop()
		h.Push(key(8, 0, 0, len(got)), "more")
	}
	if !slices.Equal(got, l) || h.Len() != len(l) {
		t.Error(got, h.Len())
	}
}

// P3.2: one who goes through all things may leave off, and begin again.
func TestAllLeftOff(t *testing.T) {
	l := named(rising())
	h := filled(t, l...)
	all := h.All()
	for n := 1; n <= len(l); n++ {
		var got []pair
		for k, v := range all {
			if got = append(got, pair{k, v}); len(got) == n {
				break
			}
		}
		if !slices.Equal(got, l[:n]) {
			t.Error(got)
		}
	}
	holds(t, h, l...)
}

// P3.2, R2: of no things, there is an iterator that tells nothing.
func TestAllOfNone(t *testing.T) {
	var none *iheap.Heap[string]
	for _, h := range []*iheap.Heap[string]{none, filled(t)} {
		all := h.All()
		if all == nil {
			t.Fatal("a nil function")
		}
		if got := pairs(all); len(got) != 0 {
			t.Error(got)
		}
	}
}

// P3.2: a copy is the same, and each of both goes its own way.
func TestCopy(t *testing.T) {
	l := named(rising())
	h := filled(t, l...)
	k := h.Copy()
	if k == h {
		t.Fatal("the copy is the heap itself")
	}
	holds(t, k, l...)
	pulled(t, h, l[5].k, l[5].v)
	popped(t, h, l[0])
	pushed(t, h, key(-5, 0, 0, 0), "h")
	holds(t, k, l...)
	batched(t, k, least, "a")
	pushed(t, k, key(-5, 0, 0, 0), "k")
	if e := k.Push(l[5].k, "z"); e != api.ErrThere {
		t.Error(int(e))
	}
	pulled(t, k, l[12].k, l[12].v)
	holds(t, h, slices.Concat([]pair{{key(-5, 0, 0, 0), "h"}}, l[1:5], l[6:])...)
	holds(t, k, slices.Concat([]pair{{key(-5, 0, 0, 0), "k"}}, l[1:12])...)
}

// P3.2: a copy of a heap that has nothing takes things.
func TestCopyOfNone(t *testing.T) {
	h := filled(t)
	k := h.Copy()
	holds(t, k)
	pushed(t, k, key(1, 0, 0, 0), "a")
	holds(t, k, pair{key(1, 0, 0, 0), "a"})
	holds(t, h)
}

// P3.2, R1: a nil heap.
func TestNilHeap(t *testing.T) {
	var h *iheap.Heap[string]
	if e := h.Push(key(1, 0, 0, 0), "a"); e != api.ErrNil {
		t.Error(int(e))
	}
	lacks(t, h, key(1, 0, 0, 0), api.ErrNil)
	lacks(t, h, api.Key{}, api.ErrNil)
	nothing(t, h, api.ErrNil)
	if h.Len() != 0 || h.Copy() != nil {
		t.Error(h.Len(), h.Copy())
	}
}

// P3.1: things of types that cannot be held against each other.
func TestOtherTypes(t *testing.T) {
	h := iheap.New[[]int]()
	h.Push(key(2, 0, 0, 0), []int{2})
	h.Push(key(1, 0, 0, 0), nil)
	if v, e := h.Pull(key(1, 0, 0, 0)); v != nil || e != api.OK || h.Len() != 1 {
		t.Error(v, int(e), h.Len())
	}
	if _, v, e := h.Pop(); !slices.Equal(v, []int{2}) || e != api.OK {
		t.Error(v, int(e))
	}
	f := iheap.New[func() int]()
	f.Push(key(2, 0, 0, 0), func() int { return 7 })
	if _, v, e := f.First(); e != api.OK || v() != 7 {
		t.Error(int(e))
	}
}
