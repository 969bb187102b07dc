package slab_test

import (
	"maps"
	"math"
	"slices"
	"testing"

	"boomerang/api"
	"boomerang/slab"
)

func made(t *testing.T, slots, reserve int) *slab.Slab[string] {
	t.Helper()
	s, e := slab.New[string](slots, reserve)
	if e != api.OK || s == nil {
		t.Fatalf("New(%d, %d): %d", slots, reserve, int(e))
	}
	return s
}

func taken(t *testing.T, s *slab.Slab[string], class int, urgent bool, v string, want slab.Handle) slab.Handle {
	t.Helper()
	h, e := s.Take(class, urgent, v)
	if e != api.OK || h != want {
		t.Fatalf("Take(%d, %v, %q): %v, %d, not %v", class, urgent, v, h, int(e), want)
	}
	return h
}

func refused(t *testing.T, s *slab.Slab[string], class int, urgent bool, want api.Errno) {
	t.Helper()
	left, live := s.Left(), s.Live()
	h, e := s.Take(class, urgent, "refused")
	if e != want || h != (slab.Handle{}) {
		t.Errorf("Take(%d, %v): %v, %d, not %d", class, urgent, h, int(e), int(want))
	}
	if s.Left() != left || s.Live() != live {
		t.Errorf("Take(%d, %v) was refused, but changed something", class, urgent)
	}
}

func freed(t *testing.T, s *slab.Slab[string], h slab.Handle, want string) {
	t.Helper()
	if v, e := s.Free(h); e != api.OK || v != want {
		t.Fatalf("Free(%v): %q, %d, not %q", h, v, int(e), want)
	}
}

func stale(t *testing.T, s *slab.Slab[string], h slab.Handle, want api.Errno) {
	t.Helper()
	if v, e := s.Get(h); e != want || v != "" {
		t.Errorf("Get(%v): %q, %d, not %d", h, v, int(e), int(want))
	}
	if e := s.Set(h, "stale"); e != want {
		t.Errorf("Set(%v): %d, not %d", h, int(e), int(want))
	}
	if c, e := s.Class(h); e != want || c != 0 {
		t.Errorf("Class(%v): %d, %d, not %d", h, c, int(e), int(want))
	}
	if v, e := s.Free(h); e != want || v != "" {
		t.Errorf("Free(%v): %q, %d, not %d", h, v, int(e), int(want))
	}
}

func slotsOf(s *slab.Slab[string]) (hs []slab.Handle, vs []string) {
	for h, v := range s.All() {
		hs, vs = append(hs, h), append(vs, v)
	}
	return hs, vs
}

// P1.1: what New takes and refuses.
func TestNew(t *testing.T) {
	for _, c := range []struct {
		slots, reserve int
		want           api.Errno
	}{
		{1, 0, api.OK},
		{1, 1, api.OK},
		{7, 3, api.OK},
		{api.MaxSlots, 0, api.OK},
		{api.MaxSlots, api.MaxSlots, api.OK},
		{0, 0, api.ErrArg},
		{-1, 0, api.ErrArg},
		{-1, -1, api.ErrArg},
		{api.MaxSlots + 1, 0, api.ErrArg},
		{math.MaxInt, 0, api.ErrArg},
		{math.MinInt, 0, api.ErrArg},
		{1, 2, api.ErrArg},
		{5, -1, api.ErrArg},
		{5, math.MaxInt, api.ErrArg},
		{5, math.MinInt, api.ErrArg},
	} {
		s, e := slab.New[int](c.slots, c.reserve)
		if e != c.want {
			t.Errorf("New(%d, %d): %d, not %d", c.slots, c.reserve, int(e), int(c.want))
		}
		if (s != nil) != (c.want == api.OK) {
			t.Errorf("New(%d, %d): a slab is answered: %v", c.slots, c.reserve, s != nil)
		}
		if e == api.OK && (s.Left() != c.slots || s.Live() != 0) {
			t.Errorf("New(%d, %d): Left %d, Live %d", c.slots, c.reserve, s.Left(), s.Live())
		}
	}
}

// P1.1: the chapter's example.
func TestExample(t *testing.T) {
	s := made(t, 3, 1)
	a := taken(t, s, slab.Events, false, "a", slab.Handle{Slot: 0, Turn: 1})
	taken(t, s, slab.Events, false, "b", slab.Handle{Slot: 1, Turn: 1})
	refused(t, s, slab.Events, false, api.ErrFull)
	taken(t, s, slab.Events, true, "c", slab.Handle{Slot: 2, Turn: 1})
	freed(t, s, a, "a")
	taken(t, s, slab.Events, true, "d", slab.Handle{Slot: 0, Turn: 2})
}

// P1.1: the classes are 1 to 4, and a class that is none is told ahead of a lack of room.
func TestTakeClass(t *testing.T) {
	if slab.Events != 1 || slab.Outputs != 2 || slab.Saves != 3 || slab.Controls != 4 {
		t.Error("classes:", slab.Events, slab.Outputs, slab.Saves, slab.Controls)
	}
	s := made(t, 4, 0)
	for _, class := range []int{0, -1, 5, math.MaxInt, math.MinInt} {
		refused(t, s, class, true, api.ErrArg)
		refused(t, s, class, false, api.ErrArg)
	}
	for class := slab.Events; class <= slab.Controls; class++ {
		h := taken(t, s, class, false, "x", slab.Handle{Slot: class - 1, Turn: 1})
		if c, e := s.Class(h); c != class || e != api.OK {
			t.Errorf("Class: %d, %d, not %d", c, int(e), class)
		}
	}
	refused(t, s, 5, true, api.ErrArg)
	refused(t, s, 0, false, api.ErrArg)
	refused(t, s, slab.Controls, true, api.ErrFull)
}

// P1.1, P1.4: what is not urgent leaves as many slots as are kept; what is urgent takes these too.
func TestReserve(t *testing.T) {
	for slots := 1; slots <= 5; slots++ {
		for reserve := 0; reserve <= slots; reserve++ {
			s := made(t, slots, reserve)
			for i := range slots - reserve {
				taken(t, s, slab.Saves, false, "x", slab.Handle{Slot: i, Turn: 1})
			}
			refused(t, s, slab.Saves, false, api.ErrFull)
			if s.Left() != reserve {
				t.Errorf("of %d slots, %d kept, %d are left", slots, reserve, s.Left())
			}
			for i := slots - reserve; i < slots; i++ {
				taken(t, s, slab.Saves, true, "x", slab.Handle{Slot: i, Turn: 1})
				refused(t, s, slab.Saves, false, api.ErrFull)
			}
			refused(t, s, slab.Saves, true, api.ErrFull)
			if s.Left() != 0 {
				t.Errorf("of %d slots %d are left", slots, s.Left())
			}
		}
	}
}

// P1.1: what is freed counts as room for what is not urgent only above what is kept.
func TestReserveAfterFree(t *testing.T) {
	s := made(t, 3, 1)
	a := taken(t, s, slab.Events, true, "a", slab.Handle{Slot: 0, Turn: 1})
	b := taken(t, s, slab.Events, true, "b", slab.Handle{Slot: 1, Turn: 1})
	taken(t, s, slab.Events, true, "c", slab.Handle{Slot: 2, Turn: 1})
	freed(t, s, a, "a")
	refused(t, s, slab.Events, false, api.ErrFull)
	freed(t, s, b, "b")
	taken(t, s, slab.Events, false, "d", slab.Handle{Slot: 1, Turn: 2})
	refused(t, s, slab.Events, false, api.ErrFull)
	taken(t, s, slab.Events, true, "e", slab.Handle{Slot: 0, Turn: 2})
}

// P1.1: the slot that was freed last comes first, and all that were freed come ahead of those that never held a thing.
func TestWhichSlot(t *testing.T) {
	s := made(t, 6, 0)
	var h [4]slab.Handle
	for i := range h {
		h[i] = taken(t, s, slab.Events, false, "x", slab.Handle{Slot: i, Turn: 1})
	}
	for _, i := range []int{2, 0, 3} {
		freed(t, s, h[i], "x")
	}
	three := taken(t, s, slab.Events, false, "x", slab.Handle{Slot: 3, Turn: 2})
	freed(t, s, h[1], "x")
	freed(t, s, three, "x")
	taken(t, s, slab.Events, false, "x", slab.Handle{Slot: 3, Turn: 3})
	taken(t, s, slab.Events, false, "x", slab.Handle{Slot: 1, Turn: 2})
	taken(t, s, slab.Events, false, "x", slab.Handle{Slot: 0, Turn: 2})
	taken(t, s, slab.Events, false, "x", slab.Handle{Slot: 2, Turn: 2})
	taken(t, s, slab.Events, false, "x", slab.Handle{Slot: 4, Turn: 1})
	taken(t, s, slab.Events, false, "x", slab.Handle{Slot: 5, Turn: 1})
	refused(t, s, slab.Events, true, api.ErrFull)
}

// P1.1: a Take that is refused, and a Free that is, leave the turns and the order of the slots alone.
func TestRefusedChangesNothing(t *testing.T) {
	s := made(t, 2, 0)
	a := taken(t, s, slab.Events, false, "a", slab.Handle{Slot: 0, Turn: 1})
	b := taken(t, s, slab.Events, false, "b", slab.Handle{Slot: 1, Turn: 1})
	refused(t, s, slab.Events, true, api.ErrFull)
	freed(t, s, a, "a")
	freed(t, s, b, "b")
	stale(t, s, a, api.ErrStale)
	refused(t, s, 9, true, api.ErrArg)
	taken(t, s, slab.Events, false, "c", slab.Handle{Slot: 1, Turn: 2})
	taken(t, s, slab.Events, false, "d", slab.Handle{Slot: 0, Turn: 2})
}

// P1.1: all slots that there may be.
func TestMostSlots(t *testing.T) {
	s := made(t, api.MaxSlots, 1)
	for i := range api.MaxSlots - 1 {
		taken(t, s, slab.Outputs, false, "x", slab.Handle{Slot: i, Turn: 1})
	}
	refused(t, s, slab.Outputs, false, api.ErrFull)
	taken(t, s, slab.Outputs, true, "x", slab.Handle{Slot: api.MaxSlots - 1, Turn: 1})
	refused(t, s, slab.Outputs, true, api.ErrFull)
	if s.Live() != api.MaxSlots || s.Live(slab.Outputs) != api.MaxSlots || s.Left() != 0 {
		t.Error(s.Live(), s.Left())
	}
}

// P1.2: Get, Set, Class and Free of a handle that tells a thing.
func TestGetSetClassFree(t *testing.T) {
	s := made(t, 3, 0)
	a := taken(t, s, slab.Outputs, false, "a", slab.Handle{Slot: 0, Turn: 1})
	b := taken(t, s, slab.Controls, false, "b", slab.Handle{Slot: 1, Turn: 1})
	if v, e := s.Get(a); v != "a" || e != api.OK {
		t.Error(v, int(e))
	}
	if e := s.Set(a, "z"); e != api.OK {
		t.Error(int(e))
	}
	if v, e := s.Get(a); v != "z" || e != api.OK {
		t.Error(v, int(e))
	}
	if c, e := s.Class(a); c != slab.Outputs || e != api.OK {
		t.Error(c, int(e))
	}
	if v, e := s.Get(b); v != "b" || e != api.OK {
		t.Error("Set of one changed the other one:", v, int(e))
	}
	if s.Live() != 2 || s.Left() != 1 {
		t.Error(s.Live(), s.Left())
	}
	freed(t, s, a, "z")
	if s.Live() != 1 || s.Left() != 2 {
		t.Error(s.Live(), s.Left())
	}
	stale(t, s, a, api.ErrStale)
	if c, e := s.Class(b); c != slab.Controls || e != api.OK {
		t.Error(c, int(e))
	}
}

// P1.1, P1.2: a slot that is taken again is of the class, and holds the thing, that it was taken with.
func TestTakenAgain(t *testing.T) {
	s := made(t, 1, 0)
	a := taken(t, s, slab.Controls, false, "a", slab.Handle{Slot: 0, Turn: 1})
	freed(t, s, a, "a")
	b := taken(t, s, slab.Events, false, "", slab.Handle{Slot: 0, Turn: 2})
	if c, e := s.Class(b); c != slab.Events || e != api.OK {
		t.Error(c, int(e))
	}
	if v, e := s.Get(b); v != "" || e != api.OK {
		t.Error(v, int(e))
	}
	if s.Live(slab.Controls) != 0 || s.Live(slab.Events) != 1 {
		t.Error(s.Live(slab.Controls), s.Live(slab.Events))
	}
}

// P1.2: handles that tell no thing, also those of slots that hold nothing, or that there are not.
func TestStale(t *testing.T) {
	s := made(t, 3, 0)
	a := taken(t, s, slab.Events, false, "a", slab.Handle{Slot: 0, Turn: 1})
	freed(t, s, a, "a")
	b := taken(t, s, slab.Events, false, "b", slab.Handle{Slot: 0, Turn: 2})
	c := taken(t, s, slab.Events, false, "c", slab.Handle{Slot: 1, Turn: 1})
	freed(t, s, c, "c")
	for _, h := range []slab.Handle{
		{},
		a,
		c,
		{Slot: 0, Turn: 0},
		{Slot: 0, Turn: 3},
		{Slot: 0, Turn: -2},
		{Slot: 1, Turn: 0},
		{Slot: 1, Turn: 2},
		{Slot: 2, Turn: 0},
		{Slot: 2, Turn: 1},
		{Slot: 3, Turn: 0},
		{Slot: 3, Turn: 1},
		{Slot: -1, Turn: 0},
		{Slot: -1, Turn: 1},
		{Slot: math.MaxInt, Turn: 1},
		{Slot: math.MinInt, Turn: 1},
		{Slot: 0, Turn: math.MaxInt},
		{Slot: 0, Turn: math.MinInt},
	} {
		stale(t, s, h, api.ErrStale)
	}
	if v, e := s.Get(b); v != "b" || e != api.OK {
		t.Error("a stale handle changed what is there:", v, int(e))
	}
	if s.Live() != 1 || s.Left() != 2 {
		t.Error(s.Live(), s.Left())
	}
}

// P1.3: Live counts a class once, however often it is told, and nothing of what is no class.
func TestLive(t *testing.T) {
	s := made(t, 10, 0)
	var first slab.Handle
	for i, class := range []int{slab.Events, slab.Saves, slab.Saves, slab.Controls, slab.Events, slab.Events} {
		h := taken(t, s, class, false, "x", slab.Handle{Slot: i, Turn: 1})
		if i == 0 {
			first = h
		}
	}
	freed(t, s, first, "x")
	for _, c := range []struct {
		classes []int
		want    int
	}{
		{nil, 5},
		{[]int{}, 5},
		{[]int{slab.Events}, 2},
		{[]int{slab.Outputs}, 0},
		{[]int{slab.Saves}, 2},
		{[]int{slab.Controls}, 1},
		{[]int{slab.Events, slab.Saves}, 4},
		{[]int{slab.Saves, slab.Events, slab.Saves, slab.Saves}, 4},
		{[]int{slab.Events, slab.Outputs, slab.Saves, slab.Controls}, 5},
		{[]int{0}, 0},
		{[]int{-1, 5, math.MaxInt, math.MinInt}, 0},
		{[]int{0, slab.Controls, 5}, 1},
	} {
		if n := s.Live(c.classes...); n != c.want {
			t.Errorf("Live(%v): %d, not %d", c.classes, n, c.want)
		}
	}
}

// R2: what is handed in stays as it is, also behind its length.
func TestLiveLeavesClasses(t *testing.T) {
	s := made(t, 2, 0)
	taken(t, s, slab.Saves, false, "x", slab.Handle{Slot: 0, Turn: 1})
	l := []int{slab.Saves, slab.Events, slab.Saves, 9, 8}
	s.Live(l[:3]...)
	if !slices.Equal(l, []int{slab.Saves, slab.Events, slab.Saves, 9, 8}) {
		t.Error(l)
	}
}

// P1.3: All goes by rising slots, whatever order the things came in.
func TestAll(t *testing.T) {
	s := made(t, 5, 0)
	if hs, _ := slotsOf(s); len(hs) != 0 {
		t.Error("a new slab tells", hs)
	}
	a := taken(t, s, slab.Events, false, "a", slab.Handle{Slot: 0, Turn: 1})
	b := taken(t, s, slab.Saves, false, "b", slab.Handle{Slot: 1, Turn: 1})
	taken(t, s, slab.Saves, false, "c", slab.Handle{Slot: 2, Turn: 1})
	freed(t, s, a, "a")
	freed(t, s, b, "b")
	taken(t, s, slab.Events, false, "d", slab.Handle{Slot: 1, Turn: 2})
	hs, vs := slotsOf(s)
	if !slices.Equal(hs, []slab.Handle{{Slot: 1, Turn: 2}, {Slot: 2, Turn: 1}}) || !slices.Equal(vs, []string{"d", "c"}) {
		t.Error(hs, vs)
	}
	for h, v := range s.All() {
		if w, e := s.Get(h); w != v || e != api.OK {
			t.Error(h, v, w, int(e))
		}
	}
}

// P1.3: All tells things as they are when it is asked for, as often as it is gone through, and ends when it is told to.
func TestAllAsAskedFor(t *testing.T) {
	s := made(t, 4, 0)
	a := taken(t, s, slab.Events, false, "a", slab.Handle{Slot: 0, Turn: 1})
	b := taken(t, s, slab.Events, false, "b", slab.Handle{Slot: 1, Turn: 1})
	c := taken(t, s, slab.Events, false, "c", slab.Handle{Slot: 2, Turn: 1})
	all := s.All()
	freed(t, s, a, "a")
	s.Set(b, "z")
	taken(t, s, slab.Events, false, "d", slab.Handle{Slot: 0, Turn: 2})
	taken(t, s, slab.Events, false, "e", slab.Handle{Slot: 3, Turn: 1})
	want := map[slab.Handle]string{a: "a", b: "b", c: "c"}
	for range 2 {
		if got := maps.Collect(all); !maps.Equal(got, want) {
			t.Error(got)
		}
	}
	n := 0
	for h := range s.All() {
		s.Free(h)
		if n++; n == 2 {
			break
		}
	}
	if n != 2 || s.Live() != 2 {
		t.Error(n, s.Live())
	}
}

// P1.3: a copy is the same, down to which slot comes next, and each of both goes its own way.
func TestCopy(t *testing.T) {
	s := made(t, 5, 1)
	a := taken(t, s, slab.Events, false, "a", slab.Handle{Slot: 0, Turn: 1})
	b := taken(t, s, slab.Saves, false, "b", slab.Handle{Slot: 1, Turn: 1})
	c := taken(t, s, slab.Controls, false, "c", slab.Handle{Slot: 2, Turn: 1})
	freed(t, s, b, "b")
	freed(t, s, a, "a")
	k := s.Copy()
	if k == s || k.Left() != s.Left() || k.Live() != s.Live() || k.Live(slab.Controls) != 1 {
		t.Fatal(k.Left(), k.Live())
	}
	for _, x := range []*slab.Slab[string]{s, k} {
		taken(t, x, slab.Events, false, "d", slab.Handle{Slot: 0, Turn: 2})
		taken(t, x, slab.Events, false, "e", slab.Handle{Slot: 1, Turn: 2})
		taken(t, x, slab.Events, false, "f", slab.Handle{Slot: 3, Turn: 1})
		refused(t, x, slab.Events, false, api.ErrFull)
		taken(t, x, slab.Events, true, "g", slab.Handle{Slot: 4, Turn: 1})
		refused(t, x, slab.Events, true, api.ErrFull)
	}
	s.Set(c, "z")
	if v, _ := k.Get(c); v != "c" {
		t.Error("Set of the first one changed the copy:", v)
	}
	freed(t, k, c, "c")
	if v, e := s.Get(c); v != "z" || e != api.OK || s.Left() != 0 || k.Left() != 1 {
		t.Error("Free of the copy changed the first one:", v, int(e))
	}
}

// P1.3: a copy and the first one, freed in different orders, do not disturb each other.
func TestCopyFreed(t *testing.T) {
	s := made(t, 4, 0)
	var h [4]slab.Handle
	for i := range h {
		h[i] = taken(t, s, slab.Events, false, "x", slab.Handle{Slot: i, Turn: 1})
	}
	for _, x := range h[:3] {
		freed(t, s, x, "x")
	}
	taken(t, s, slab.Events, false, "x", slab.Handle{Slot: 2, Turn: 2})
	k := s.Copy()
	freed(t, s, h[3], "x")
	freed(t, k, slab.Handle{Slot: 2, Turn: 2}, "x")
	taken(t, s, slab.Events, false, "x", slab.Handle{Slot: 3, Turn: 2})
	taken(t, k, slab.Events, false, "x", slab.Handle{Slot: 2, Turn: 3})
}

// P1.3, R1: a nil slab.
func TestNilSlab(t *testing.T) {
	var s *slab.Slab[string]
	refused(t, s, slab.Events, true, api.ErrNil)
	refused(t, s, 0, true, api.ErrNil)
	stale(t, s, slab.Handle{}, api.ErrNil)
	stale(t, s, slab.Handle{Slot: 0, Turn: 1}, api.ErrNil)
	if s.Live() != 0 || s.Live(slab.Events) != 0 || s.Left() != 0 || s.Copy() != nil {
		t.Error(s.Live(), s.Left(), s.Copy())
	}
	all := s.All()
	if all == nil {
		t.Fatal("All is a nil function")
	}
	for h, v := range all {
		t.Error(h, v)
	}
}

// P1.1: things of other types, and the zero value among them.
func TestOtherTypes(t *testing.T) {
	type pair struct{ a, b int }
	s, _ := slab.New[pair](2, 0)
	h, e := s.Take(slab.Saves, false, pair{})
	if v, f := s.Get(h); e != api.OK || f != api.OK || v != (pair{}) || s.Live() != 1 {
		t.Error(h, v, int(e), int(f))
	}
	p, _ := slab.New[*pair](2, 0)
	g, _ := p.Take(slab.Saves, false, nil)
	if v, f := p.Get(g); v != nil || f != api.OK || p.Live(slab.Saves) != 1 {
		t.Error(v, int(f))
	}
}
