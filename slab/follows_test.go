package slab_test

import (
	"slices"
	"testing"

	"boomerang/api"
	"boomerang/slab"
)

// thing is what a plain slab holds in a slot; of the class 0 nothing.
type thing struct {
	class, turn, v int
	freed          int // when it was freed, from 1 on
}

// plain is a slab as the chapter's words tell it, without any haste.
type plain struct {
	slots   []thing
	reserve int
	frees   int
}

func (p *plain) left() int {
	n := 0
	for _, x := range p.slots {
		if x.class == 0 {
			n++
		}
	}
	return n
}

func (p *plain) live(class int) int {
	n := 0
	for _, x := range p.slots {
		if x.class == class {
			n++
		}
	}
	return n
}

func (p *plain) take(class int, urgent bool, v int) (slab.Handle, api.Errno) {
	left := p.left()
	if left == 0 || !urgent && left <= p.reserve {
		return slab.Handle{}, api.ErrFull
	}
	best := -1
	for i, x := range p.slots {
		if x.class == 0 && (best < 0 || x.freed > p.slots[best].freed) {
			best = i
		}
	}
	x := &p.slots[best]
	x.class, x.v = class, v
	x.turn++
	return slab.Handle{Slot: best, Turn: x.turn}, api.OK
}

func (p *plain) free(h slab.Handle) (int, api.Errno) {
	x := &p.slots[h.Slot]
	if x.class == 0 || x.turn != h.Turn {
		return 0, api.ErrStale
	}
	p.frees++
	v := x.v
	x.class, x.v, x.freed = 0, 0, p.frees
	return v, api.OK
}

// numbers is a row of numbers that is the same each time.
type numbers uint64

func (n *numbers) below(m int) int {
	*n = *n*6364136223846793005 + 1442695040888963407
	return int((uint64(*n) >> 33) % uint64(m))
}

func checkSame(t *testing.T, s *slab.Slab[int], p *plain, told []slab.Handle) {
	t.Helper()
	if s.Left() != p.left() || s.Live()+s.Left() != len(p.slots) {
		t.Fatalf("Left %d, Live %d, not %d of %d", s.Left(), s.Live(), p.left(), len(p.slots))
	}
	for class := slab.Events; class <= slab.Controls; class++ {
		if s.Live(class) != p.live(class) {
			t.Fatalf("Live(%d): %d, not %d", class, s.Live(class), p.live(class))
		}
	}
	var got, want []int
	for h, v := range s.All() {
		got = append(got, h.Slot, h.Turn, v)
	}
	for i, x := range p.slots {
		if x.class != 0 {
			want = append(want, i, x.turn, x.v)
		}
	}
	if !slices.Equal(got, want) {
		t.Fatalf("All: %v, not %v", got, want)
	}
	for _, h := range told {
		checkTold(t, s, p.slots[h.Slot], h)
	}
}

// checkTold asks a handle that was told at any time so far: it tells its thing, or nothing ever again.
func checkTold(t *testing.T, s *slab.Slab[int], x thing, h slab.Handle) {
	t.Helper()
	v, e := s.Get(h)
	c, f := s.Class(h)
	if x.class != 0 && x.turn == h.Turn {
		if v != x.v || c != x.class || e != api.OK || f != api.OK {
			t.Fatalf("%v: %d of class %d, %d, %d, not %d of %d", h, v, c, int(e), int(f), x.v, x.class)
		}
	} else if v != 0 || c != 0 || e != api.ErrStale || f != api.ErrStale {
		t.Fatalf("%v: %d of class %d, %d, %d, though it tells nothing", h, v, c, int(e), int(f))
	}
}

// walk does things at random to a slab, and the same to a plain one, and answers all that was told.
func walk(t *testing.T, slots, reserve, seed int) (told []slab.Handle) {
	t.Helper()
	s, e := slab.New[int](slots, reserve)
	if e != api.OK {
		t.Fatal(int(e))
	}
	p := &plain{slots: make([]thing, slots), reserve: reserve}
	r := numbers(seed)
	for i := range 150 {
		switch {
		case len(told) == 0 || r.below(5) < 3:
			class, urgent := slab.Events+r.below(4), r.below(3) == 0
			h, e := s.Take(class, urgent, i)
			if g, f := p.take(class, urgent, i); h != g || e != f {
				t.Fatalf("Take: %v, %d, not %v, %d", h, int(e), g, int(f))
			}
			if e == api.OK {
				if slices.Contains(told, h) {
					t.Fatalf("%v was told twice", h)
				}
				told = append(told, h)
			}
		case r.below(4) == 0:
			h := told[r.below(len(told))]
			x := &p.slots[h.Slot]
			if e := s.Set(h, -i); (e == api.OK) != (x.class != 0 && x.turn == h.Turn) {
				t.Fatalf("Set(%v): %d", h, int(e))
			} else if e == api.OK {
				x.v = -i
			}
		default:
			h := told[len(told)-1-r.below(min(len(told), slots+1))]
			v, e := s.Free(h)
			if w, f := p.free(h); v != w || e != f {
				t.Fatalf("Free(%v): %d, %d, not %d, %d", h, v, int(e), w, int(f))
			}
		}
		if r.below(10) == 0 {
			s = s.Copy()
		}
		checkSame(t, s, p, told)
	}
	return told
}

// P1.4, and P1.1 to P1.3 along the way: whatever is done in whatever order.
func TestFollows(t *testing.T) {
	for slots := 1; slots <= 7; slots++ {
		for reserve := 0; reserve <= slots; reserve++ {
			for seed := range 4 {
				walk(t, slots, reserve, seed)
			}
		}
	}
}

// R3: the same calls are answered the same.
func TestSameAgain(t *testing.T) {
	if a, b := walk(t, 6, 2, 9), walk(t, 6, 2, 9); !slices.Equal(a, b) {
		t.Error(a, b)
	}
}

// P1.4: a handle of what is freed tells nothing ever again, however often its slot is taken.
func TestNeverAgain(t *testing.T) {
	s, _ := slab.New[int](1, 0)
	var old []slab.Handle
	for i := range 300 {
		h, e := s.Take(slab.Events, false, i)
		if e != api.OK || h != (slab.Handle{Slot: 0, Turn: i + 1}) {
			t.Fatal(h, int(e))
		}
		for _, o := range old {
			if v, e := s.Get(o); v != 0 || e != api.ErrStale {
				t.Fatal(o, v, int(e))
			}
		}
		if v, e := s.Free(h); v != i || e != api.OK {
			t.Fatal(v, int(e))
		}
		old = append(old, h)
	}
}
