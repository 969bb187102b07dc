// Package slab is layer 1: see shared/doc/01-slab.md.
package slab

import (
	"iter"
	"slices"

	"boomerang/api"
)

// Classes of what slots hold. They begin at 1, so that 0 is left for a slot that holds nothing.
const (
	Events = iota + 1
	Outputs
	Saves
	Controls
)

const nothing = 0

// Handle tells a slot, and which one in turn it is that holds it.
type Handle struct {
	Slot int
	Turn int
}

// place outlives what stands there: its turn never falls, so no handle is told twice.
type place struct {
	class int
	turn  int
}

type slot[T any] struct {
	place
	v T
}

// Slab is slots of which each holds a thing, or nothing.
type Slab[T any] struct {
	room    int
	reserve int
	slots   []slot[T] // only those that ever held a thing: these are always the least ones
	freed   []int     // the one that was freed last stands at the end
}

// New is one of so many slots, some of them kept for what is urgent.
func New[T any](slots, reserve int) (*Slab[T], api.Errno) {
	if slots < 1 || slots > api.MaxSlots || reserve < 0 || reserve > slots {
		return nil, api.ErrArg
	}
	return &Slab[T]{room: slots, reserve: reserve}, api.OK
}

// Take puts a thing into a slot.
func (s *Slab[T]) Take(class int, urgent bool, v T) (Handle, api.Errno) {
	switch {
	case s == nil:
		return Handle{}, api.ErrNil
	case class < Events || class > Controls:
		return Handle{}, api.ErrArg
	case s.full(urgent):
		return Handle{}, api.ErrFull
	}
	i := s.pick()
	x := &s.slots[i]
	x.class, x.v = class, v
	x.turn++
	return Handle{Slot: i, Turn: x.turn}, api.OK
}

func (s *Slab[T]) full(urgent bool) bool {
	if urgent {
		return s.Left() == 0
	}
	return s.Left() <= s.reserve
}

// pick takes a slot that holds nothing out of those that do; there is one, when it is called.
func (s *Slab[T]) pick() int {
	if n := len(s.freed); n > 0 {
		i := s.freed[n-1]
		s.freed = s.freed[:n-1]
		return i
	}
	s.slots = append(s.slots, slot[T]{})
	return len(s.slots) - 1
}

// Get is a slot's thing.
func (s *Slab[T]) Get(h Handle) (v T, e api.Errno) {
	x, e := s.find(h)
	if e != api.OK {
		return v, e
	}
	return x.v, api.OK
}

// Set puts another thing in its place.
func (s *Slab[T]) Set(h Handle, v T) api.Errno {
	x, e := s.find(h)
	if e != api.OK {
		return e
	}
	x.v = v
	return api.OK
}

// Class is the class of a slot's thing.
func (s *Slab[T]) Class(h Handle) (int, api.Errno) {
	x, e := s.find(h)
	if e != api.OK {
		return 0, e
	}
	return x.class, api.OK
}

// Free takes a thing out of its slot.
func (s *Slab[T]) Free(h Handle) (v T, e api.Errno) {
	x, e := s.find(h)
	if e != api.OK {
		return v, e
	}
	// The slot lets go of the thing, so that nothing is kept that no handle tells.
	v, x.v = x.v, v
	x.class = nothing
	s.freed = append(s.freed, h.Slot)
	return v, api.OK
}

func (s *Slab[T]) find(h Handle) (*slot[T], api.Errno) {
	if s == nil {
		return nil, api.ErrNil
	}
	if h.Slot < 0 || h.Slot >= len(s.slots) {
		return nil, api.ErrStale
	}
	x := &s.slots[h.Slot]
	if x.class == nothing || x.turn != h.Turn {
		return nil, api.ErrStale
	}
	return x, api.OK
}

// Live is how many things of classes there are.
func (s *Slab[T]) Live(classes ...int) int {
	if s == nil {
		return 0
	}
	if len(classes) == 0 {
		return s.held()
	}
	var asked [Controls + 1]bool
	for _, c := range classes {
		// A caller may ask for the class 0, too, and no thing is of that.
		if c >= Events && c <= Controls {
			asked[c] = true
		}
	}
	n := 0
	for _, x := range s.slots {
		if asked[x.class] {
			n++
		}
	}
	return n
}

func (s *Slab[T]) held() int {
	return len(s.slots) - len(s.freed)
}

// Left is how many slots hold nothing.
func (s *Slab[T]) Left() int {
	if s == nil {
		return 0
	}
	return s.room - s.held()
}

// All goes through all things, by rising slots.
func (s *Slab[T]) All() iter.Seq2[Handle, T] {
	if s == nil {
		return func(func(Handle, T) bool) {}
	}
	// Copied now, since the slab may change ahead of, or while, it is gone through.
	l := slices.Clone(s.slots)
	return func(yield func(Handle, T) bool) {
		for i, x := range l {
			if x.class != nothing && !yield(Handle{Slot: i, Turn: x.turn}, x.v) {
				return
			}
		}
	}
}

// Copy is a slab of its own that is the same.
func (s *Slab[T]) Copy() *Slab[T] {
	if s == nil {
		return nil
	}
	k := *s
	k.slots = slices.Clone(s.slots)
	k.freed = slices.Clone(s.freed)
	return &k
}
