package iheap_test

import (
	"cmp"
	"slices"
	"testing"

	"boomerang/api"
	"boomerang/iheap"
)

// numbers is a row of numbers that is the same each time.
type numbers uint64

func (n *numbers) below(m int) int {
	*n = *n*6364136223846793005 + 1442695040888963407
	return int((uint64(*n) >> 33) % uint64(m))
}

// item is a key, and the number it has.
type item struct {
	k api.Key
	v int
}

// plain is a heap as the chapter's words tell it: all things in order, without any haste.
type plain []item

// place is where a key stands, or would stand.
func (p plain) place(k api.Key) (int, bool) {
	return slices.BinarySearchFunc(p, k, func(x item, k api.Key) int {
		return cmp.Or(cmp.Compare(x.k.At, k.At), cmp.Compare(x.k.Src, k.Src), cmp.Compare(x.k.Sent, k.Sent), cmp.Compare(x.k.No, k.No))
	})
}

func (p *plain) push(k api.Key, v int) api.Errno {
	i, there := p.place(k)
	if there {
		return api.ErrThere
	}
	*p = slices.Insert(*p, i, item{k, v})
	return api.OK
}

func (p *plain) pull(k api.Key) (int, api.Errno) {
	i, there := p.place(k)
	if !there {
		return 0, api.ErrNone
	}
	v := (*p)[i].v
	*p = slices.Delete(*p, i, i+1)
	return v, api.OK
}

func (p *plain) pop() (x item, e api.Errno) {
	if len(*p) == 0 {
		return x, api.ErrNone
	}
	x = (*p)[0]
	*p = slices.Delete(*p, 0, 1)
	return x, api.OK
}

func (p *plain) batch() (at int, l []int, e api.Errno) {
	if len(*p) == 0 {
		return 0, nil, api.ErrNone
	}
	at = (*p)[0].k.At
	for len(*p) > 0 && (*p)[0].k.At == at {
		x, _ := p.pop()
		l = append(l, x.v)
	}
	return at, l, api.OK
}

func items(h *iheap.Heap[int]) (l plain) {
	for k, v := range h.All() {
		l = append(l, item{k, v})
	}
	return l
}

// some is a key out of few, so that keys are often there already, and share their times.
func some(r *numbers) api.Key {
	return api.Key{At: r.below(6), Src: r.below(3) - 1, Sent: r.below(2) - 1, No: r.below(3)}
}

func checkSame(t *testing.T, h *iheap.Heap[int], p plain) {
	t.Helper()
	if got := items(h); !slices.Equal(got, p) || h.Len() != len(p) {
		t.Fatalf("All: %v, Len: %d, not %v", got, h.Len(), p)
	}
	k, v, e := h.First()
	if len(p) == 0 && (e != api.ErrNone || k != api.Key{} || v != 0) {
		t.Fatalf("First: %v, %d, %d, of nothing", k, v, int(e))
	}
	if len(p) > 0 && (e != api.OK || k != p[0].k || v != p[0].v) {
		t.Fatalf("First: %v, %d, %d, not %v", k, v, int(e), p[0])
	}
}

func checkGet(t *testing.T, h *iheap.Heap[int], p plain, k api.Key) {
	t.Helper()
	v, e := h.Get(k)
	i, there := p.place(k)
	if there != (e == api.OK) || there && v != p[i].v || !there && (v != 0 || e != api.ErrNone) {
		t.Fatalf("Get(%v): %d, %d, of %v", k, v, int(e), p)
	}
}

// do does one thing at random to a heap, and the same to a plain one.
func do(t *testing.T, h *iheap.Heap[int], p *plain, r *numbers, i int) {
	t.Helper()
	k := some(r)
	switch r.below(12) {
	default:
		if e, f := h.Push(k, i), p.push(k, i); e != f {
			t.Fatalf("Push(%v): %d, not %d", k, int(e), int(f))
		}
	case 0, 1, 2, 3:
		v, e := h.Pull(k)
		if w, f := p.pull(k); v != w || e != f {
			t.Fatalf("Pull(%v): %d, %d, not %d, %d", k, v, int(e), w, int(f))
		}
	case 4:
		k, v, e := h.Pop()
		if x, f := p.pop(); k != x.k || v != x.v || e != f {
			t.Fatalf("Pop: %v, %d, %d, not %v, %d", k, v, int(e), x, int(f))
		}
	case 5:
		if r.below(4) > 0 {
			return
		}
		at, l, e := h.Batch()
		if a, m, f := p.batch(); at != a || !slices.Equal(l, m) || e != f {
			t.Fatalf("Batch: %d, %v, %d, not %d, %v, %d", at, l, int(e), a, m, int(f))
		}
	}
	checkGet(t, h, *p, k)
	checkGet(t, h, *p, some(r))
}

// P3.3, and P3.1 and P3.2 along the way: whatever is done in whatever order.
func TestFollows(t *testing.T) {
	greatest := 0
	for seed := range 60 {
		r := numbers(seed)
		h := iheap.New[int]()
		var p plain
		for i := range 400 {
			do(t, h, &p, &r, i+1)
			checkSame(t, h, p)
			greatest = max(greatest, len(p))
			if r.below(20) == 0 {
				old := h
				h = h.Copy()
				old.Pop()
				old.Push(api.Key{At: -1}, -1)
			}
		}
		for range 2 {
			k := h.Copy()
			for _, x := range p {
				if key, v, e := k.Pop(); key != x.k || v != x.v || e != api.OK {
					t.Fatalf("Pop: %v, %d, %d, not %v", key, v, int(e), x)
				}
			}
			checkSame(t, k, nil)
		}
	}
	if greatest < 30 {
		t.Error("too few things stood in a heap at once:", greatest)
	}
}

// P3.3: Batch, time by time, answers what Pop answers, each thing once, by rising times.
func TestBatchesFollow(t *testing.T) {
	for seed := range 100 {
		r := numbers(seed)
		h := iheap.New[int]()
		for i := range 60 {
			h.Push(some(&r), i)
		}
		k := h.Copy()
		last := -1
		for h.Len() > 0 {
			at, l, e := h.Batch()
			if e != api.OK || at <= last || len(l) == 0 {
				t.Fatalf("Batch behind %d: %d, %v, %d", last, at, l, int(e))
			}
			last = at
			for _, v := range l {
				if key, w, e := k.Pop(); v != w || key.At != at || e != api.OK {
					t.Fatalf("Pop: %v, %d, %d, and Batch at %d: %d", key, w, int(e), at, v)
				}
			}
		}
		if k.Len() != 0 {
			t.Fatal("Batch did not answer all:", k.Len())
		}
	}
}

// P3.3: in what order things were pushed, and others pulled between them, does not count but for what is there.
func TestAnyOrder(t *testing.T) {
	var want plain
	for i := range 40 {
		want = append(want, item{api.Key{At: i / 8, Src: i/4%2 - 1, Sent: i/2%2 - 1, No: i % 2}, i})
	}
	r := numbers(7)
	for range 300 {
		h := iheap.New[int]()
		rest := slices.Clone(want)
		for n := 0; len(rest) > 0; n++ {
			other := api.Key{At: r.below(6), Src: 5, Sent: n}
			h.Push(other, -1)
			i := r.below(len(rest))
			h.Push(rest[i].k, rest[i].v)
			rest = slices.Delete(rest, i, i+1)
			if v, e := h.Pull(other); v != -1 || e != api.OK {
				t.Fatal(v, int(e))
			}
		}
		checkSame(t, h, want)
		for _, x := range want {
			if k, v, e := h.Pop(); k != x.k || v != x.v || e != api.OK {
				t.Fatalf("Pop: %v, %d, %d, not %v", k, v, int(e), x)
			}
		}
	}
}

// P3.3: many things, that are pulled from the middle, and popped, in the time that a heap takes.
func TestMany(t *testing.T) {
	const many = 100000
	h := iheap.New[int]()
	at := func(i int) api.Key { return api.Key{At: i * 7919 % many, No: i % 3} }
	for i := range many {
		if e := h.Push(at(i), i); e != api.OK {
			t.Fatal(i, int(e))
		}
	}
	for i := 0; i < many; i += 2 {
		if v, e := h.Pull(at(i)); v != i || e != api.OK {
			t.Fatal(i, v, int(e))
		}
	}
	last := -1
	for range many / 2 {
		k, v, e := h.Pop()
		if e != api.OK || k.At <= last || v%2 == 0 || at(v) != k {
			t.Fatalf("Pop behind %d: %v, %d, %d", last, k, v, int(e))
		}
		last = k.At
	}
	if h.Len() != 0 {
		t.Error(h.Len())
	}
}
