package batch_test

import (
	"cmp"
	"math/big"
	"slices"
	"testing"

	"boomerang/api"
	"boomerang/batch"
	"boomerang/code"
	"boomerang/keys"
	"boomerang/model"
	"boomerang/vm"
)

// draws is a row of numbers that is the same each time.
type draws uint64

func (d *draws) below(m int) int {
	*d = *d*6364136223846793005 + 1442695040888963407
	return int((uint64(*d) >> 33) % uint64(m))
}

// number is one that is small, or now and then at an edge.
func (d *draws) number() int {
	edges := []int{least, -1, 31, 32, 1<<30 - 1, 1 << 30, 1<<30 + 1, most}
	if d.below(12) == 0 {
		return edges[d.below(len(edges))]
	}
	return d.below(5)
}

func (d *draws) instr(many int) code.Instr {
	a, b, c := d.below(8), d.below(8), d.below(8)
	switch d.below(8) {
	case 0:
		return code.Instr{Op: code.Set, A: a, B: d.number()}
	case 1:
		return code.Instr{Op: []int{code.Now, code.Kind, code.Data, code.Self}[d.below(4)], A: a}
	case 2:
		return code.Instr{Op: []int{code.Add, code.Sub, code.Mul, code.Mod, code.Less}[d.below(5)], A: a, B: b, C: c}
	case 3:
		return code.Instr{Op: code.Zero, A: a, B: d.below(many + 1)}
	case 4:
		return code.Instr{Op: code.Jump, A: d.below(many + 1)}
	default:
		return code.Instr{Op: code.Send, A: a, B: b, C: c, D: d.below(256)}
	}
}

// model is one of a few processes, whose programs send a lot; it is told with its configuration.
func (d *draws) model(t *testing.T) (*model.Model, model.Config) {
	t.Helper()
	ends := []int{1, 5, 20, 100, 1<<30 - 1, 1 << 30}
	c := model.Config{End: ends[d.below(len(ends))], Fuel: 1 + d.below(60), Fan: d.below(9)}
	for range 1 + d.below(3) {
		p := make([]code.Instr, 1+d.below(12))
		for i := range p {
			p[i] = d.instr(len(p))
		}
		c.Programs = append(c.Programs, p)
	}
	for range 1 + d.below(4) {
		c.LPs = append(c.LPs, model.Place{Program: d.below(len(c.Programs))})
	}
	m, e := model.New(c)
	if e != api.OK {
		t.Fatal(c, int(e))
	}
	return m, c
}

func (d *draws) state() api.State {
	return api.State{d.number(), d.number(), d.number(), d.number()}
}

// events are some that go to a process, that may be, and of which no two have one key, in no order.
func (d *draws) events(lp, end int) []api.Event {
	there := map[api.Key]int{}
	var l []api.Event
	first := d.below(3) * d.below(end)
	for range d.below(12) {
		at := min(end, first+d.below(4))
		k := api.Key{At: at, Src: d.below(4) - 1, Sent: at - 1 - d.below(min(3, at+1)), No: d.below(3)}
		if there[k]++; there[k] == 1 {
			l = append(l, api.Event{Key: k, Dst: lp, Kind: d.below(256), Data: d.number()})
		}
	}
	return l
}

func (d *draws) shuffled(l []api.Event) []api.Event {
	l = slices.Clone(l)
	for i := len(l) - 1; i > 0; i-- {
		j := d.below(i + 1)
		l[i], l[j] = l[j], l[i]
	}
	return l
}

// sorted tells events in the order of the document's words: when they come, from whom, when they were sent, as which one.
func sorted(l []api.Event) []api.Event {
	return slices.SortedFunc(slices.Values(l), func(a, b api.Event) int {
		return cmp.Or(cmp.Compare(a.At, b.At), cmp.Compare(a.Src, b.Src), cmp.Compare(a.Sent, b.Sent), cmp.Compare(a.No, b.No))
	})
}

// plain runs events of any times as the chapter's words say, with sums that have no end; numbers begin anew with each time.
func plain(c model.Config, lp int, s api.State, l []api.Event) (api.State, []api.Event) {
	var all []api.Event
	no, before := 0, least
	for _, e := range sorted(l) {
		if e.At != before {
			no, before = 0, e.At
		}
		var emits []vm.Emit
		s, emits, _ = vm.Run(c.Programs[c.LPs[lp].Program], s, e, c.Fuel, c.Fan)
		for _, x := range emits {
			at := new(big.Int).Add(big.NewInt(int64(e.At)), big.NewInt(int64(x.Delay)))
			late := at.Cmp(big.NewInt(int64(c.End))) > 0
			if x.Dst < 0 || x.Dst > len(c.LPs)-1 || x.Delay < 1 || x.Delay > 1073741824 || late {
				continue
			}
			all = append(all, api.Event{Key: api.Key{At: int(at.Int64()), Src: lp, Sent: e.At, No: no}, Dst: x.Dst, Kind: x.Kind, Data: x.Data})
			no++
		}
	}
	return s, all
}

// oneTime is those events that come at the time of the first one.
func oneTime(l []api.Event) (some []api.Event) {
	for _, e := range l {
		if e.At == l[0].At {
			some = append(some, e)
		}
	}
	return some
}

// TestPlain: P8.1, P8.2 and P8.3: models of all kinds, beside what the chapter's words say, in whatever order events are told.
func TestPlain(t *testing.T) {
	d := draws(1)
	sends := 0
	for range 6000 {
		m, c := d.model(t)
		lp, s := d.below(m.LPs()), d.state()
		l := d.events(lp, c.End)
		then, all := plain(c, lp, s, l)
		for range 3 {
			x := d.shuffled(l)
			if got, e := batch.Replay(m, lp, s, x...); got != then || e != api.OK {
				t.Fatalf("Replay(%+v, %d, %v, %v): %v, %d, not %v", c, lp, s, x, got, int(e), then)
			}
			if got, e := batch.Sends(m, lp, s, x...); !slices.Equal(got, all) || e != api.OK {
				t.Fatalf("Sends(%+v, %d, %v, %v): %v, %d, not %v", c, lp, s, x, got, int(e), all)
			}
		}
		if sends += len(all); len(l) == 0 {
			continue
		}
		l = oneTime(l)
		then, all = plain(c, lp, s, l)
		for range 3 {
			x := d.shuffled(l)
			if got, sent, e := batch.Run(m, lp, s, x...); got != then || !slices.Equal(sent, all) || e != api.OK {
				t.Fatalf("Run(%+v, %d, %v, %v): %v, %v, %d, not %v, %v", c, lp, s, x, got, sent, int(e), then, all)
			}
		}
	}
	if sends < 5000 {
		t.Error("too few messages:", sends)
	}
}

// TestParts: P8.3: events in two parts, the first of which is earlier, come to what both come to.
func TestParts(t *testing.T) {
	d := draws(2)
	for range 2000 {
		m, c := d.model(t)
		lp, s := d.below(m.LPs()), d.state()
		l := d.events(lp, c.End)
		then, _ := batch.Replay(m, lp, s, l...)
		all, _ := batch.Sends(m, lp, s, l...)
		for _, cut := range append(d.events(lp, c.End), l...) {
			var early, late []api.Event
			for _, e := range l {
				if e.At < cut.At {
					early = append(early, e)
				} else {
					late = append(late, e)
				}
			}
			between, _ := batch.Replay(m, lp, s, early...)
			sent, _ := batch.Sends(m, lp, s, early...)
			more, _ := batch.Sends(m, lp, between, late...)
			if got, e := batch.Replay(m, lp, between, late...); got != then || e != api.OK || !slices.Equal(append(sent, more...), all) {
				t.Fatal(c, lp, s, l, cut.At, got, then)
			}
		}
	}
}

// TestMay: P8.3: each message's event may be, goes to a process, and is later than the batch; no two have one ID.
func TestMay(t *testing.T) {
	d := draws(3)
	for range 3000 {
		m, c := d.model(t)
		lp, s := d.below(m.LPs()), d.state()
		l := d.events(lp, c.End)
		all, _ := batch.Sends(m, lp, s, l...)
		there := map[keys.ID]int{}
		for _, e := range all {
			there[keys.Of(e)]++
			if keys.Check(e) != api.OK || e.Dst >= m.LPs() || e.At <= e.Sent || e.At > c.End || there[keys.Of(e)] > 1 {
				t.Fatal(c, lp, s, l, e)
			}
			if !slices.ContainsFunc(l, func(x api.Event) bool { return x.At == e.Sent }) {
				t.Fatal(l, e)
			}
		}
	}
}

// TestManyMay: P8.3: a message's event may be as long as its number is no more than 1023.
func TestManyMay(t *testing.T) {
	m := made(t, "set 5 1\nsend 5 5 5 7\njump 1\n", 2, 1<<30, 1024, 8)
	var l []api.Event
	for no := range 130 {
		l = append(l, event(1<<30-1, 0, 1, no, 0))
	}
	_, sent, _ := batch.Run(m, 0, api.State{}, l...)
	if len(sent) != 130*8 {
		t.Fatal(len(sent))
	}
	for no, e := range sent {
		if e.No != no || (keys.Check(e) == api.OK) != (no <= 1023) {
			t.Fatal(no, e)
		}
	}
}

// TestAgain: R3: what is told is the same each time, be other batches run between.
func TestAgain(t *testing.T) {
	d := draws(4)
	for range 300 {
		m, c := d.model(t)
		lp, s := d.below(m.LPs()), d.state()
		l := d.events(lp, c.End)
		then, _ := batch.Replay(m, lp, s, l...)
		all, _ := batch.Sends(m, lp, s, l...)
		other, x := d.model(t)
		batch.Replay(other, 0, d.state(), d.events(0, x.End)...)
		batch.Sends(m, 0, d.state(), d.events(0, c.End)...)
		again, _ := batch.Replay(m, lp, s, l...)
		sent, _ := batch.Sends(m, lp, s, l...)
		if then != again || !slices.Equal(all, sent) {
			t.Fatal(c, lp, s, l)
		}
	}
}
