package batch_test

import (
	"math"
	"slices"
	"testing"

	"boomerang/api"
	"boomerang/batch"
	"boomerang/code"
	"boomerang/model"
)

const least, most = math.MinInt, math.MaxInt

// made is a model of so many processes, all of which have one program.
func made(t *testing.T, program string, lps, end, fuel, fan int) *model.Model {
	t.Helper()
	p, line, e := code.Parse(program)
	if e != api.OK {
		t.Fatalf("%q: line %d, %v", program, line, e)
	}
	m, e := model.New(model.Config{Programs: [][]code.Instr{p}, LPs: make([]model.Place, lps), End: end, Fuel: fuel, Fan: fan})
	if e != api.OK {
		t.Fatal(int(e))
	}
	return m
}

// event is one to the process 0, whose key is told.
func event(at, src, sent, no, data int) api.Event {
	return api.Event{Key: api.Key{At: at, Src: src, Sent: sent, No: no}, Data: data}
}

// to is an event that goes to a process.
func to(lp int, e api.Event) api.Event {
	e.Dst = lp
	return e
}

// orders calls f with events in each of their orders.
func orders(l []api.Event, f func(l []api.Event)) {
	l = slices.Clone(l)
	var from func(i int)
	from = func(i int) {
		if i >= len(l) {
			f(slices.Clone(l))
			return
		}
		for j := i; j < len(l); j++ {
			l[i], l[j] = l[j], l[i]
			from(i + 1)
			l[i], l[j] = l[j], l[i]
		}
	}
	from(0)
}

// count adds what it is told to ten times the first number, and sends the number to the process 1, 2 later; the others it leaves.
const count = "set 4 10\nmul 0 0 4\ndata 4\nadd 0 0 4\nset 5 1\nset 6 2\nsend 5 6 0 3\n"

// wrong holds Wrong and Run against what is wrong with events, in whatever order these are told.
func wrong(t *testing.T, what string, m *model.Model, lp int, want api.Errno, l ...api.Event) {
	t.Helper()
	orders(l, func(l []api.Event) {
		if e := batch.Wrong(m, lp, l...); e != want {
			t.Errorf("%s: Wrong(%d, %v): %d, not %d", what, lp, l, int(e), int(want))
		}
		s, sent, e := batch.Run(m, lp, api.State{5, 6, 7, 8}, l...)
		if e != want {
			t.Errorf("%s: Run(%d, %v): %d, not %d", what, lp, l, int(e), int(want))
		}
		if e != api.OK && (s != api.State{} || len(sent) != 0) {
			t.Errorf("%s: Run(%d, %v): %v, %v", what, lp, l, s, sent)
		}
	})
}

// amiss holds Replay and Sends against what is wrong with events, in whatever order these are told.
func amiss(t *testing.T, what string, m *model.Model, lp int, want api.Errno, l ...api.Event) {
	t.Helper()
	orders(l, func(l []api.Event) {
		s, e := batch.Replay(m, lp, api.State{5, 6, 7, 8}, l...)
		if e != want || e != api.OK && s != (api.State{}) {
			t.Errorf("%s: Replay(%d, %v): %v, %d, not %d", what, lp, l, s, int(e), int(want))
		}
		sent, e := batch.Sends(m, lp, api.State{5, 6, 7, 8}, l...)
		if e != want || e != api.OK && len(sent) != 0 {
			t.Errorf("%s: Sends(%d, %v): %v, %d, not %d", what, lp, l, sent, int(e), int(want))
		}
	})
}

// TestProcess: P8.1 and P8.2: a process that there is, to which all events go.
func TestProcess(t *testing.T) {
	for _, lps := range []int{1, 2, 31, 32} {
		m := made(t, count, lps, 100, 100, 8)
		for _, lp := range []int{least, -1 << 32, -2, -1, 0, 1, 2, 30, 31, 32, 33, 1 << 32, most} {
			want := api.OK
			if lp < 0 || lp >= lps {
				want = api.ErrRange
			}
			a, b := to(lp, event(5, 0, 1, 0, 1)), to(lp, event(5, 0, 1, 1, 1))
			wrong(t, "process", m, lp, want, a)
			wrong(t, "process", m, lp, want, a, b)
			amiss(t, "process", m, lp, want)
			amiss(t, "process", m, lp, want, a, b)
			if want != api.OK {
				wrong(t, "no process", m, lp, want)
				continue
			}
			for _, other := range []int{least, lp - 1, lp + 1, most} {
				wrong(t, "another one's", m, lp, api.ErrRange, to(other, a))
				wrong(t, "another one's", m, lp, api.ErrRange, a, to(other, b))
				amiss(t, "another one's", m, lp, api.ErrRange, to(other, a))
				amiss(t, "another one's", m, lp, api.ErrRange, a, to(other, b))
			}
		}
	}
}

// TestNone: P8.1: a batch has one event at least; P8.2: of none the state stays, and nothing is sent.
func TestNone(t *testing.T) {
	m := made(t, count, 2, 100, 100, 8)
	wrong(t, "nothing", m, 0, api.ErrNone)
	wrong(t, "nothing", m, 1, api.ErrNone, []api.Event{}...)
	for _, l := range [][]api.Event{nil, {}} {
		if s, e := batch.Replay(m, 1, api.State{1, least, most, 4}, l...); s != (api.State{1, least, most, 4}) || e != api.OK {
			t.Error(s, int(e))
		}
		if sent, e := batch.Sends(m, 1, api.State{1, 2, 3, 4}, l...); len(sent) != 0 || e != api.OK {
			t.Error(sent, int(e))
		}
	}
}

// TestTime: P8.1: all events of a batch have one At, whatever it is; P8.2: those of others need not.
func TestTime(t *testing.T) {
	m := made(t, count, 2, 100, 100, 8)
	for _, at := range []int{least, -1, 0, 1, 5, 99, 100, 101, 1 << 30, 1<<30 + 1, most} {
		a, b, c := event(at, 0, 1, 0, 1), event(at, 0, 1, 1, 1), event(at, 1, 1, 0, 1)
		wrong(t, "one time", m, 0, api.OK, a)
		wrong(t, "one time", m, 0, api.OK, a, b, c)
		for _, other := range []int{at - 1, at + 1, 50} {
			x := event(other, 0, 1, 2, 1)
			wrong(t, "two times", m, 0, api.ErrTime, a, x)
			wrong(t, "two times", m, 0, api.ErrTime, a, b, x)
			amiss(t, "two times", m, 0, api.OK, a, b, x)
		}
	}
}

// TestThere: P8.1 and P8.2: no two events have one key, be all else of them unlike.
func TestThere(t *testing.T) {
	m := made(t, count, 2, 100, 100, 8)
	a := event(5, 3, 1, 4, 1)
	for _, b := range []api.Event{event(5, 2, 1, 4, 1), event(5, 4, 1, 4, 1), event(5, 3, 0, 4, 1), event(5, 3, 2, 4, 1), event(5, 3, 1, 3, 1), event(5, 3, 1, 5, 1)} {
		wrong(t, "two keys", m, 0, api.OK, a, b)
		amiss(t, "two keys", m, 0, api.OK, a, b)
		for _, c := range []api.Event{a, {Key: a.Key, Data: 9}, {Key: a.Key, Kind: 9}} {
			wrong(t, "one key", m, 0, api.ErrThere, a, c)
			wrong(t, "one key", m, 0, api.ErrThere, a, b, c)
			amiss(t, "one key", m, 0, api.ErrThere, a, c)
			amiss(t, "one key", m, 0, api.ErrThere, a, b, c)
			amiss(t, "one key", m, 0, api.ErrThere, event(4, 3, 1, 4, 1), a, event(6, 3, 1, 4, 1), c)
		}
	}
	// Events of one ID that come at two times have two keys.
	amiss(t, "one ID", m, 0, api.OK, a, event(6, 3, 1, 4, 1))
}

// TestOrder: P8.1 and P8.2: of several errors that one is told that is named first.
func TestOrder(t *testing.T) {
	m := made(t, count, 2, 100, 100, 8)
	a, b := event(5, 0, 1, 0, 1), event(6, 0, 1, 0, 1)
	for _, lp := range []int{least, -1, 0, 1, 2, most} {
		for _, l := range [][]api.Event{nil, {a}, {a, b}, {a, a}, {a, a, b}, {to(1, a), a}} {
			wrong(t, "no model", nil, lp, api.ErrNil, l...)
			amiss(t, "no model", nil, lp, api.ErrNil, l...)
		}
	}
	wrong(t, "no process, no event", m, 2, api.ErrRange)
	wrong(t, "no process, two times, one key", m, -1, api.ErrRange, to(-1, a), to(-1, a), to(-1, b))
	wrong(t, "another one's, two times", m, 0, api.ErrRange, a, to(1, b))
	wrong(t, "another one's, one key", m, 0, api.ErrRange, a, to(1, a))
	wrong(t, "another one's, one key", m, 0, api.ErrRange, a, a, to(1, a))
	wrong(t, "two times, one key", m, 0, api.ErrTime, a, a, b)
	amiss(t, "no process, one key", m, 2, api.ErrRange, to(2, a), to(2, a))
	amiss(t, "another one's, one key", m, 0, api.ErrRange, a, a, to(1, b))
	amiss(t, "another one's, one key", m, 0, api.ErrRange, a, to(1, a))
}

// runs holds Run against what is to come of events, in whatever order these are told, and Replay and Sends, since one batch is the batches of its time.
func runs(t *testing.T, m *model.Model, lp int, s api.State, l []api.Event, want api.State, sent ...api.Event) {
	t.Helper()
	orders(l, func(l []api.Event) {
		if got, out, e := batch.Run(m, lp, s, l...); got != want || !slices.Equal(out, sent) || e != api.OK {
			t.Errorf("Run(%d, %v, %v): %v, %v, %d, not %v, %v", lp, s, l, got, out, int(e), want, sent)
		}
		if got, e := batch.Replay(m, lp, s, l...); got != want || e != api.OK {
			t.Errorf("Replay(%d, %v, %v): %v, %d, not %v", lp, s, l, got, int(e), want)
		}
		if out, e := batch.Sends(m, lp, s, l...); !slices.Equal(out, sent) || e != api.OK {
			t.Errorf("Sends(%d, %v, %v): %v, %d, not %v", lp, s, l, out, int(e), sent)
		}
	})
}

// message is an event that was sent.
func message(at, src, sent, no, dst, kind, data int) api.Event {
	return api.Event{Key: api.Key{At: at, Src: src, Sent: sent, No: no}, Dst: dst, Kind: kind, Data: data}
}

// TestExample: P8.1: the chapter's example.
func TestExample(t *testing.T) {
	m := made(t, "data 4\nset 5 1\nset 6 2\nsend 5 6 4 0\n", 2, 100, 100, 8)
	runs(t, m, 0, api.State{}, []api.Event{event(5, 1, 3, 0, 9)}, api.State{}, message(7, 0, 5, 0, 1, 0, 9))
}

// TestRun: P8.1: events are run in order, each from the state behind the one ahead of it, and are numbered together.
func TestRun(t *testing.T) {
	m := made(t, count, 3, 100, 100, 8)
	l := []api.Event{event(5, -1, -1, 0, 1), event(5, 0, 2, 9, 2), event(5, 0, 3, 0, 3), event(5, 0, 3, 1, 4), event(5, 2, 0, 0, 5)}
	runs(t, m, 0, api.State{7, 8, 9, 10}, l, api.State{712345, 8, 9, 10},
		message(7, 0, 5, 0, 1, 3, 71), message(7, 0, 5, 1, 1, 3, 712), message(7, 0, 5, 2, 1, 3, 7123), message(7, 0, 5, 3, 1, 3, 71234), message(7, 0, 5, 4, 1, 3, 712345))
	runs(t, m, 2, api.State{}, []api.Event{to(2, l[4]), to(2, l[0])}, api.State{15}, message(7, 2, 5, 0, 1, 3, 1), message(7, 2, 5, 1, 1, 3, 15))
}

// TestPrograms: P8.1: it is the process's own program that is run, and not the first state that it begins with.
func TestPrograms(t *testing.T) {
	c := model.Config{
		Programs: [][]code.Instr{{{Op: code.Set, A: 1, B: 10}}, {{Op: code.Set, A: 1, B: 11}}, nil},
		LPs:      []model.Place{{Program: 1, First: api.State{99, 99, 99, 99}}, {Program: 2}, {Program: 0}},
		End:      9, Fuel: 9, Fan: 8,
	}
	m, e := model.New(c)
	if e != api.OK {
		t.Fatal(int(e))
	}
	for lp, want := range []int{11, 2, 10} {
		runs(t, m, lp, api.State{1, 2, 3, 4}, []api.Event{to(lp, event(5, 0, 1, 0, 1))}, api.State{1, want, 3, 4})
	}
}

// TestTold: P8.1: a handler is told the event as it is.
func TestTold(t *testing.T) {
	m := made(t, "now 0\nkind 1\ndata 2\nself 3\n", 3, 100, 100, 8)
	for _, n := range []int{least, -1, 0, 7, 255, 256, most} {
		e := message(n, 40, n, n, 2, n, n)
		runs(t, m, 2, api.State{}, []api.Event{e}, api.State{n, n, n, 2})
	}
}

// TestFuel: P8.1: each event has the model's fuel; a handler that has none any more has come to its end.
func TestFuel(t *testing.T) {
	l := []api.Event{event(5, 0, 1, 0, 1), event(5, 0, 1, 1, 1)}
	for _, fuel := range []int{1, 2, 3, 4, 5, 6, 1023, 1024} {
		steps := make([]int, 2)
		for i := range steps {
			// The first step makes the cell 4, each second one behind it adds.
			steps[i] = (i + 1) * (fuel / 2)
		}
		m := made(t, "set 4 1\nadd 0 0 4\njump 1\n", 1, 100, fuel, 8)
		runs(t, m, 0, api.State{}, l[:1], api.State{steps[0]})
		runs(t, m, 0, api.State{}, l, api.State{steps[1]})
	}
	// What was sent by then is sent.
	m := made(t, "set 5 1\nsend 5 5 5 7\njump 1\n", 2, 100, 5, 8)
	runs(t, m, 0, api.State{}, l[:1], api.State{}, message(6, 0, 5, 0, 1, 7, 1), message(6, 0, 5, 1, 1, 7, 1))
}

// TestFan: P8.1: each event has the model's fan; what is left away is of it all the same.
func TestFan(t *testing.T) {
	l := []api.Event{event(5, 0, 1, 0, 1), event(5, 0, 1, 1, 1)}
	for _, fan := range []int{0, 1, 2, 7, 8} {
		m := made(t, "set 5 1\nsend 5 5 5 7\njump 1\n", 2, 100, 1024, fan)
		var want []api.Event
		for no := range 2 * fan {
			want = append(want, message(6, 0, 5, no, 1, 7, 1))
		}
		runs(t, m, 0, api.State{}, l[:1], api.State{}, want[:fan]...)
		runs(t, m, 0, api.State{}, l, api.State{}, want...)
	}
	m := made(t, "set 5 1\nsend 5 4 4 7\nsend 5 5 5 8\nsend 5 5 5 9\n", 2, 100, 1024, 2)
	runs(t, m, 0, api.State{}, l[:1], api.State{}, message(6, 0, 5, 0, 1, 8, 1))
}

// TestMessage: P8.1: what is a message, by its Dst, its Delay, the time and the End.
func TestMessage(t *testing.T) {
	// The state tells the Dst and the Delay; what is sent first, and last, is a message just if the time lets it be.
	const program = "set 5 1\nsend 4 5 2 1\nsend 0 1 2 2\nsend 5 5 3 3\n"
	for _, lps := range []int{2, 32} {
		for _, end := range []int{1, 2, 9, 10, 11, 1<<30 - 1, 1 << 30} {
			m := made(t, program, lps, end, 100, 8)
			for _, at := range []int{least, least + 1, -1 << 30, -1, 0, 1, 8, 9, 10, 1<<30 - 2, 1<<30 - 1, 1 << 30, most - 1<<30, most - 1<<30 + 1, most - 1, most} {
				for _, dst := range []int{least, -1, 0, 1, lps - 1, lps, most} {
					for _, delay := range []int{least, -1 << 30, -1, 0, 1, 2, 3, 1<<30 - 1, 1 << 30, 1<<30 + 1, 1<<32 + 1, most - 1, most} {
						var want []api.Event
						send := func(dst, delay, kind, data int) {
							if dst >= 0 && dst < lps && delay >= 1 && delay <= 1<<30 && at <= end-delay {
								want = append(want, message(at+delay, 1, at, len(want), dst, kind, data))
							}
						}
						send(0, 1, 1, -6)
						send(dst, delay, 2, -6)
						send(1, 1, 3, most)
						s := api.State{dst, delay, -6, most}
						runs(t, m, 1, s, []api.Event{to(1, event(at, 0, -1, 0, 1))}, s, want...)
					}
				}
			}
		}
	}
}

// TestEnd: P8.1: a message may come at the End, and none behind it.
func TestEnd(t *testing.T) {
	const program = "set 5 1\nset 6 2\nset 7 1073741824\nsend 5 5 5 1\nsend 5 6 5 2\nsend 5 7 5 3\n"
	for _, c := range []struct {
		end, at int
		delays  []int
	}{
		{9, 6, []int{1, 2}}, {9, 7, []int{1, 2}}, {9, 8, []int{1}}, {9, 9, nil}, {9, 10, nil},
		{1 << 30, 0, []int{1, 2, 1 << 30}}, {1 << 30, 1, []int{1, 2}}, {1<<30 - 1, 0, []int{1, 2}},
		{1 << 30, 1<<30 - 1, []int{1}}, {1 << 30, 1 << 30, nil}, {1 << 30, most, nil},
	} {
		m := made(t, program, 2, c.end, 100, 8)
		var want []api.Event
		for no, delay := range c.delays {
			want = append(want, message(c.at+delay, 0, c.at, no, 1, no+1, 1))
		}
		runs(t, m, 0, api.State{}, []api.Event{event(c.at, -1, -1, 0, 1)}, api.State{}, want...)
	}
}

// TestAway: P8.1: what is left away has no number, be it of an event ahead.
func TestAway(t *testing.T) {
	// An event's data is the Dst of what it sends ahead of a message.
	m := made(t, "data 4\nset 5 1\nsend 4 5 4 1\nsend 5 5 4 2\n", 3, 100, 100, 8)
	l := []api.Event{event(5, 0, 1, 0, 3), event(5, 0, 1, 1, 2), event(5, 0, 1, 2, -1), event(5, 0, 1, 3, 0)}
	runs(t, m, 0, api.State{}, l, api.State{}, message(6, 0, 5, 0, 1, 2, 3), message(6, 0, 5, 1, 2, 1, 2), message(6, 0, 5, 2, 1, 2, 2), message(6, 0, 5, 3, 1, 2, -1), message(6, 0, 5, 4, 0, 1, 0), message(6, 0, 5, 5, 1, 2, 0))
}

// TestBatches: P8.2: events of several times are batches, by rising times, each with numbers of its own.
func TestBatches(t *testing.T) {
	m := made(t, count, 2, 100, 100, 8)
	l := []api.Event{event(0, -1, -1, 3, 1), event(3, -1, -1, 2, 2), event(3, 1, 0, 0, 3), event(8, -1, -1, 0, 4), event(99, 0, 4, 0, 5)}
	want := []api.Event{message(2, 0, 0, 0, 1, 3, 91), message(5, 0, 3, 0, 1, 3, 912), message(5, 0, 3, 1, 1, 3, 9123), message(10, 0, 8, 0, 1, 3, 91234)}
	orders(l, func(l []api.Event) {
		if s, e := batch.Replay(m, 0, api.State{9, 8, 7, 6}, l...); s != (api.State{912345, 8, 7, 6}) || e != api.OK {
			t.Error(l, s, int(e))
		}
		if sent, e := batch.Sends(m, 0, api.State{9, 8, 7, 6}, l...); !slices.Equal(sent, want) || e != api.OK {
			t.Error(l, sent, int(e))
		}
	})
}

// TestMany: P8.1 and P8.2: many events of one time, of which the numbers go on above 1023.
func TestMany(t *testing.T) {
	m := made(t, count, 2, 100, 100, 8)
	var l []api.Event
	for no := range 5000 {
		l = append(l, event(5, no%32, 1, no/32, 1))
	}
	_, sent, e := batch.Run(m, 0, api.State{}, l...)
	if e != api.OK || len(sent) != 5000 {
		t.Fatal(len(sent), int(e))
	}
	for no, x := range sent {
		if x.Key != (api.Key{At: 7, Src: 0, Sent: 5, No: no}) {
			t.Fatal(no, x)
		}
	}
	// Two that have one key are found, wherever they stand.
	l = append(l, event(5, 17, 1, 70, 9))
	if e := batch.Wrong(m, 0, l...); e != api.ErrThere {
		t.Error(int(e))
	}
	if _, e := batch.Replay(m, 0, api.State{}, l...); e != api.ErrThere {
		t.Error(int(e))
	}
}

// TestMemory: R2: what is handed in stays as it is, also behind its length, and what is sent is the caller's.
func TestMemory(t *testing.T) {
	m := made(t, count, 2, 100, 100, 8)
	l := []api.Event{event(9, 0, 1, 1, 4), event(9, 0, 1, 0, 3), event(5, 0, 1, 1, 2), event(5, 0, 1, 0, 1), event(0, 0, 0, 0, 0)}
	was := slices.Clone(l)
	batch.Wrong(m, 0, l[:2]...)
	_, first, _ := batch.Run(m, 0, api.State{}, l[:2]...)
	batch.Replay(m, 0, api.State{}, l[:4]...)
	sent, _ := batch.Sends(m, 0, api.State{}, l[:4]...)
	if !slices.Equal(l, was) || len(first) != 2 || len(sent) != 4 {
		t.Fatal(l, first, sent)
	}
	for _, out := range [][]api.Event{first, sent} {
		for i := range out {
			out[i] = event(77, 77, 77, 77, 77)
		}
		_ = append(out, out...)
	}
	if !slices.Equal(l, was) {
		t.Error(l)
	}
	runs(t, m, 0, api.State{}, l[:2], api.State{34}, message(11, 0, 9, 0, 1, 3, 3), message(11, 0, 9, 1, 1, 3, 34))
}
