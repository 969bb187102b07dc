package model_test

import (
	"math"
	"slices"
	"testing"

	"boomerang/api"
	"boomerang/code"
	"boomerang/model"
)

const least, most = math.MinInt, math.MaxInt

func parsed(t *testing.T, s string) []code.Instr {
	t.Helper()
	p, line, e := code.Parse(s)
	if e != api.OK {
		t.Fatalf("%q: line %d, %v", s, line, e)
	}
	return p
}

// good is a configuration that may be, of three programs, four processes and three starts.
func good(t *testing.T) model.Config {
	t.Helper()
	return model.Config{
		Programs: [][]code.Instr{parsed(t, "stop\n"), parsed(t, "now 0\nsend 1 2 3 9\n"), nil},
		LPs:      []model.Place{{Program: 1, First: api.State{1, 2, 3, 4}}, {Program: 0, First: api.State{least, most}}, {Program: 1}, {Program: 2, First: api.State{0, 0, 0, 7}}},
		Starts:   []model.Start{{Dst: 3, At: 9, Kind: 1, Data: 2}, {Dst: 0, At: 4, Kind: least, Data: most}, {Dst: 1, At: 0, Kind: 5, Data: -6}},
		End:      9,
		Fuel:     100,
		Fan:      8,
	}
}

// checks holds Check and New against what is wrong with a configuration.
func checks(t *testing.T, what string, c model.Config, want api.Errno) {
	t.Helper()
	if e := model.Check(c); e != want {
		t.Errorf("%s: Check: %d, not %d", what, int(e), int(want))
	}
	if m, e := model.New(c); e != want || (m != nil) != (want == api.OK) {
		t.Errorf("%s: New: %v, %d, not %d", what, m, int(e), int(want))
	}
}

func made(t *testing.T, c model.Config) *model.Model {
	t.Helper()
	m, e := model.New(c)
	if e != api.OK || m == nil {
		t.Fatalf("New(%v): %v, %d", c, m, int(e))
	}
	return m
}

// TestCheck: P7.1: of each number of a configuration, the edges of what it may be.
func TestCheck(t *testing.T) {
	checks(t, "good", good(t), api.OK)
	checks(t, "nothing", model.Config{}, api.ErrRange)
	for _, c := range []struct {
		what     string
		from, to int
		put      func(*model.Config, int)
	}{
		{"End", 1, 1 << 30, func(c *model.Config, n int) { c.End, c.Starts = n, nil }},
		{"Fuel", 1, 1024, func(c *model.Config, n int) { c.Fuel = n }},
		{"Fan", 0, 8, func(c *model.Config, n int) { c.Fan = n }},
	} {
		for _, n := range []int{least, -1 << 31, -1, 0, 1, 2, 7, 8, 9, 10, 1023, 1024, 1025, 1<<30 - 1, 1 << 30, 1<<30 + 1, 1 << 32, 1<<32 + 1, most} {
			x, want := good(t), api.OK
			if n < c.from || n > c.to {
				want = api.ErrRange
			}
			c.put(&x, n)
			checks(t, c.what, x, want)
		}
	}
}

// TestMany: P7.1: from 1 to 32 processes, from 1 to 32 programs, no more than 256 starts.
func TestMany(t *testing.T) {
	for _, n := range []int{0, 1, 2, 31, 32, 33, 64, 300} {
		want := api.OK
		if n == 0 || n > 32 {
			want = api.ErrRange
		}
		c := good(t)
		c.LPs, c.Starts = make([]model.Place, n), nil
		checks(t, "LPs", c, want)
		c = good(t)
		c.LPs, c.Programs = make([]model.Place, 4), make([][]code.Instr, n)
		checks(t, "Programs", c, want)
	}
	for _, n := range []int{0, 1, 255, 256, 257, 1000} {
		c, want := good(t), api.OK
		if n > 256 {
			want = api.ErrFull
		}
		c.Starts = make([]model.Start, n)
		checks(t, "Starts", c, want)
	}
}

// TestPrograms: P7.1: code.Check's error of the first program that has one, be it one that no process has.
func TestPrograms(t *testing.T) {
	fine := slices.Repeat([]code.Instr{{Op: code.Now}}, 64)
	long := slices.Repeat([]code.Instr{{Op: code.Now}}, 65)
	none := []code.Instr{{Op: code.Stop}, {Op: 99}, {Op: code.Jump, A: 9}}
	far := []code.Instr{{Op: code.Jump, A: 2}, {Op: 99}}
	for i, c := range []struct {
		l    [][]code.Instr
		want api.Errno
	}{
		{[][]code.Instr{fine}, api.OK},
		{[][]code.Instr{nil, {}, fine}, api.OK},
		{[][]code.Instr{{{Op: code.Jump, A: 1}}}, api.OK},
		{[][]code.Instr{{{Op: code.Jump, A: 2}}}, api.ErrRange},
		{[][]code.Instr{long}, api.ErrFull},
		{[][]code.Instr{fine, none}, api.ErrForm},
		{[][]code.Instr{fine, far[:1], none, long}, api.ErrRange},
		{[][]code.Instr{fine, far, none, long}, api.ErrForm},
		{[][]code.Instr{none, long, far[:1]}, api.ErrForm},
		{[][]code.Instr{nil, long, none, far[:1]}, api.ErrFull},
		{append(make([][]code.Instr, 31), fine), api.OK},
		{append(make([][]code.Instr, 31), long), api.ErrFull},
	} {
		x := good(t)
		x.LPs, x.Starts, x.Programs = make([]model.Place, 1), nil, c.l
		checks(t, "program "+string(rune('a'+i)), x, c.want)
	}
}

// TestNone: P7.1: a Place has a program that there is, and a Start goes to a process that there is.
func TestNone(t *testing.T) {
	for _, n := range []int{least, -4, -1, 0, 1, 2, 3, 4, 5, 32, 1 << 32, most} {
		for i := range 4 {
			c, want := good(t), api.OK
			if n < 0 || n > 2 {
				want = api.ErrNone
			}
			c.LPs[i].Program = n
			checks(t, "Program", c, want)
		}
		for i := range 3 {
			c, want := good(t), api.OK
			if n < 0 || n > 3 {
				want = api.ErrNone
			}
			c.Starts[i].Dst = n
			checks(t, "Dst", c, want)
		}
	}
}

// TestTime: P7.1: a Start comes from 0 to the End.
func TestTime(t *testing.T) {
	for _, end := range []int{1, 2, 9, 1<<30 - 1, 1 << 30} {
		for _, at := range []int{least, -1, 0, 1, 2, 3, 8, 9, 10, 1<<30 - 2, 1<<30 - 1, 1 << 30, 1<<30 + 1, 1 << 32, most} {
			for i := range 3 {
				c, want := good(t), api.OK
				for j := range c.Starts {
					c.Starts[j].At = 0
				}
				if at < 0 || at > end {
					want = api.ErrTime
				}
				c.End, c.Starts[i].At = end, at
				checks(t, "At", c, want)
			}
		}
	}
}

// fault makes a configuration wrong in one way, and leaves the rest of it.
type fault struct {
	what string
	e    api.Errno
	put  func(*model.Config)
}

// faults is one of each, in the order in which the chapter names them.
func faults() []fault {
	return []fault{
		{"too many processes", api.ErrRange, func(c *model.Config) { c.LPs = append(c.LPs, make([]model.Place, 40)...) }},
		{"too many programs", api.ErrRange, func(c *model.Config) { c.Programs = append(c.Programs, make([][]code.Instr, 40)...) }},
		{"no end", api.ErrRange, func(c *model.Config) { c.End = 0 }},
		{"no fuel", api.ErrRange, func(c *model.Config) { c.Fuel = 0 }},
		{"too much fan", api.ErrRange, func(c *model.Config) { c.Fan = 9 }},
		{"too many starts", api.ErrFull, func(c *model.Config) { c.Starts = append(c.Starts, make([]model.Start, 256)...) }},
		{"no op", api.ErrForm, func(c *model.Config) { c.Programs[0] = []code.Instr{{}} }},
		{"no such cell", code.May(code.Instr{Op: code.Now, A: 8}, 1), func(c *model.Config) { c.Programs[2] = []code.Instr{{Op: code.Now, A: 8}} }},
		{"no such program", api.ErrNone, func(c *model.Config) { c.LPs[3].Program = -1 }},
		{"no such process", api.ErrNone, func(c *model.Config) { c.Starts[2].Dst = -1 }},
		{"ahead of time", api.ErrTime, func(c *model.Config) { c.Starts[0].At = -1 }},
		{"behind the end", api.ErrTime, func(c *model.Config) { c.Starts[1].At = 10 }},
	}
}

// TestOrder: P7.1: of any two faults, that one is told that is named first.
func TestOrder(t *testing.T) {
	for i, a := range faults() {
		c := good(t)
		a.put(&c)
		checks(t, a.what, c, a.e)
		for _, b := range faults()[i+1:] {
			c := good(t)
			b.put(&c)
			a.put(&c)
			checks(t, a.what+", "+b.what, c, a.e)
		}
	}
	c := good(t)
	for _, f := range faults() {
		f.put(&c)
	}
	checks(t, "all of them", c, api.ErrRange)
}

// TestModel: P7.2: a model's numbers, and of each process its first state and its program.
func TestModel(t *testing.T) {
	c := good(t)
	m := made(t, c)
	if m.LPs() != 4 || m.End() != 9 || m.Fuel() != 100 || m.Fan() != 8 {
		t.Error(m.LPs(), m.End(), m.Fuel(), m.Fan())
	}
	for lp, p := range good(t).LPs {
		if m.First(lp) != p.First || !slices.Equal(m.Program(lp), c.Programs[p.Program]) {
			t.Error(lp, m.First(lp), m.Program(lp))
		}
	}
	for _, lp := range []int{least, -5, -4, -1, 4, 5, 32, 1 << 32, most} {
		if m.First(lp) != (api.State{}) || len(m.Program(lp)) != 0 {
			t.Error(lp, m.First(lp), m.Program(lp))
		}
	}
	c.End, c.Fuel, c.Fan = 1<<30, 1, 0
	if m := made(t, c); m.End() != 1<<30 || m.Fuel() != 1 || m.Fan() != 0 {
		t.Error(m.End(), m.Fuel(), m.Fan())
	}
}

// TestGreatest: P7.2: a model of as many things as there may be.
func TestGreatest(t *testing.T) {
	c := model.Config{End: 1 << 30, Fuel: 1024, Fan: 8}
	for i := range 32 {
		c.Programs = append(c.Programs, slices.Repeat([]code.Instr{{Op: code.Set, B: i}}, 64))
		c.LPs = append(c.LPs, model.Place{Program: 31 - i, First: api.State{i, -i, 2 * i, 3 * i}})
	}
	for i := range 256 {
		c.Starts = append(c.Starts, model.Start{Dst: i % 32, At: 1<<30 - i/2, Kind: i, Data: -i})
	}
	m := made(t, c)
	if m.LPs() != 32 {
		t.Error(m.LPs())
	}
	for lp := range 32 {
		if m.First(lp) != (api.State{lp, -lp, 2 * lp, 3 * lp}) || !slices.Equal(m.Program(lp), c.Programs[31-lp]) {
			t.Error(lp, m.First(lp), m.Program(lp))
		}
	}
	l := m.Events()
	if len(l) != 256 {
		t.Fatal(len(l))
	}
	for i, e := range l {
		// The last pair comes first; of a pair the first one.
		no := 254 - i/2*2 + i%2
		if e != (api.Event{Key: api.Key{At: 1<<30 - no/2, Src: -1, Sent: -1, No: no}, Dst: no % 32, Kind: no, Data: -no}) {
			t.Error(i, e)
		}
	}
}

// TestEvents: P7.2: the starts as events in order: by the time at which they come, then by their place, to whomever they go.
func TestEvents(t *testing.T) {
	begin := func(at, no, dst, kind, data int) api.Event {
		return api.Event{Key: api.Key{At: at, Src: -1, Sent: -1, No: no}, Dst: dst, Kind: kind, Data: data}
	}
	for _, c := range []struct {
		l    []model.Start
		want []api.Event
	}{
		{nil, nil},
		{[]model.Start{}, nil},
		{[]model.Start{{}}, []api.Event{begin(0, 0, 0, 0, 0)}},
		{good(t).Starts, []api.Event{begin(0, 2, 1, 5, -6), begin(4, 1, 0, least, most), begin(9, 0, 3, 1, 2)}},
		{[]model.Start{{3, 5, 7, 7}, {0, 5, 6, 6}, {2, 4, 9, 9}, {0, 5, 6, 6}, {1, 4, 8, 8}},
			[]api.Event{begin(4, 2, 2, 9, 9), begin(4, 4, 1, 8, 8), begin(5, 0, 3, 7, 7), begin(5, 1, 0, 6, 6), begin(5, 3, 0, 6, 6)}},
	} {
		x := good(t)
		x.Starts = c.l
		if l := made(t, x).Events(); !slices.Equal(l, c.want) {
			t.Errorf("%v: %v, not %v", c.l, l, c.want)
		}
	}
}

// TestExample: P7.2: the chapter's example.
func TestExample(t *testing.T) {
	m := made(t, model.Config{
		Programs: [][]code.Instr{parsed(t, "stop\n")},
		LPs:      []model.Place{{}},
		Starts:   []model.Start{{0, 5, 1, 2}, {0, 3, 0, 0}},
		End:      10,
		Fuel:     1,
		Fan:      1,
	})
	l := m.Events()
	if len(l) != 2 || l[0].Key != (api.Key{At: 3, Src: -1, Sent: -1, No: 1}) || l[1] != (api.Event{Key: api.Key{At: 5, Src: -1, Sent: -1, No: 0}, Kind: 1, Data: 2}) {
		t.Error(l)
	}
}

// TestNil: P7.2: of a nil model 0, zero, nothing.
func TestNil(t *testing.T) {
	var m *model.Model
	if m.LPs() != 0 || m.End() != 0 || m.Fuel() != 0 || m.Fan() != 0 || len(m.Events()) != 0 {
		t.Error("something of nothing")
	}
	for _, lp := range []int{least, -1, 0, 1, most} {
		if m.First(lp) != (api.State{}) || len(m.Program(lp)) != 0 {
			t.Error(lp)
		}
	}
}

// same holds a model against what it is to be.
func same(t *testing.T, m *model.Model, c model.Config) {
	t.Helper()
	if m.LPs() != len(c.LPs) || m.End() != c.End || m.Fuel() != c.Fuel || m.Fan() != c.Fan || len(m.Events()) != len(c.Starts) {
		t.Error(m.LPs(), m.End(), m.Fuel(), m.Fan(), m.Events())
	}
	for lp, p := range c.LPs {
		if m.First(lp) != p.First || !slices.Equal(m.Program(lp), c.Programs[p.Program]) {
			t.Error(lp, m.First(lp), m.Program(lp))
		}
	}
	for _, e := range m.Events() {
		if (model.Start{Dst: e.Dst, At: e.At, Kind: e.Kind, Data: e.Data}) != c.Starts[e.No] {
			t.Error(e)
		}
	}
}

// TestKept: P7.2: a model is as it was made, whatever is done with its configuration then.
func TestKept(t *testing.T) {
	c := good(t)
	m := made(t, c)
	c.Programs[0][0], c.Programs[1][1] = code.Instr{Op: 99}, code.Instr{}
	same(t, m, good(t))
	c.Programs[1], c.Programs[2] = nil, c.Programs[0]
	for i := range c.LPs {
		c.LPs[i] = model.Place{Program: 70}
	}
	for i := range c.Starts {
		c.Starts[i] = model.Start{Dst: 70, At: 80}
	}
	c.End, c.Fuel, c.Fan = 1, 2, 3
	same(t, m, good(t))
}

// TestAnswers: R2: a program and events are the caller's, also where two processes have one program.
func TestAnswers(t *testing.T) {
	m := made(t, good(t))
	a, b, l := m.Program(0), m.Program(2), m.Events()
	a[0] = code.Instr{}
	_ = append(a[:1], code.Instr{Op: 77})
	l[0] = api.Event{}
	_ = append(l[:1], api.Event{Dst: 9})
	if !slices.Equal(b, good(t).Programs[1]) {
		t.Error(b)
	}
	same(t, m, good(t))
}

// TestBehind: R2: what is handed in stays as it is, also behind its length, where nothing counts.
func TestBehind(t *testing.T) {
	whole := func() model.Config {
		c := good(t)
		c.Programs[0] = append(c.Programs[0], code.Instr{Op: 99})
		c.Programs = append(c.Programs, []code.Instr{{Op: 98}})
		c.LPs = append(c.LPs, model.Place{Program: 97})
		c.Starts = append(c.Starts, model.Start{Dst: 96})
		return c
	}
	c := whole()
	short := c
	short.Programs, short.LPs, short.Starts = slices.Clone(c.Programs)[:3], c.LPs[:4], c.Starts[:3]
	short.Programs[0] = c.Programs[0][:1]
	m := made(t, short)
	for lp := range m.LPs() {
		_ = append(m.Program(lp), code.Instr{})
	}
	_ = append(m.Events(), api.Event{})
	same(t, m, good(t))
	if !slices.EqualFunc(c.Programs, whole().Programs, slices.Equal) || !slices.Equal(c.LPs, whole().LPs) || !slices.Equal(c.Starts, whole().Starts) {
		t.Error(c)
	}
}
