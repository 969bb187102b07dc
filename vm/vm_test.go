package vm_test

import (
	"math"
	"slices"
	"testing"

	"boomerang/api"
	"boomerang/code"
	"boomerang/vm"
)

const least, most = math.MinInt, math.MaxInt

func parsed(t *testing.T, s string) []code.Instr {
	t.Helper()
	p, line, e := code.Parse(s)
	if e != api.OK {
		t.Fatalf("%q: line %d, %v", s, line, e)
	}
	return p
}

// event is one whose numbers all differ.
func event() api.Event {
	return api.Event{Key: api.Key{At: 11, Src: 12, Sent: 13, No: 14}, Dst: 15, Kind: 16, Data: 17}
}

// TestNew: P6.1: at the beginning the first cells are the state's, the others 0; the place is 0; nothing is sent.
func TestNew(t *testing.T) {
	for _, p := range [][]code.Instr{nil, {}, {{Op: code.Stop}}, {{Op: code.Send}}, make([]code.Instr, 100)} {
		m := vm.New(p, api.State{5, -6, least, most}, event(), 3)
		if m == nil {
			t.Fatal(p)
		}
		if m.Cells() != [8]int{5, -6, least, most} || m.At() != 0 || len(m.Sent()) != 0 {
			t.Error(p, m.Cells(), m.At(), m.Sent())
		}
	}
}

// TestOps: P6.1: each instruction, done from each cell to another one, as the chapter's table tells it.
func TestOps(t *testing.T) {
	first := [8]int{9, -9, least, most, 0, 0, 0, 0}
	for _, c := range []struct {
		x    code.Instr
		cell int
		want int
	}{
		{code.Instr{Op: code.Set, A: 0, B: -5}, 0, -5},
		{code.Instr{Op: code.Set, A: 7, B: most}, 7, most},
		{code.Instr{Op: code.Set, A: 4, B: least}, 4, least},
		{code.Instr{Op: code.Move, A: 7, B: 1}, 7, -9},
		{code.Instr{Op: code.Move, A: 1, B: 7}, 1, 0},
		{code.Instr{Op: code.Move, A: 2, B: 2}, 2, least},
		{code.Instr{Op: code.Add, A: 5, B: 0, C: 0}, 5, 18},
		{code.Instr{Op: code.Add, A: 0, B: 0, C: 1}, 0, 0},
		{code.Instr{Op: code.Add, A: 6, B: 3, C: 0}, 6, least + 8},
		{code.Instr{Op: code.Add, A: 6, B: 2, C: 2}, 6, 0},
		{code.Instr{Op: code.Sub, A: 5, B: 0, C: 1}, 5, 18},
		{code.Instr{Op: code.Sub, A: 5, B: 1, C: 0}, 5, -18},
		{code.Instr{Op: code.Sub, A: 5, B: 2, C: 0}, 5, most - 8},
		{code.Instr{Op: code.Sub, A: 5, B: 4, C: 2}, 5, least},
		{code.Instr{Op: code.Sub, A: 2, B: 1, C: 2}, 2, most - 8},
		{code.Instr{Op: code.Mul, A: 5, B: 0, C: 1}, 5, -81},
		{code.Instr{Op: code.Mul, A: 5, B: 3, C: 3}, 5, 1},
		{code.Instr{Op: code.Mul, A: 5, B: 2, C: 0}, 5, least},
		{code.Instr{Op: code.Mul, A: 0, B: 0, C: 4}, 0, 0},
		{code.Instr{Op: code.Less, A: 5, B: 1, C: 0}, 5, 1},
		{code.Instr{Op: code.Less, A: 0, B: 0, C: 1}, 0, 0},
		{code.Instr{Op: code.Less, A: 0, B: 0, C: 0}, 0, 0},
		{code.Instr{Op: code.Less, A: 5, B: 2, C: 3}, 5, 1},
		{code.Instr{Op: code.Less, A: 3, B: 3, C: 2}, 3, 0},
		{code.Instr{Op: code.Now, A: 5}, 5, 11},
		{code.Instr{Op: code.Kind, A: 0}, 0, 16},
		{code.Instr{Op: code.Data, A: 7}, 7, 17},
		{code.Instr{Op: code.Self, A: 3}, 3, 15},
	} {
		m := vm.New([]code.Instr{c.x}, api.State(first[:4]), event(), 3)
		want := first
		want[c.cell] = c.want
		if !m.Step() || m.Cells() != want || m.At() != 1 || len(m.Sent()) != 0 {
			t.Error(c.x, m.Cells(), m.At(), m.Sent())
		}
		if m.Step() || m.Cells() != want || m.At() != 1 {
			t.Error(c.x, "goes on", m.Cells(), m.At())
		}
	}
}

// TestMod: P6.1: what is left has the sign of what is divided; by 0 it is 0.
func TestMod(t *testing.T) {
	for _, c := range [][3]int{{7, 3, 1}, {-7, 3, -1}, {7, -3, 1}, {-7, -3, -1}, {6, 3, 0}, {2, 3, 2}, {-2, 3, -2}, {7, 0, 0}, {0, 0, 0}, {least, 0, 0}, {least, -1, 0}, {least, most, -1}, {most, least, most}, {least, least, 0}} {
		s, _, n := vm.Run([]code.Instr{{Op: code.Mod, A: 2, B: 0, C: 1}}, api.State{c[0], c[1], 99}, event(), 5, 5)
		if s != (api.State{c[0], c[1], c[2]}) || n != 1 {
			t.Error(c, s, n)
		}
	}
}

// TestPlaces: P6.1: Jump goes, Zero goes if the cell is 0, both ahead and back, and to where the program ends.
func TestPlaces(t *testing.T) {
	for _, c := range []struct {
		p   string
		ats []int
	}{
		{"jump 2\nstop\njump 4\nstop\n", []int{2, 4}},
		{"jump 2\nstop\njump 1\n", []int{2, 1}},
		{"zero 0 2\nset 1 1\nstop\n", []int{1, 2}},
		{"zero 1 2\nset 1 1\nstop\n", []int{2}},
		{"zero 7 1\nzero 2 0\nzero 4 3\n", []int{1, 2, 3}},
		{"jump 1\n", []int{1}},
		{"zero 4 1\n", []int{1}},
		{"set 4 1\nzero 4 0\nmove 4 5\nzero 4 5\nstop\nstop\n", []int{1, 2, 3, 5}},
		{"", nil},
		{"stop\n", nil},
	} {
		m := vm.New(parsed(t, c.p), api.State{3, 0, -1, 5}, event(), 3)
		for i, at := range c.ats {
			if !m.Step() || m.At() != at {
				t.Errorf("%q step %d: %d", c.p, i, m.At())
			}
		}
		at := m.At()
		if m.Step() || m.Step() || m.At() != at {
			t.Errorf("%q goes on to %d", c.p, m.At())
		}
	}
}

// TestLoop: P6.1: a program that jumps to itself is never over.
func TestLoop(t *testing.T) {
	m := vm.New([]code.Instr{{Op: code.Jump, A: 0}}, api.State{}, event(), 3)
	for i := range 3000 {
		if !m.Step() || m.At() != 0 {
			t.Fatal(i)
		}
	}
}

// TestMayNot: P6.1: an instruction that may not be ends a machine when it comes to it, and is not done.
func TestMayNot(t *testing.T) {
	set := code.Instr{Op: code.Set, A: 1, B: 8}
	for _, x := range []code.Instr{{}, {Op: 16}, {Op: -1}, {Op: most}, {Op: least}, {Op: code.Set, A: 8}, {Op: code.Set, A: -1}, {Op: code.Set, A: 0, B: 1, C: 1}, {Op: code.Move, B: 8}, {Op: code.Add, C: most}, {Op: code.Jump, A: 4}, {Op: code.Jump, A: -1}, {Op: code.Zero, A: 0, B: 4}, {Op: code.Zero, A: 8, B: 0}, {Op: code.Now, A: 8}, {Op: code.Send, D: 256}, {Op: code.Send, D: -1}, {Op: code.Send, A: 8}, {Op: code.Stop, D: 1}} {
		m := vm.New([]code.Instr{set, x, set}, api.State{1, 2, 3, 4}, event(), 3)
		if !m.Step() || m.Step() || m.At() != 1 || m.Cells() != [8]int{1, 8, 3, 4} || len(m.Sent()) != 0 {
			t.Error(x, m.At(), m.Cells(), m.Sent())
		}
	}
	// One that it does not come to does not count.
	s, _, n := vm.Run([]code.Instr{{Op: code.Jump, A: 2}, {}, set}, api.State{}, event(), 9, 9)
	if s != (api.State{0, 8}) || n != 2 {
		t.Error(s, n)
	}
}

// TestSend: P6.1: Emits are of the cells that the instruction names, and its kind, in order; no more than fan tells, and what is not sent is a step as well.
func TestSend(t *testing.T) {
	p := parsed(t, "send 0 1 2 9\nsend 3 3 0 255\nset 0 77\nsend 0 0 0 0\nset 0 78\n")
	all := []vm.Emit{{Dst: 1, Delay: -2, Kind: 9, Data: 3}, {Dst: most, Delay: most, Kind: 255, Data: 1}, {Dst: 77, Delay: 77, Kind: 0, Data: 77}}
	for fan, many := range map[int]int{least: 0, -1: 0, 0: 0, 1: 1, 2: 2, 3: 3, 4: 3, 8: 3, most: 3} {
		m := vm.New(p, api.State{1, -2, 3, most}, event(), fan)
		for i, sent := range []int{1, 2, 2, 3, 3} {
			if !m.Step() || m.At() != i+1 || !slices.Equal(m.Sent(), all[:min(sent, many)]) {
				t.Error(fan, i, m.At(), m.Sent())
			}
		}
		if m.Step() || m.Cells() != [8]int{78, -2, 3, most} {
			t.Error(fan, m.Cells())
		}
		s, sent, n := vm.Run(p, api.State{1, -2, 3, most}, event(), 5, fan)
		if s != (api.State{78, -2, 3, most}) || !slices.Equal(sent, all[:many]) || n != 5 {
			t.Error(fan, s, sent, n)
		}
	}
}

// TestManySent: P6.1 and P6.2: fan alone tells how many are sent, be it more than 8.
func TestManySent(t *testing.T) {
	p := parsed(t, "send 0 0 0 1\njump 0\n")
	for _, fan := range []int{8, 9, 500, 512, 513, most} {
		_, sent, n := vm.Run(p, api.State{}, event(), most, fan)
		if len(sent) != min(fan, 512) || n != 1024 {
			t.Error(fan, len(sent), n)
		}
	}
}

// TestLong: P6.1: a program of more than 64 is taken as its first 64, and its places are those of 64.
func TestLong(t *testing.T) {
	for _, many := range []int{63, 64, 65, 66, 200} {
		p := slices.Repeat([]code.Instr{{Op: code.Now, A: 0}}, many)
		_, _, n := vm.Run(p, api.State{}, event(), 1024, 8)
		if n != min(many, 64) {
			t.Error(many, n)
		}
		p[0] = code.Instr{Op: code.Jump, A: many}
		m := vm.New(p, api.State{}, event(), 8)
		if stepped := m.Step(); stepped != (many <= 64) || stepped && m.At() != many {
			t.Error(many, stepped, m.At())
		}
		p[0] = code.Instr{Op: code.Jump, A: 64}
		m = vm.New(p, api.State{}, event(), 8)
		if stepped := m.Step(); stepped != (many >= 64) || stepped && (m.At() != 64 || m.Step()) {
			t.Error(many, stepped, m.At())
		}
	}
}

// TestRun: P6.2: the chapter's example.
func TestRun(t *testing.T) {
	p := parsed(t, "data 4\nadd 0 0 4\nset 5 1\nsend 6 5 0 7\n")
	s, sent, n := vm.Run(p, api.State{3}, api.Event{Data: 5}, 1024, 8)
	if s != (api.State{8}) || !slices.Equal(sent, []vm.Emit{{Dst: 0, Delay: 1, Kind: 7, Data: 8}}) || n != 4 {
		t.Error(s, sent, n)
	}
}

// TestFuel: P6.2: no more steps than fuel tells, and than 1024; none of a fuel below 0.
func TestFuel(t *testing.T) {
	one := code.Instr{Op: code.Set, A: 4, B: 1}
	count := []code.Instr{one, {Op: code.Add, A: 0, B: 0, C: 4}, {Op: code.Jump, A: 1}}
	for fuel, steps := range map[int]int{least: 0, -1: 0, 0: 0, 1: 1, 2: 2, 3: 3, 1023: 1023, 1024: 1024, 1025: 1024, most: 1024} {
		s, sent, n := vm.Run(count, api.State{0, 1, 2, 3}, event(), fuel, 8)
		if n != steps || s != (api.State{steps / 2, 1, 2, 3}) || len(sent) != 0 {
			t.Error(fuel, s, n)
		}
	}
	for fuel, steps := range map[int]int{1: 1, 2: 2, 3: 2, 100: 2} {
		if _, _, n := vm.Run([]code.Instr{one, one, {Op: code.Stop}, one}, api.State{}, event(), fuel, 8); n != steps {
			t.Error(fuel, n)
		}
	}
}

// TestNil: P6.1: of a nil machine false, zero, nothing.
func TestNil(t *testing.T) {
	var m *vm.Machine
	if m.Step() || m.Cells() != [8]int{} || m.At() != 0 || len(m.Sent()) != 0 {
		t.Error("something of nothing")
	}
}

// TestMemory: R2: the program is neither written nor kept, and what was sent is the caller's.
func TestMemory(t *testing.T) {
	p := parsed(t, "send 0 0 0 1\nsend 1 1 1 2\n")
	was := slices.Clone(p)
	m := vm.New(p, api.State{5, 6}, event(), 8)
	m.Step()
	p[1] = code.Instr{}
	first := m.Sent()
	first[0] = vm.Emit{}
	_ = append(first, vm.Emit{Kind: 99})
	cells := m.Cells()
	cells[1] = 70
	if !m.Step() || m.At() != 2 || !slices.Equal(m.Sent(), []vm.Emit{{5, 5, 1, 5}, {6, 6, 2, 6}}) || first[0] != (vm.Emit{}) {
		t.Error(m.At(), m.Sent())
	}
	vm.Run(was, api.State{5, 6}, event(), 9, 9)
	if !slices.Equal(was, parsed(t, "send 0 0 0 1\nsend 1 1 1 2\n")) {
		t.Error(was)
	}
	// Each machine has its own memory.
	a, b := vm.New(was, api.State{1}, event(), 8), vm.New(was, api.State{2}, event(), 8)
	a.Step()
	if b.At() != 0 || len(b.Sent()) != 0 || !b.Step() || b.Sent()[0].Dst != 2 || a.Sent()[0].Dst != 1 {
		t.Error(a.Sent(), b.Sent())
	}
}
