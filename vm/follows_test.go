package vm_test

import (
	"math/big"
	"slices"
	"testing"

	"boomerang/api"
	"boomerang/code"
	"boomerang/vm"
)

// draws is a row of numbers that is the same each time.
type draws uint64

func (d *draws) below(m int) int {
	*d = *d*6364136223846793005 + 1442695040888963407
	return int((uint64(*d) >> 33) % uint64(m))
}

// any is a number, often one at an edge.
func (d *draws) any() int {
	edges := []int{least, least + 1, -2, -1, 0, 1, 2, 63, most - 1, most}
	if d.below(2) == 0 {
		return edges[d.below(len(edges))]
	}
	return d.below(9) - 4
}

// cell is a cell, or now and then a number that is none.
func (d *draws) cell() int {
	if d.below(40) == 0 {
		return d.any()
	}
	return d.below(8)
}

func (d *draws) instr(many int) code.Instr {
	a, b, c := d.cell(), d.cell(), d.cell()
	switch op := d.below(17); op {
	case code.Set:
		return code.Instr{Op: op, A: a, B: d.any()}
	case code.Move:
		return code.Instr{Op: op, A: a, B: b}
	case code.Jump:
		return code.Instr{Op: op, A: d.below(many + 1)}
	case code.Zero:
		return code.Instr{Op: op, A: a, B: d.below(many + 1)}
	case code.Now, code.Kind, code.Data, code.Self:
		return code.Instr{Op: op, A: a}
	case code.Send:
		return code.Instr{Op: op, A: a, B: b, C: c, D: d.below(256)}
	case 0, 16, code.Stop:
		if d.below(3) > 0 {
			return code.Instr{Op: code.Move, A: a, B: b}
		}
		return code.Instr{Op: op}
	default:
		return code.Instr{Op: op, A: a, B: b, C: c}
	}
}

func (d *draws) program() []code.Instr {
	many := d.below(12)
	if d.below(10) == 0 {
		many = 60 + d.below(10)
	}
	p := make([]code.Instr, many)
	for i := range p {
		p[i] = d.instr(many)
	}
	return p
}

func (d *draws) state() (s api.State) {
	for i := range s {
		s[i] = d.any()
	}
	return s
}

func (d *draws) event() api.Event {
	return api.Event{Key: api.Key{At: d.any(), Src: d.any(), Sent: d.any(), No: d.any()}, Dst: d.any(), Kind: d.any(), Data: d.any()}
}

// plain is a machine that does what the chapter's table says, with numbers that have no end.
type plain struct {
	p     []code.Instr
	e     api.Event
	fan   int
	cells [8]int
	at    int
	sent  []vm.Emit
}

func start(p []code.Instr, s api.State, e api.Event, fan int) *plain {
	return &plain{p: p[:min(64, len(p))], e: e, fan: fan, cells: [8]int{s[0], s[1], s[2], s[3]}}
}

// cut is a number cut to 64 bits.
func cut(n *big.Int) int {
	return int(new(big.Int).And(n, new(big.Int).SetUint64(1<<64-1)).Uint64())
}

func (m *plain) step() bool {
	if m.at >= len(m.p) || m.p[m.at].Op == code.Stop || code.May(m.p[m.at], len(m.p)) != api.OK {
		return false
	}
	x := m.p[m.at]
	m.at++
	at := func(i int) *big.Int { return big.NewInt(int64(m.cells[i])) }
	switch x.Op {
	case code.Set:
		m.cells[x.A] = x.B
	case code.Move:
		m.cells[x.A] = m.cells[x.B]
	case code.Add:
		m.cells[x.A] = cut(new(big.Int).Add(at(x.B), at(x.C)))
	case code.Sub:
		m.cells[x.A] = cut(new(big.Int).Sub(at(x.B), at(x.C)))
	case code.Mul:
		m.cells[x.A] = cut(new(big.Int).Mul(at(x.B), at(x.C)))
	case code.Mod:
		left := new(big.Int)
		if m.cells[x.C] != 0 {
			left.Rem(at(x.B), at(x.C))
		}
		m.cells[x.A] = cut(left)
	case code.Less:
		m.cells[x.A] = map[bool]int{true: 1}[m.cells[x.B] < m.cells[x.C]]
	case code.Jump:
		m.at = x.A
	case code.Zero:
		if m.cells[x.A] == 0 {
			m.at = x.B
		}
	case code.Now:
		m.cells[x.A] = m.e.At
	case code.Kind:
		m.cells[x.A] = m.e.Kind
	case code.Data:
		m.cells[x.A] = m.e.Data
	case code.Self:
		m.cells[x.A] = m.e.Dst
	case code.Send:
		if m.fan > len(m.sent) {
			m.sent = append(m.sent, vm.Emit{Dst: m.cells[x.A], Delay: m.cells[x.B], Kind: x.D, Data: m.cells[x.C]})
		}
	}
	return true
}

// TestPlain: P6.1 and P6.2: programs of all kinds, step by step beside a plain machine, and at once.
func TestPlain(t *testing.T) {
	d := draws(1)
	for range 4000 {
		p, s, e, fan := d.program(), d.state(), d.event(), d.below(10)-1
		m, w := vm.New(p, s, e, fan), start(p, s, e, fan)
		steps, fuel := 0, d.below(60)
		for steps < fuel {
			did := m.Step()
			if did != w.step() || m.Cells() != w.cells || m.At() != w.at || !slices.Equal(m.Sent(), w.sent) {
				t.Fatal(p, s, e, fan, steps, did, m.Cells(), m.At(), m.Sent())
			}
			if !did {
				break
			}
			steps++
		}
		got, sent, n := vm.Run(p, s, e, fuel, fan)
		if got != api.State(w.cells[:4]) || !slices.Equal(sent, w.sent) || n != steps {
			t.Fatal(p, s, e, fan, fuel, got, sent, n)
		}
	}
}

// TestAlone: P6.3: what is told hangs on the program, the state and the event alone, be other machines at work between.
func TestAlone(t *testing.T) {
	d := draws(2)
	for range 300 {
		p, s, e := d.program(), d.state(), d.event()
		one, first, n := vm.Run(p, s, e, 200, 8)
		m := vm.New(p, s, e, 8)
		steps := 0
		for steps < 200 && m.Step() {
			vm.Run(d.program(), d.state(), d.event(), 20, 8)
			steps++
		}
		cells := m.Cells()
		if two, second, k := vm.Run(p, s, e, 200, 8); one != two || n != k || !slices.Equal(first, second) {
			t.Fatal(p, s, e)
		}
		if steps != n || one != api.State(cells[:4]) || !slices.Equal(first, m.Sent()) {
			t.Fatal(p, s, e)
		}
	}
}

// TestMore: P6.3: nothing that was sent is taken back, and with more fuel what is sent begins with what was sent with less.
func TestMore(t *testing.T) {
	d := draws(3)
	for range 300 {
		p, s, e, fan := d.program(), d.state(), d.event(), d.below(9)
		var before []vm.Emit
		did := 0
		for fuel := range 80 {
			_, sent, n := vm.Run(p, s, e, fuel, fan)
			if len(sent) < len(before) || !slices.Equal(sent[:len(before)], before) || len(sent) > max(fan, 0) || n < did || n > fuel {
				t.Fatal(p, s, e, fan, fuel)
			}
			before, did = sent, n
		}
	}
}
