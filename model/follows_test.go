package model_test

import (
	"slices"
	"testing"

	"boomerang/api"
	"boomerang/code"
	"boomerang/keys"
	"boomerang/model"
)

// draws is a row of numbers that is the same each time.
type draws uint64

func (d *draws) below(m int) int {
	*d = *d*6364136223846793005 + 1442695040888963407
	return int((uint64(*d) >> 33) % uint64(m))
}

// config is one that may be; each of its programs begins with an instruction that tells its number.
func (d *draws) config() model.Config {
	ends := []int{1, 2, 5, 100, api.MaxEnd - 1, api.MaxEnd}
	c := model.Config{End: ends[d.below(len(ends))], Fuel: 1 + d.below(1024), Fan: d.below(9)}
	for i := range 1 + d.below(32) {
		c.Programs = append(c.Programs, slices.Repeat([]code.Instr{{Op: code.Set, B: i}}, 1+d.below(64)))
	}
	for range 1 + d.below(32) {
		c.LPs = append(c.LPs, model.Place{Program: d.below(len(c.Programs)), First: api.State{d.below(9) - 4, d.below(9)}})
	}
	for range d.below(257) {
		c.Starts = append(c.Starts, model.Start{Dst: d.below(len(c.LPs)), At: d.below(c.End + 1), Kind: d.below(9) - 4, Data: d.below(9) - 4})
	}
	return c
}

// TestMay: P7.3: each event may be; they stand in order, each start once.
func TestMay(t *testing.T) {
	d := draws(1)
	for range 500 {
		c := d.config()
		m := made(t, c)
		same(t, m, c)
		l := m.Events()
		for i, e := range l {
			if keys.Check(e) != api.OK || e.Src != -1 || e.Sent != -1 {
				t.Fatal(e)
			}
			if i > 0 && !l[i-1].Before(e.Key) {
				t.Fatal(l[i-1], e)
			}
		}
	}
}

// TestOne: P7.3: programs of one number are one, those of others are not.
func TestOne(t *testing.T) {
	d := draws(2)
	for range 200 {
		c := d.config()
		m := made(t, c)
		for a, p := range c.LPs {
			for b, q := range c.LPs {
				if slices.Equal(m.Program(a), m.Program(b)) != (p.Program == q.Program) {
					t.Fatal(a, b, p, q)
				}
			}
		}
	}
}

// TestAgain: R3: what a model tells is the same each time, be others made between.
func TestAgain(t *testing.T) {
	d := draws(3)
	for range 100 {
		c := d.config()
		m := made(t, c)
		l := m.Events()
		n, other := made(t, c), made(t, d.config())
		other.Events()
		same(t, m, c)
		same(t, n, c)
		if !slices.Equal(l, m.Events()) || !slices.Equal(l, n.Events()) {
			t.Fatal(l)
		}
	}
}
