package code_test

import (
	"math/big"
	"regexp"
	"slices"
	"strings"
	"testing"

	"boomerang/api"
	"boomerang/code"
)

// draws is a row of numbers that is the same each time.
type draws uint64

func (d *draws) below(m int) int {
	*d = *d*6364136223846793005 + 1442695040888963407
	return int((uint64(*d) >> 33) % uint64(m))
}

// any is a number, often one at an edge of what some number may be.
func (d *draws) any() int {
	edges := []int{least, least + 1, -1000, -10, -9, -1, 0, 1, 7, 8, 9, 10, 99, 100, 255, 256, most - 1, most}
	if d.below(3) == 0 {
		return int(int64(d.below(1<<31))<<33|int64(d.below(1<<31))<<2) >> d.below(60)
	}
	return edges[d.below(len(edges))]
}

// good is an instruction that may be in a program of so many.
func (d *draws) good(many int) code.Instr {
	r := table()[d.below(len(table()))]
	x := instr(r.op)
	for i := range r.are {
		n := 0
		switch r.are[i] {
		case 'c':
			n = d.below(8)
		case 'p':
			n = d.below(many + 1)
		case '2':
			n = d.below(256)
		case 'a':
			n = d.any()
		}
		x = with(x, i, n)
	}
	return x
}

func (d *draws) program() []code.Instr {
	many := d.below(api.MaxCode + 1)
	if d.below(10) == 0 {
		many = api.MaxCode
	}
	p := make([]code.Instr, many)
	for i := range p {
		p[i] = d.good(len(p))
	}
	return p
}

// spoilt is a text in which some byte, or line, is another, or gone, or there twice.
func (d *draws) spoilt(s string) string {
	b := []byte(s)
	for range 1 + d.below(2) {
		i := d.below(len(b) + 1)
		if i == len(b) {
			b = append(b, " -0178\nstop\n"[d.below(12)])
			continue
		}
		switch d.below(4) {
		case 0:
			b[i] = " -0123456789\nadelnost\x00"[d.below(22)]
		case 1:
			b = slices.Delete(b, i, i+1)
		case 2:
			b = slices.Insert(b, i, b[i])
		case 3:
			b = slices.Insert(b, i, " -09\nx"[d.below(6)])
		}
	}
	return string(b)
}

// plainMay is May, as the chapter's table tells it.
func plainMay(x code.Instr, many int) api.Errno {
	for _, r := range table() {
		if r.op != x.Op {
			continue
		}
		for i, n := range []int{x.A, x.B, x.C, x.D} {
			if !may((r.are + "    ")[i], n, many) {
				return api.ErrRange
			}
		}
		return api.OK
	}
	return api.ErrForm
}

var written = regexp.MustCompile(`^[a-z]+(?: (?:0|-?[1-9][0-9]*))*\n$`)

// plainRead is a line's instruction, as the chapter's words tell it.
func plainRead(s string, many int) (code.Instr, api.Errno) {
	if !written.MatchString(s) {
		return code.Instr{}, api.ErrForm
	}
	l := strings.Fields(s)
	for _, r := range table() {
		if r.word != l[0] || len(r.are) != len(l)-1 {
			continue
		}
		x := instr(r.op)
		for i, w := range l[1:] {
			n, _ := new(big.Int).SetString(w, 10)
			if !n.IsInt64() {
				return code.Instr{}, api.ErrForm
			}
			x = with(x, i, int(n.Int64()))
		}
		return x, plainMay(x, many)
	}
	return code.Instr{}, api.ErrForm
}

// plainParse is Parse, as the chapter's words tell it.
func plainParse(s string) (p []code.Instr, line int, e api.Errno) {
	many := strings.Count(s, "\n")
	if many > 64 {
		return nil, 0, api.ErrFull
	}
	for i, l := range strings.SplitAfter(s, "\n") {
		if l == "" {
			break
		}
		x, e := plainRead(l, many)
		if e != api.OK {
			return nil, i + 1, e
		}
		p = append(p, x)
	}
	return p, 0, api.OK
}

// P5.3, and P5.1 and P5.2 along the way: of any program that may be, Parse of Print is the program.
func TestParseOfPrint(t *testing.T) {
	d := draws(1)
	for range 3000 {
		p := d.program()
		checks(t, 0, api.OK, p...)
		s, e := code.Print(p...)
		if e != api.OK || strings.Count(s, "\n") != len(p) {
			t.Fatalf("Print(%v): %q, %d", p, s, int(e))
		}
		parses(t, s, p...)
	}
}

// P5.3, P5.2: of any text that is a program's, Print of Parse is the text; of any other, the line is told that is none.
func TestPrintOfParse(t *testing.T) {
	d := draws(2)
	counts := map[api.Errno]int{}
	for range 10000 {
		s, _ := code.Print(d.program()...)
		s = d.spoilt(s)
		p, n, e := code.Parse(s)
		q, m, f := plainParse(s)
		if !slices.Equal(p, q) || n != m || e != f {
			t.Fatalf("Parse(%q): %v, %d, %d, not %v, %d, %d", s, p, n, int(e), q, m, int(f))
		}
		if e == api.OK {
			prints(t, s, api.OK, p...)
		}
		counts[e]++
	}
	for _, e := range []api.Errno{api.OK, api.ErrForm, api.ErrRange, api.ErrFull} {
		if counts[e] < 50 {
			t.Errorf("the error %d: %d times alone", int(e), counts[e])
		}
	}
}

// P5.1: of any program, that may be or not, what is told of it is what the chapter's words tell.
func TestCheckFollows(t *testing.T) {
	d := draws(3)
	counts := map[api.Errno]int{}
	for range 10000 {
		p := d.program()
		if len(p) > 0 && d.below(2) == 0 {
			for range 1 + d.below(3) {
				p[d.below(len(p))] = code.Instr{Op: d.below(18) - 1, A: d.any(), B: d.any(), C: d.below(10) - 1, D: d.below(3) - 1}
			}
		}
		want, n := api.OK, 0
		for i, x := range p {
			e := plainMay(x, len(p))
			mayBe(t, x, len(p), e)
			if e != api.OK && n == 0 {
				want, n = e, i+1
			}
		}
		checks(t, n, want, p...)
		counts[want]++
	}
	for _, e := range []api.Errno{api.OK, api.ErrForm, api.ErrRange} {
		if counts[e] < 500 {
			t.Errorf("the error %d: %d times alone", int(e), counts[e])
		}
	}
}

// P5.3: no two instructions have one line, and no two ops one word.
func TestLinesDiffer(t *testing.T) {
	lines := map[string]code.Instr{}
	for _, r := range table() {
		for a := range 8 {
			for b := range 8 {
				x := instr(r.op)
				for i := range r.are {
					x = with(x, i, []int{a, b, a, b}[i])
				}
				s, e := code.Print(append([]code.Instr{x}, slices.Repeat([]code.Instr{instr(code.Stop)}, 7)...)...)
				if y, there := lines[s]; e != api.OK || there && x != y {
					t.Errorf("Print(%v): %q, %d, as of %v", x, s, int(e), y)
				}
				lines[s] = x
			}
		}
	}
}
