package code_test

import (
	"math"
	"slices"
	"strconv"
	"strings"
	"testing"

	"boomerang/api"
	"boomerang/code"
)

const least, most = math.MinInt, math.MaxInt

// row is an op as the chapter's table tells it: its number, its word, and a letter for what each of its numbers is: a cell, any number, a place, or one up to 255.
type row struct {
	op   int
	word string
	are  string
}

func table() []row {
	return []row{
		{code.Set, "set", "ca"},
		{code.Move, "move", "cc"},
		{code.Add, "add", "ccc"},
		{code.Sub, "sub", "ccc"},
		{code.Mul, "mul", "ccc"},
		{code.Mod, "mod", "ccc"},
		{code.Less, "less", "ccc"},
		{code.Jump, "jump", "p"},
		{code.Zero, "zero", "cp"},
		{code.Now, "now", "c"},
		{code.Kind, "kind", "c"},
		{code.Data, "data", "c"},
		{code.Self, "self", "c"},
		{code.Send, "send", "ccc2"},
		{code.Stop, "stop", ""},
	}
}

// none is numbers that are no op's.
func none() []int {
	return []int{least, -15, -1, 0, 16, 17, 100, 1 << 32, 1<<32 + 1, most}
}

// instr is an instruction with so many numbers, the others 0.
func instr(op int, l ...int) code.Instr {
	var n [4]int
	copy(n[:], l)
	return code.Instr{Op: op, A: n[0], B: n[1], C: n[2], D: n[3]}
}

// with is an instruction whose number of a place is another.
func with(x code.Instr, i, n int) code.Instr {
	*[]*int{&x.A, &x.B, &x.C, &x.D}[i] = n
	return x
}

// may tells whether a number may be what a letter says, in a program of so many; a blank is for one that an op does not have.
func may(letter byte, n, many int) bool {
	switch letter {
	case 'c':
		return 0 <= n && n <= 7
	case 'p':
		return 0 <= n && n <= many
	case '2':
		return 0 <= n && n <= 255
	case 'a':
		return true
	}
	return n == 0
}

func mayBe(t *testing.T, x code.Instr, many int, want api.Errno) {
	t.Helper()
	if e := code.May(x, many); e != want {
		t.Errorf("May(%v, %d): %d, not %d", x, many, int(e), int(want))
	}
}

func checks(t *testing.T, n int, want api.Errno, p ...code.Instr) {
	t.Helper()
	if i, e := code.Check(p...); i != n || e != want {
		t.Errorf("Check(%v): %d, %d, not %d, %d", p, i, int(e), n, int(want))
	}
	if want != api.OK {
		prints(t, "", want, p...)
	}
}

func prints(t *testing.T, text string, want api.Errno, p ...code.Instr) {
	t.Helper()
	if s, e := code.Print(p...); s != text || e != want {
		t.Errorf("Print(%v): %q, %d, not %q, %d", p, s, int(e), text, int(want))
	}
}

func parses(t *testing.T, text string, want ...code.Instr) {
	t.Helper()
	p, n, e := code.Parse(text)
	if !slices.Equal(p, want) || n != 0 || e != api.OK {
		t.Errorf("Parse(%q): %v, %d, %d, not %v", text, p, n, int(e), want)
	}
}

// refused parses a text of which a line may not be.
func refused(t *testing.T, text string, line int, want api.Errno) {
	t.Helper()
	p, n, e := code.Parse(text)
	if len(p) != 0 || n != line || e != want {
		t.Errorf("Parse(%q): %v, %d, %d, not %d, %d", text, p, n, int(e), line, int(want))
	}
}

// P5.1: ops are numbered from 1 on, in the table's order, and there are eight cells.
func TestNumbers(t *testing.T) {
	for i, r := range table() {
		if r.op != i+1 {
			t.Errorf("%s: %d, not %d", r.word, r.op, i+1)
		}
	}
	if code.Cells != 8 {
		t.Error(code.Cells)
	}
}

// P5.1: each op's word, and how many numbers it has.
func TestWord(t *testing.T) {
	for _, r := range table() {
		if w, n := code.Word(r.op); w != r.word || n != len(r.are) {
			t.Errorf("Word(%d): %q, %d, not %q, %d", r.op, w, n, r.word, len(r.are))
		}
	}
	for _, op := range none() {
		if w, n := code.Word(op); w != "" || n != 0 {
			t.Errorf("Word(%d): %q, %d", op, w, n)
		}
	}
}

// P5.1: what each number of each op may be, and what it may not, at all edges, in programs of few and many.
func TestMay(t *testing.T) {
	for _, many := range []int{least, -2, -1, 0, 1, 2, 7, 8, 63, 64, 65, 255, 256, 1000, most} {
		edges := []int{least, -256, -8, -1, 0, 1, 2, 3, 6, 7, 8, 9, 62, 63, 64, 65, 254, 255, 256, 257, 999, 1000, 1001, 1 << 32, most}
		for _, r := range table() {
			mayAtEdges(t, r, many, edges)
		}
	}
}

func mayAtEdges(t *testing.T, r row, many int, edges []int) {
	t.Helper()
	rest := api.OK
	if strings.Contains(r.are, "p") && many < 0 {
		rest = api.ErrRange
	}
	mayBe(t, instr(r.op), many, rest)
	for i := range 4 {
		letter := (r.are + "    ")[i]
		for _, n := range edges {
			want := rest
			if !may(letter, n, many) {
				want = api.ErrRange
			}
			mayBe(t, with(instr(r.op), i, n), many, want)
		}
	}
}

// P5.1: all numbers of an instruction may be as great as they may be at once, and one alone that is greater is told.
func TestMayOfAllAtOnce(t *testing.T) {
	greatest := map[byte]int{'c': 7, 'p': 5, '2': 255, 'a': most}
	for _, r := range table() {
		x := instr(r.op)
		for i := range r.are {
			x = with(x, i, greatest[r.are[i]])
		}
		mayBe(t, x, 5, api.OK)
		for i := range 4 {
			if i < len(r.are) && r.are[i] == 'a' {
				continue
			}
			n := 1
			if i < len(r.are) {
				n = greatest[r.are[i]] + 1
			}
			mayBe(t, with(x, i, n), 5, api.ErrRange)
			mayBe(t, with(x, i, -1), 5, api.ErrRange)
		}
	}
}

// P5.1, R1: what is no op is told ahead of its numbers.
func TestMayOfNone(t *testing.T) {
	for _, op := range none() {
		for _, many := range []int{least, -1, 0, 1, 64, most} {
			mayBe(t, instr(op), many, api.ErrForm)
			mayBe(t, instr(op, 8, -1, most, least), many, api.ErrForm)
		}
	}
}

// P5.1: a program may have 64 instructions, and no more; that is told ahead of all else.
func TestCheckFull(t *testing.T) {
	stops := slices.Repeat([]code.Instr{instr(code.Stop)}, 300)
	for _, n := range []int{0, 1, 2, 63, 64} {
		checks(t, 0, api.OK, stops[:n]...)
	}
	for _, n := range []int{65, 66, 128, 300} {
		checks(t, 0, api.ErrFull, stops[:n]...)
	}
	bad := slices.Repeat([]code.Instr{instr(0)}, 65)
	checks(t, 0, api.ErrFull, bad...)
	checks(t, 1, api.ErrForm, bad[:64]...)
	bad[0] = instr(code.Stop, 1)
	checks(t, 0, api.ErrFull, bad...)
	checks(t, 1, api.ErrRange, bad[:64]...)
}

// P5.1: the first instruction that may not be is told, with its error, wherever it stands.
func TestCheckFirst(t *testing.T) {
	good := instr(code.Move, 7, 0)
	form, wide := instr(code.Stop+1), instr(code.Move, 8, 0)
	for _, many := range []int{1, 2, 3, 64} {
		for i := range many {
			p := slices.Repeat([]code.Instr{good}, many)
			p[i] = form
			checks(t, i+1, api.ErrForm, p...)
			p[i] = wide
			checks(t, i+1, api.ErrRange, p...)
			for j := i + 1; j < many; j++ {
				p[j] = form
			}
			checks(t, i+1, api.ErrRange, p...)
			p[i] = form
			for j := i + 1; j < many; j++ {
				p[j] = wide
			}
			checks(t, i+1, api.ErrForm, p...)
		}
	}
}

// P5.1: a place may be the one behind a program's last instruction, and none behind that.
func TestCheckPlaces(t *testing.T) {
	for _, many := range []int{1, 2, 3, 63, 64} {
		for i := range many {
			p := slices.Repeat([]code.Instr{instr(code.Stop)}, many)
			for n := range many + 1 {
				p[i] = instr(code.Jump, n)
				checks(t, 0, api.OK, p...)
				p[i] = instr(code.Zero, 7, n)
				checks(t, 0, api.OK, p...)
			}
			for _, n := range []int{least, -1, many + 1, many + 2, most} {
				p[i] = instr(code.Jump, n)
				checks(t, i+1, api.ErrRange, p...)
				p[i] = instr(code.Zero, 7, n)
				checks(t, i+1, api.ErrRange, p...)
			}
		}
	}
}

// P5.1: how many instructions send, whatever else stands in them, and however many there are.
func TestSends(t *testing.T) {
	var p []code.Instr
	want := 0
	for i := range 200 {
		if n := code.Sends(p...); n != want {
			t.Errorf("Sends(%v): %d, not %d", p, n, want)
		}
		op := i % 18
		if op == code.Send {
			want++
		}
		p = append(p, instr(op, i, -i, i, i))
	}
	if n := code.Sends(instr(code.Send), instr(code.Send, 1, 2, 3, 7), instr(-code.Send), instr(code.Send, 8, 8, 8, 256)); n != 3 {
		t.Error(n)
	}
}

// pairs is instructions, and their lines in a program of 64.
func pairs() map[string]code.Instr {
	return map[string]code.Instr{
		"set 2 -5":                   instr(code.Set, 2, -5),
		"set 0 0":                    instr(code.Set),
		"set 7 9223372036854775807":  instr(code.Set, 7, most),
		"set 7 -9223372036854775808": instr(code.Set, 7, least),
		"set 1 1000000000000000000":  instr(code.Set, 1, 1000000000000000000),
		"set 1 -1":                   instr(code.Set, 1, -1),
		"set 1 10":                   instr(code.Set, 1, 10),
		"set 1 -10":                  instr(code.Set, 1, -10),
		"move 0 7":                   instr(code.Move, 0, 7),
		"add 1 2 3":                  instr(code.Add, 1, 2, 3),
		"sub 3 2 1":                  instr(code.Sub, 3, 2, 1),
		"mul 4 4 4":                  instr(code.Mul, 4, 4, 4),
		"mod 5 6 7":                  instr(code.Mod, 5, 6, 7),
		"less 0 1 0":                 instr(code.Less, 0, 1, 0),
		"jump 0":                     instr(code.Jump, 0),
		"jump 64":                    instr(code.Jump, 64),
		"zero 3 63":                  instr(code.Zero, 3, 63),
		"zero 0 0":                   instr(code.Zero),
		"now 1":                      instr(code.Now, 1),
		"kind 2":                     instr(code.Kind, 2),
		"data 3":                     instr(code.Data, 3),
		"self 7":                     instr(code.Self, 7),
		"send 1 2 3 7":               instr(code.Send, 1, 2, 3, 7),
		"send 7 7 7 255":             instr(code.Send, 7, 7, 7, 255),
		"send 0 0 0 0":               instr(code.Send),
		"stop":                       instr(code.Stop),
	}
}

// P5.2: each line of each op, as it is printed and as it is parsed, at each place of a program of 64.
func TestLines(t *testing.T) {
	for s, x := range pairs() {
		for _, i := range []int{0, 1, 31, 63} {
			p := slices.Repeat([]code.Instr{instr(code.Stop)}, 64)
			l := slices.Repeat([]string{"stop\n"}, 64)
			p[i], l[i] = x, s+"\n"
			prints(t, strings.Join(l, ""), api.OK, p...)
			parses(t, strings.Join(l, ""), p...)
		}
	}
}

// P5.2: a program without instructions is a text without lines.
func TestOfNone(t *testing.T) {
	checks(t, 0, api.OK)
	prints(t, "", api.OK)
	parses(t, "")
	if n := code.Sends(); n != 0 {
		t.Error(n)
	}
}

// P5.1, P5.2: the chapter's examples.
func TestExamples(t *testing.T) {
	prints(t, "set 2 -5\n", api.OK, instr(code.Set, 2, -5))
	prints(t, "send 1 2 3 7\n", api.OK, instr(code.Send, 1, 2, 3, 7))
	parses(t, "set 2 -5\nsend 1 2 3 7\n", instr(code.Set, 2, -5), instr(code.Send, 1, 2, 3, 7))
	mayBe(t, instr(code.Jump, 3), 2, api.ErrRange)
	checks(t, 2, api.ErrRange, instr(code.Stop), instr(code.Jump, 3))
	refused(t, "stop\njump 3\n", 2, api.ErrRange)
	parses(t, "stop\njump 2\n", instr(code.Stop), instr(code.Jump, 2))
}

// misspelt is lines that are no instruction's.
func misspelt() []string {
	return []string{
		"", " ", "  ", "\t", "\r", "\x00", "-", "0", "1 2 3", "\xff", "ä",
		"Stop", "STOP", "stop ", " stop", "stop\r", "stop\t", "stop\x00", "stop  ", "stop 0", "stop stop", "sto", "stopp", "halt", "none", "1", "15",
		"set", "set ", "set 2", "set 2 ", "set 2 5 ", "set 2 5 0", "set 2 5 0 0", "set  2 5", "set 2  5", " set 2 5", "set\t2 5", "set 2\t5", "set,2,5", "set2 5", "set 25 ", "set 2 5\r", "SET 2 5",
		"set 2 +5", "set +2 5", "set 2 05", "set 02 5", "set 2 00", "set 2 -0", "set -0 5", "set 2 -05", "set 2 --5", "set 2 -", "set 2 5-", "set 2 - 5", "set - 5", "set 2 -00",
		"set 2 0x5", "set 2 0b1", "set 2 0o7", "set 2 1_000", "set 2 5.0", "set 2 1e3", "set 2 a", "set a 5", "set 2 5a", "set 2 ٣", "set 2 −5", "set 2 \uff15",
		"set 2 9223372036854775808", "set 2 -9223372036854775809", "set 2 18446744073709551616", "set 2 99999999999999999999999999", "set 2 -99999999999999999999999999", "set 9223372036854775808 5",
		"move 1", "move 1 2 3", "move 1 2 0", "move", "add 1 2", "add 1 2 3 4", "add 1 2 3 0", "sub 1", "mul", "mod 1 2 ", "less 1 2 3 ",
		"jump", "jump ", "jump 0 0", "jump 00", "jump -0", "jump 9223372036854775808", "zero 1", "zero 1 1 0", "zero 1 01",
		"now", "now 1 0", "kind", "kind 1 0", "data", "data 1 0", "self", "self 1 0",
		"send", "send 1 2 3", "send 1 2 3 7 ", "send 1 2 3 7 0", "send 1 2 3 7 0 0 0", "send 1 2 3 007", "send 1 2 3 7 x", "send 1 2 3  7",
		"set 2 5;", "# stop", "stop # it", "stop stop stop stop stop stop", strings.Repeat(" ", 1000), "set 2 " + strings.Repeat("0", 1000), "set 2 " + strings.Repeat("9", 1000),
		"add 8 8", "add 8 8 8 8", "move 8 +8", "jump 099", "send 8 8 8 0256",
	}
}

// wide is lines of which a number may not be, in a text of three lines.
func wide() []string {
	return []string{
		"set 8 5", "set -1 5", "set 9223372036854775807 5", "set -9223372036854775808 5", "set 10 0",
		"move 8 0", "move 0 8", "move -1 0", "move 0 -1",
		"add 8 0 0", "sub 0 8 0", "mul 0 0 8", "mod -1 0 0", "less 0 0 -1",
		"jump 4", "jump -1", "jump 64", "jump 9223372036854775807", "zero 8 0", "zero 0 4", "zero 0 -1",
		"now 8", "kind 8", "data -1", "self 8",
		"send 8 0 0 0", "send 0 8 0 0", "send 0 0 8 0", "send 0 0 0 256", "send 0 0 0 -1", "send -1 0 0 0",
	}
}

// P5.2: a line that is not written so, or that may not be, wherever it stands; the first one is told.
func TestParseRefused(t *testing.T) {
	for i, l := range [][]string{misspelt(), wide()} {
		want := []api.Errno{api.ErrForm, api.ErrRange}[i]
		for _, s := range l {
			refused(t, s+"\nstop\nstop\n", 1, want)
			refused(t, "stop\n"+s+"\nstop\n", 2, want)
			refused(t, "stop\nstop\n"+s+"\n", 3, want)
			refused(t, s+"\nnone\njump 9\n", 1, want)
			refused(t, s+"\njump 9\nnone\n", 1, want)
			refused(t, s+"\nstop\nstop\nstop", 1, want)
			refused(t, "jump 2\n"+s+"\nnone", 2, want)
		}
	}
}

// P5.2: what stands behind the last line feed is a line, and none of a text.
func TestParseWithoutLineFeed(t *testing.T) {
	for _, s := range append(append(misspelt(), wide()...), "stop", "set 2 5", "jump 0", "jump 3", "jump 4") {
		if s == "" {
			continue
		}
		refused(t, s, 1, api.ErrForm)
		refused(t, "stop\nstop\n"+s, 3, api.ErrForm)
		refused(t, strings.Repeat("stop\n", 64)+s, 65, api.ErrForm)
	}
	refused(t, "jump 2\nstop", 1, api.ErrRange)
	refused(t, "jump 1\nstop", 2, api.ErrForm)
}

// P5.2: a place may be as many as a text has line feeds.
func TestParsePlaces(t *testing.T) {
	for _, many := range []int{1, 2, 9, 10, 63, 64} {
		rest := strings.Repeat("stop\n", many-1)
		for _, n := range []int{0, many - 1, many} {
			s := strconv.Itoa(n) + "\n"
			p := append([]code.Instr{instr(code.Jump, n)}, slices.Repeat([]code.Instr{instr(code.Stop)}, many-1)...)
			parses(t, "jump "+s+rest, p...)
			p[0] = instr(code.Zero, 5, n)
			parses(t, "zero 5 "+s+rest, p...)
		}
		s := strconv.Itoa(many+1) + "\n"
		refused(t, "jump "+s+rest, 1, api.ErrRange)
		refused(t, "zero 5 "+s+rest, 1, api.ErrRange)
		refused(t, rest+"jump "+s, many, api.ErrRange)
	}
}

// P5.2: a text may have 64 line feeds, and no more; that is told ahead of all else.
func TestParseFull(t *testing.T) {
	parses(t, strings.Repeat("stop\n", 64), slices.Repeat([]code.Instr{instr(code.Stop)}, 64)...)
	for _, n := range []int{65, 66, 1000} {
		refused(t, strings.Repeat("stop\n", n), 0, api.ErrFull)
		refused(t, strings.Repeat("\n", n), 0, api.ErrFull)
		refused(t, strings.Repeat("none\n", n)+"none", 0, api.ErrFull)
	}
	refused(t, strings.Repeat("\n", 64), 1, api.ErrForm)
	refused(t, strings.Repeat("stop\n", 64)+" ", 65, api.ErrForm)
	refused(t, strings.Repeat("stop\n", 63)+"stop 1\n", 64, api.ErrForm)
}

// R2: what is handed in is not written into, nor is what stands behind its length; what is answered is the caller's.
func TestWhatIsHandedInStays(t *testing.T) {
	p := []code.Instr{instr(code.Set, 2, -5), instr(code.Send, 1, 2, 3, 7), instr(code.Stop), instr(code.Jump, 1)}
	was := slices.Clone(p)
	l := p[:2]
	code.Check(l...)
	code.Print(l...)
	code.Sends(l...)
	if !slices.Equal(p, was) {
		t.Error(p)
	}
	s, _ := code.Print(p...)
	q, _, _ := code.Parse(s)
	q[0] = instr(code.Stop)
	_ = append(q[:1], instr(99))
	parses(t, s, was...)
	prints(t, s, api.OK, was...)
}
