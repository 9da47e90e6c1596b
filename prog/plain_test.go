package prog_test

import (
	"math"
	"slices"
	"strconv"
	"strings"
	"testing"

	"forelock/api"
	"forelock/prog"
	"forelock/token"
)

// This file has what the other tests hold the calls against: the chapter's words, told once more.

// asked is what the chapter says of the ops of a kind: the least and the greatest of each number.
type asked struct {
	kind  int
	name  string
	spans [][2]int
}

func asks() []asked {
	return []asked{
		{1, "compute", [][2]int{{1, 16}}},
		{2, "lock", [][2]int{{0, 7}}},
		{3, "read", [][2]int{{0, 7}}},
		{4, "try", [][2]int{{0, 7}}},
		{5, "timed", [][2]int{{0, 7}, {1, 64}}},
		{6, "unlock", [][2]int{{0, 7}}},
		{7, "sleep", [][2]int{{1, 64}}},
		{8, "yield", nil},
		{9, "spawn", [][2]int{{0, 7}}},
		{10, "weight", [][2]int{{1, 16}}},
		{11, "exit", nil},
	}
}

func name(text string) api.Word {
	return api.Word{Kind: api.WordName, Text: text}
}

func num(n int) api.Word {
	return api.Word{Kind: api.WordNum, N: n}
}

func mark(text string) api.Word {
	return api.Word{Kind: api.WordMark, Text: text}
}

// scanned is the words of a text that is one, with their places in it.
func scanned(t *testing.T, s string) []api.Word {
	t.Helper()
	l, at, err := token.Scan(s)
	if err != api.OK {
		t.Fatalf("Scan(%q): %d, %d", s, at, err)
	}
	return l
}

// told is words as a fault tells them: not as token does, as they may be none.
func told(l []api.Word) string {
	var texts []string
	for _, w := range l {
		switch {
		case w.Kind == 2 && w.Text == "":
			texts = append(texts, strconv.Itoa(w.N))
		case (w.Kind == 1 || w.Kind == 3) && w.N == 0 && len(w.Text) < 20:
			texts = append(texts, w.Text)
		default:
			texts = append(texts, "["+strconv.Itoa(w.Kind)+" "+strconv.Quote(w.Text[:min(len(w.Text), 20)])+" "+strconv.Itoa(w.N)+"]")
		}
	}
	return strconv.Quote(strings.Join(texts, " "))
}

// plainAsked is what is asked of the ops that begin with w, and whether any do.
func plainAsked(w api.Word) (asked, bool) {
	for _, a := range asks() {
		if w.Kind == 1 && w.Text == a.name && w.N == 0 {
			return a, true
		}
	}
	return asked{}, false
}

// plainNext is what is met at w behind the words ahead, of which each could go on: what may stand there hangs on the last one or two of them alone.
func plainNext(ahead []api.Word, w api.Word) api.Errno {
	when := func(ok bool) api.Errno {
		if ok {
			return api.OK
		}
		return api.ErrForm
	}
	w.At = 0
	if len(ahead) == 0 {
		return when(w == name("prog"))
	}
	last := ahead[len(ahead)-1]
	_, begins := plainAsked(w)
	switch {
	case last.Text == "prog":
		return when(w == name("forever") || w == mark("{"))
	case last.Text == "forever":
		return when(w == mark("{"))
	case last.Text == "{" && w == mark("}"):
		return api.ErrNone
	case last.Text == "{":
		return when(begins)
	case last.Text == ";" && begins && plainEnds(ahead) == 12:
		return api.ErrLong
	case last.Text == ";":
		return when(begins || w == mark("}"))
	}
	// It is within an op: so many numbers of it are ahead.
	n := 0
	for ahead[len(ahead)-1-n].Kind == 2 {
		n++
	}
	a, _ := plainAsked(ahead[len(ahead)-1-n])
	switch {
	case n == len(a.spans):
		return when(w == mark(";"))
	case w.Kind != 2 || w.Text != "":
		return api.ErrForm
	case w.N < a.spans[n][0] || w.N > a.spans[n][1]:
		return api.ErrArg
	}
	return api.OK
}

// plainEnds is how many ; there are.
func plainEnds(l []api.Word) int {
	n := 0
	for _, w := range l {
		if w.Kind == 3 && w.Text == ";" {
			n++
		}
	}
	return n
}

// plainParse is what Parse is to answer.
func plainParse(l []api.Word, at int) (api.Prog, int, api.Errno) {
	if at < 0 || at > len(l) {
		return api.Prog{}, 0, api.ErrForm
	}
	for k := at; k < len(l); k++ {
		if err := plainNext(l[at:k], l[k]); err != api.OK {
			return api.Prog{}, k, err
		}
		if l[k].Text == "}" {
			return plainProg(l[at : k+1]), k + 1, api.OK
		}
	}
	return api.Prog{}, len(l), api.ErrForm
}

// plainProg is the program of just these words.
func plainProg(l []api.Word) api.Prog {
	var p api.Prog
	numbers := 0
	for _, w := range l {
		a, begins := plainAsked(w)
		switch {
		case w.Text == "forever":
			p.Forever = true
		case begins:
			p.Ops = append(p.Ops, api.Op{Kind: a.kind})
			numbers = 0
		case w.Kind == 2 && numbers == 0:
			p.Ops[len(p.Ops)-1].A = w.N
			numbers++
		case w.Kind == 2:
			p.Ops[len(p.Ops)-1].B = w.N
		}
	}
	return p
}

// plainMay is what May is to answer.
func plainMay(p api.Prog) bool {
	for _, op := range p.Ops {
		if !plainMayOp(op) {
			return false
		}
	}
	return len(p.Ops) >= 1 && len(p.Ops) <= 12
}

func plainMayOp(op api.Op) bool {
	for _, a := range asks() {
		if a.kind != op.Kind {
			continue
		}
		// A number that an op has not has 0 alone.
		spans := append(slices.Clone(a.spans), [2]int{}, [2]int{})
		return op.A >= spans[0][0] && op.A <= spans[0][1] && op.B >= spans[1][0] && op.B <= spans[1][1]
	}
	return false
}

// plainPrint is the text of a program that may be.
func plainPrint(p api.Prog) string {
	s := "prog "
	if p.Forever {
		s += "forever "
	}
	s += "{"
	for _, op := range p.Ops {
		a := asks()[op.Kind-1]
		s += " " + a.name
		for i := range a.spans {
			s += " " + strconv.Itoa([]int{op.A, op.B}[i])
		}
		s += ";"
	}
	return s + " }"
}

func plainSame(a, b api.Prog) bool {
	if a.Forever != b.Forever || len(a.Ops) != len(b.Ops) {
		return false
	}
	for i := range a.Ops {
		if a.Ops[i].Kind != b.Ops[i].Kind || a.Ops[i].A != b.Ops[i].A || a.Ops[i].B != b.Ops[i].B {
			return false
		}
	}
	return true
}

// checkParse holds Parse against these answers; the words may not change by that.
func checkParse(t *testing.T, l []api.Word, at int, want api.Prog, place int, why api.Errno) {
	t.Helper()
	kept := slices.Clone(l)
	p, n, err := prog.Parse(l, at)
	if !plainSame(p, want) || n != place || err != why {
		t.Errorf("Parse(%s, %d): %v, %d, %d; want %v, %d, %d", told(l), at, p, n, err, want, place, why)
	}
	if !slices.Equal(l, kept) {
		t.Errorf("Parse changed the words: %s; they were %s", told(l), told(kept))
	}
}

func checkRefused(t *testing.T, l []api.Word, at int, place int, why api.Errno) {
	t.Helper()
	checkParse(t, l, at, api.Prog{}, place, why)
}

// checkPlain holds Parse against the plain answer, which it answers itself.
func checkPlain(t *testing.T, l []api.Word, at int) api.Errno {
	t.Helper()
	p, place, why := plainParse(l, at)
	checkParse(t, l, at, p, place, why)
	return why
}

// checkMay holds May, Words and Print of a program that may be against its text, and what that is parsed to against itself.
func checkMay(t *testing.T, p api.Prog) {
	t.Helper()
	kept := slices.Clone(p.Ops)
	if !prog.May(p) {
		t.Errorf("May(%v): false", p)
	}
	want := plainPrint(p)
	text, err := prog.Print(p)
	if text != want || err != api.OK {
		t.Errorf("Print(%v): %q, %d; want %q, 0", p, text, err, want)
	}
	words := scanned(t, want)
	checkParse(t, words, 0, p, len(words), api.OK)
	for i := range words {
		words[i].At = 0
	}
	l, err := prog.Words(p)
	if !slices.Equal(l, words) || err != api.OK {
		t.Errorf("Words(%v): %v, %d; want %v, 0", p, l, err, words)
	}
	if !slices.Equal(p.Ops, kept) {
		t.Errorf("the ops were changed: %v; they were %v", p.Ops, kept)
	}
}

func checkMayNot(t *testing.T, p api.Prog) {
	t.Helper()
	kept := slices.Clone(p.Ops)
	if prog.May(p) {
		t.Errorf("May(%v): true", p)
	}
	if l, err := prog.Words(p); len(l) != 0 || err != api.ErrArg {
		t.Errorf("Words(%v): %v, %d; want none, %d", p, l, err, api.ErrArg)
	}
	if text, err := prog.Print(p); text != "" || err != api.ErrArg {
		t.Errorf("Print(%v): %q, %d; want nothing, %d", p, text, err, api.ErrArg)
	}
	if !slices.Equal(p.Ops, kept) {
		t.Errorf("the ops were changed: %v; they were %v", p.Ops, kept)
	}
}

// numbers are some to stand for an op's: all that may be of any, those beside them, and some far away.
func numbers() []int {
	l := []int{math.MinInt, math.MinInt + 1, -1 << 32, -1 << 31, -1000, 1000, 1<<31 - 1, 1 << 31, 1 << 32, 1<<32 + 1, 999999999, math.MaxInt}
	for n := -70; n <= 70; n++ {
		l = append(l, n)
	}
	return l
}

// edges are of each kind the ops with each number at its least and at its greatest.
func edges() []api.Op {
	var l []api.Op
	for _, a := range asks() {
		spans := append(slices.Clone(a.spans), [2]int{}, [2]int{})
		for _, first := range spans[0] {
			for _, second := range spans[1] {
				if op := (api.Op{Kind: a.kind, A: first, B: second}); !slices.Contains(l, op) {
					l = append(l, op)
				}
			}
		}
	}
	return l
}

// whole has an op of each kind, and one more.
func whole() string {
	return "prog forever { compute 16; lock 0; read 7; try 3; timed 2 64; unlock 0; sleep 1; yield; spawn 5; weight 16; exit; compute 1; }"
}

// row answers numbers below n, the same ones each time.
func row(seed uint64) func(n int) int {
	state := seed
	return func(n int) int {
		state = state*6364136223846793005 + 1442695040888963407
		return int((state ^ state>>29) >> 33 % uint64(n))
	}
}
