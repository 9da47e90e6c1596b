package prog_test

import (
	"math"
	"slices"
	"strconv"
	"strings"
	"testing"

	"forelock/api"
	"forelock/prog"
)

func TestExample(t *testing.T) {
	l := scanned(t, "prog forever { lock 0; compute 2; unlock 0; }")
	want := api.Prog{Forever: true, Ops: []api.Op{{Kind: api.OpLock}, {Kind: api.OpCompute, A: 2}, {Kind: api.OpUnlock}}}
	checkParse(t, l, 0, want, 13, api.OK)
	checkMay(t, want)
}

func TestParseOfEachOp(t *testing.T) {
	for _, c := range []struct {
		s    string
		want api.Op
	}{
		{"compute 5;", api.Op{Kind: api.OpCompute, A: 5}},
		{"lock 3;", api.Op{Kind: api.OpLock, A: 3}},
		{"read 4;", api.Op{Kind: api.OpRead, A: 4}},
		{"try 5;", api.Op{Kind: api.OpTry, A: 5}},
		{"timed 6 50;", api.Op{Kind: api.OpTimed, A: 6, B: 50}},
		{"timed 1 2;", api.Op{Kind: api.OpTimed, A: 1, B: 2}},
		{"unlock 2;", api.Op{Kind: api.OpUnlock, A: 2}},
		{"sleep 33;", api.Op{Kind: api.OpSleep, A: 33}},
		{"yield;", api.Op{Kind: api.OpYield}},
		{"spawn 1;", api.Op{Kind: api.OpSpawn, A: 1}},
		{"weight 9;", api.Op{Kind: api.OpWeight, A: 9}},
		{"exit;", api.Op{Kind: api.OpExit}},
	} {
		once := scanned(t, "prog { "+c.s+" }")
		checkParse(t, once, 0, api.Prog{Ops: []api.Op{c.want}}, len(once), api.OK)
		forever := scanned(t, "prog forever{"+c.s+c.s+"}")
		checkParse(t, forever, 0, api.Prog{Forever: true, Ops: []api.Op{c.want, c.want}}, len(forever), api.OK)
	}
}

// Each number at each of its places: those that may be are taken, the others are told at themselves, whatever follows.
func TestParseOfNumbers(t *testing.T) {
	for _, a := range asks() {
		for i, span := range a.spans {
			for _, n := range numbers() {
				l := []api.Word{name("prog"), mark("{"), name("yield"), mark(";"), name(a.name)}
				op := api.Op{Kind: a.kind, A: n}
				if len(a.spans) == 2 {
					op = api.Op{Kind: a.kind, A: 1, B: 1}
					if i == 0 {
						op.A = n
					} else {
						op.B = n
					}
				}
				for k := range a.spans {
					l = append(l, num([]int{op.A, op.B}[k]))
				}
				l = append(l, mark(";"), mark("}"))
				if n >= span[0] && n <= span[1] {
					checkParse(t, l, 0, api.Prog{Ops: []api.Op{{Kind: api.OpYield}, op}}, len(l), api.OK)
					continue
				}
				checkRefused(t, l, 0, 5+i, api.ErrArg)
				checkRefused(t, l[:6+i], 0, 5+i, api.ErrArg)
			}
		}
	}
}

// The numbers that the chapter names, and those beside them, as they stand in a text.
func TestParseOfNumbersInTexts(t *testing.T) {
	for s, may := range map[string]bool{
		"compute 0": false, "compute 1": true, "compute 16": true, "compute 17": false,
		"lock 0": true, "lock 7": true, "lock 8": false, "read 0": true, "read 7": true, "read 8": false,
		"try 0": true, "try 7": true, "try 8": false, "unlock 0": true, "unlock 7": true, "unlock 8": false,
		"spawn 0": true, "spawn 7": true, "spawn 8": false,
		"sleep 0": false, "sleep 1": true, "sleep 64": true, "sleep 65": false,
		"weight 0": false, "weight 1": true, "weight 16": true, "weight 17": false,
	} {
		l := scanned(t, "prog { "+s+"; }")
		if may {
			checkParse(t, l, 0, plainProg(l), 6, api.OK)
		} else {
			checkRefused(t, l, 0, 3, api.ErrArg)
		}
	}
	for s, place := range map[string]int{
		"timed 0 1": 0, "timed 7 1": 0, "timed 0 64": 0, "timed 7 64": 0,
		"timed 8 1": 3, "timed 8 0": 3, "timed 8 65": 3, "timed 0 0": 4, "timed 7 0": 4, "timed 0 65": 4, "timed 7 65": 4,
	} {
		l := scanned(t, "prog { "+s+"; }")
		if place == 0 {
			checkParse(t, l, 0, plainProg(l), 7, api.OK)
		} else {
			checkRefused(t, l, 0, place, api.ErrArg)
		}
	}
}

func TestParseOfHowManyOps(t *testing.T) {
	for n := range 20 {
		for _, op := range []string{"exit;", "lock 3;", "timed 1 2;"} {
			l := scanned(t, "prog { "+strings.Repeat(op, n)+" }")
			each := len(scanned(t, op))
			switch {
			case n == 0:
				checkRefused(t, l, 0, 2, api.ErrNone)
			case n <= 12:
				checkParse(t, l, 0, plainProg(l), len(l), api.OK)
			default:
				checkRefused(t, l, 0, 2+12*each, api.ErrLong)
			}
		}
	}
}

// A 13th op is told at its first word, whatever stands behind that; a word there that begins none is what it can't go on with.
func TestParseOfA13thOp(t *testing.T) {
	for _, head := range []string{"prog { ", "prog forever { "} {
		full := head + strings.Repeat("sleep 1;", 12)
		ahead := len(scanned(t, full))
		for _, a := range asks() {
			for _, rest := range []string{"", ";", " 1;", " 1 1;", " 0", " 99", " 99 99", " }", " {", " x", ";}", ";" + a.name + ";"} {
				checkRefused(t, scanned(t, full+a.name+rest), 0, ahead, api.ErrLong)
			}
		}
		for _, s := range []string{"x", "x }", "prog", "forever", "run;", "0", "1;", "99", ";", "; }", "{", ".", "=", "exits;", "exi t", "xexit;"} {
			checkRefused(t, scanned(t, full+s), 0, ahead, api.ErrForm)
		}
		checkRefused(t, scanned(t, full), 0, ahead, api.ErrForm)
		l := scanned(t, full+"}")
		checkParse(t, l, 0, plainProg(l), len(l), api.OK)
		// An op that can't be within the twelve is met ahead of a 13th one.
		checkRefused(t, scanned(t, head+strings.Repeat("sleep 1;", 11)+"sleep 0;exit;}"), 0, ahead-2, api.ErrArg)
	}
}

func TestParseOfWordsThatEnd(t *testing.T) {
	for _, s := range []string{
		whole(), "prog { exit; }", "prog forever { timed 1 1; }", "prog { lock 0; compute 2; unlock 0; }",
		"prog { " + strings.Repeat("timed 7 64;", 12) + " }",
	} {
		l := scanned(t, s)
		for n := range l {
			checkRefused(t, l[:n], 0, n, api.ErrForm)
			// From a later place on, and with more words behind the end of the slice.
			later := slices.Concat([]api.Word{num(7), mark("}")}, l[:n])
			checkRefused(t, later, 2, n+2, api.ErrForm)
			checkRefused(t, slices.Clone(l)[:n:n], 0, n, api.ErrForm)
		}
	}
}

func TestParseOfNoWords(t *testing.T) {
	for _, l := range [][]api.Word{nil, {}, make([]api.Word, 0, 10)} {
		for _, at := range []int{math.MinInt, -2, -1, 0, 1, 2, math.MaxInt} {
			checkRefused(t, l, at, 0, api.ErrForm)
		}
	}
}

func TestParseAt(t *testing.T) {
	l := scanned(t, whole())
	n := len(l)
	for _, at := range []int{math.MinInt, -1 << 32, -n, -2, -1, n + 1, n + 2, 2 * n, 1 << 32, math.MaxInt} {
		checkRefused(t, l, at, 0, api.ErrForm)
	}
	checkRefused(t, l, n, n, api.ErrForm)
	// Where no program begins it is the first word that can't be one's.
	for at := 1; at < n; at++ {
		checkRefused(t, l, at, at, api.ErrForm)
	}
	// Behind what a slice has there may be more, but that is none of its words.
	checkRefused(t, l[:3], n, 0, api.ErrForm)
	checkRefused(t, l[:3], 3, 3, api.ErrForm)
}

// In the midst of other words, of whatever kinds, nothing but its own words counts; places are those of the whole list.
func TestParseInTheMidst(t *testing.T) {
	others := []string{"", "x", "prog", "prog {", "forever", "{", "}", "; }", "1 2 3", ". =", "cores 2; grain 1;", "exit;", "prog { exit; }", "prog { lock 0 8"}
	for _, s := range []string{"prog { exit; }", "prog forever { lock 0; compute 2; unlock 0; }", whole()} {
		own := scanned(t, s)
		want := plainProg(own)
		for _, ahead := range others {
			for _, behind := range others {
				at := len(scanned(t, ahead))
				l := scanned(t, ahead+" "+s+" "+behind)
				checkParse(t, l, at, want, at+len(own), api.OK)
			}
		}
	}
}

func TestParseOfSeveral(t *testing.T) {
	l := scanned(t, "prog { exit; } prog forever { lock 1; sleep 2; } prog { }")
	checkParse(t, l, 0, api.Prog{Ops: []api.Op{{Kind: api.OpExit}}}, 5, api.OK)
	checkParse(t, l, 5, api.Prog{Forever: true, Ops: []api.Op{{Kind: api.OpLock, A: 1}, {Kind: api.OpSleep, A: 2}}}, 15, api.OK)
	checkRefused(t, l, 15, 17, api.ErrNone)
}

func TestParseRefuses(t *testing.T) {
	for _, c := range []struct {
		s     string
		place int
		why   api.Errno
	}{
		{"", 0, api.ErrForm}, {"x", 0, api.ErrForm}, {"1", 0, api.ErrForm}, {";", 0, api.ErrForm}, {"exit;", 0, api.ErrForm},
		{"forever { exit; }", 0, api.ErrForm}, {"{ exit; }", 0, api.ErrForm}, {"programs { exit; }", 0, api.ErrForm}, {"pro { exit; }", 0, api.ErrForm},
		{"prog", 1, api.ErrForm}, {"prog prog { exit; }", 1, api.ErrForm}, {"prog 1 { exit; }", 1, api.ErrForm}, {"prog } exit; }", 1, api.ErrForm},
		{"prog exit; }", 1, api.ErrForm}, {"prog ; { exit; }", 1, api.ErrForm}, {"prog ever { exit; }", 1, api.ErrForm},
		{"prog forever", 2, api.ErrForm}, {"prog forever forever { exit; }", 2, api.ErrForm}, {"prog forever }", 2, api.ErrForm},
		{"prog forever exit; }", 2, api.ErrForm}, {"prog forever prog {", 2, api.ErrForm}, {"prog forever 1 {", 2, api.ErrForm},
		{"prog { }", 2, api.ErrNone}, {"prog forever { }", 3, api.ErrNone}, {"prog { } }", 2, api.ErrNone}, {"prog { } exit; }", 2, api.ErrNone},
		{"prog {", 2, api.ErrForm}, {"prog { { exit; }", 2, api.ErrForm}, {"prog { ; }", 2, api.ErrForm}, {"prog { 1; }", 2, api.ErrForm},
		{"prog { forever exit; }", 2, api.ErrForm}, {"prog { prog", 2, api.ErrForm}, {"prog { run; }", 2, api.ErrForm}, {"prog { . }", 2, api.ErrForm},
		{"prog { exit; ; }", 4, api.ErrForm}, {"prog { exit; { }", 4, api.ErrForm}, {"prog { exit; 1 }", 4, api.ErrForm}, {"prog { exit; forever }", 4, api.ErrForm},
		{"prog { exit; exits; }", 4, api.ErrForm}, {"prog { exit; = }", 4, api.ErrForm}, {"prog { exit; prog { exit; } }", 4, api.ErrForm},
		// Too few numbers, and too many.
		{"prog { compute; }", 3, api.ErrForm}, {"prog { compute }", 3, api.ErrForm}, {"prog { compute", 3, api.ErrForm}, {"prog { compute compute 1; }", 3, api.ErrForm},
		{"prog { compute 1 1; }", 4, api.ErrForm}, {"prog { lock 1 0; }", 4, api.ErrForm}, {"prog { timed; }", 3, api.ErrForm}, {"prog { timed 1; }", 4, api.ErrForm},
		{"prog { timed 1 x; }", 4, api.ErrForm}, {"prog { timed 1 }", 4, api.ErrForm}, {"prog { timed 1", 4, api.ErrForm}, {"prog { timed 1 1 1; }", 5, api.ErrForm},
		{"prog { yield 0; }", 3, api.ErrForm}, {"prog { yield 1; }", 3, api.ErrForm}, {"prog { exit 0; }", 3, api.ErrForm}, {"prog { exit exit; }", 3, api.ErrForm},
		// No ; behind an op.
		{"prog { exit }", 3, api.ErrForm}, {"prog { exit . }", 3, api.ErrForm}, {"prog { exit", 3, api.ErrForm}, {"prog { compute 1 }", 4, api.ErrForm},
		{"prog { compute 1. }", 4, api.ErrForm}, {"prog { compute 1 exit; }", 4, api.ErrForm}, {"prog { timed 1 1 }", 5, api.ErrForm}, {"prog { timed 1 1 exit; }", 5, api.ErrForm},
		// What is met first is told.
		{"prog { compute 0 }", 3, api.ErrArg}, {"prog { compute 17 17 }", 3, api.ErrArg}, {"prog { compute 0", 3, api.ErrArg}, {"prog { timed 8 x", 3, api.ErrArg},
		{"prog { timed 0 65 65", 4, api.ErrArg}, {"prog { timed x 0; }", 3, api.ErrForm}, {"prog { compute 1 17; }", 4, api.ErrForm}, {"prog { yield 99; }", 3, api.ErrForm},
		{"prog { exit compute 0; }", 3, api.ErrForm}, {"prog { exit; x compute 0; }", 4, api.ErrForm}, {"prog { lock 8; lock 9; x }", 3, api.ErrArg}, {"prog { exit; lock 8; }", 5, api.ErrArg},
		{"x { }", 0, api.ErrForm}, {"prog x { }", 1, api.ErrForm}, {"prog forever x }", 2, api.ErrForm}, {"prog { x }", 2, api.ErrForm}, {"prog { } x", 2, api.ErrNone},
		{"prog { compute 0; }", 3, api.ErrArg}, {"prog forever { compute 0; }", 4, api.ErrArg}, {"prog { lock 999999999; }", 3, api.ErrArg},
	} {
		l := scanned(t, c.s)
		checkRefused(t, l, 0, c.place, c.why)
		// From a later place on it is the same, so much further.
		checkRefused(t, slices.Concat(scanned(t, "} ; prog {"), l), 4, c.place+4, c.why)
	}
}

// Each word of a program that is changed for another one, or left out, or stands twice.
func TestParseOfAnotherWord(t *testing.T) {
	others := []api.Word{{}, name("x"), name("prog"), name("forever"), mark("{"), mark("}"), mark(";"), mark("."), mark("=")}
	for _, a := range asks() {
		others = append(others, name(a.name))
	}
	for _, n := range []int{-1, 0, 1, 7, 8, 16, 17, 64, 65, 999999999} {
		others = append(others, num(n))
	}
	seen := map[api.Errno]int{}
	for _, s := range []string{whole(), "prog { exit; }", "prog { timed 0 1; }", "prog { lock 7; sleep 64; unlock 7; }"} {
		l := scanned(t, s)
		for i := range l {
			for _, w := range others {
				changed := slices.Clone(l)
				changed[i] = w
				seen[checkPlain(t, changed, 0)]++
				seen[checkPlain(t, slices.Insert(slices.Clone(l), i, w), 0)]++
			}
			seen[checkPlain(t, slices.Delete(slices.Clone(l), i, i+1), 0)]++
		}
	}
	for _, err := range []api.Errno{api.OK, api.ErrForm, api.ErrArg, api.ErrNone, api.ErrLong} {
		if seen[err] == 0 {
			t.Errorf("%d never came: %v", err, seen)
		}
	}
}

// broken are words that are nearly w, but that none are, as they have fields which a word of their kind has not, or are of another kind.
func broken(w api.Word) []api.Word {
	var l []api.Word
	for _, kind := range []int{math.MinInt, -1, 0, 1, 2, 3, 4, 1<<32 + 1, 1<<32 + 2, 1<<32 + 3, math.MaxInt} {
		if kind != w.Kind {
			l = append(l, api.Word{Kind: kind, Text: w.Text, N: w.N})
		}
	}
	if w.Kind == api.WordNum {
		for _, text := range []string{"0", strconv.Itoa(w.N), "x", ";", " ", "\x00"} {
			l = append(l, api.Word{Kind: w.Kind, Text: text, N: w.N})
		}
		return l
	}
	for _, n := range []int{math.MinInt, -1, 1, 2, 7, math.MaxInt} {
		l = append(l, api.Word{Kind: w.Kind, Text: w.Text, N: n})
	}
	for _, text := range []string{"", w.Text + " ", " " + w.Text, w.Text + w.Text, w.Text + "\x00", strings.ToUpper("a" + w.Text), "\u00e4"} {
		l = append(l, api.Word{Kind: w.Kind, Text: text})
	}
	return l
}

func TestParseOfBrokenWords(t *testing.T) {
	for _, s := range []string{whole(), "prog { exit; }", "prog { " + strings.Repeat("timed 3 9;", 12) + " }"} {
		l := scanned(t, s)
		for i, w := range l {
			for _, b := range broken(w) {
				changed := slices.Clone(l)
				b.At = w.At
				changed[i] = b
				checkRefused(t, changed, 0, i, api.ErrForm)
			}
		}
	}
	// A number that may not be, with a Text beside it, is no number.
	checkRefused(t, []api.Word{name("prog"), mark("{"), name("compute"), {Kind: api.WordNum, Text: "17", N: 17}}, 0, 3, api.ErrForm)
	checkRefused(t, []api.Word{name("prog"), mark("{"), name("lock"), {Kind: api.WordNum, Text: "x", N: -1}}, 0, 3, api.ErrForm)
	// No op begins with these at a 13th one's place, nor is the } there without ops.
	full := scanned(t, "prog { "+strings.Repeat("exit;", 12))
	for _, b := range broken(name("exit")) {
		checkRefused(t, append(slices.Clone(full), b, mark(";"), mark("}")), 0, len(full), api.ErrForm)
	}
	for _, b := range broken(mark("}")) {
		checkRefused(t, []api.Word{name("prog"), mark("{"), b}, 0, 2, api.ErrForm)
	}
}

// Where words stand in a text counts nothing.
func TestParseOfAnyPlaces(t *testing.T) {
	l := scanned(t, whole())
	want := plainProg(l)
	for _, at := range []int{math.MinInt, -1, 0, 1, 7999, 8000, math.MaxInt} {
		for i := range l {
			l[i].At = at
		}
		checkParse(t, l, 0, want, len(l), api.OK)
		checkRefused(t, l, 1, 1, api.ErrForm)
	}
}

func TestParseAnswersAnew(t *testing.T) {
	l := scanned(t, whole())
	first, _, _ := prog.Parse(l, 0)
	second, _, _ := prog.Parse(l, 0)
	want := plainProg(l)
	for i := range first.Ops {
		first.Ops[i] = api.Op{}
	}
	first.Ops = append(first.Ops[:3], api.Op{Kind: 99})
	if !plainSame(second, want) {
		t.Errorf("one answer hangs on another: %v; want %v", second, want)
	}
	checkParse(t, l, 0, want, len(l), api.OK)
	for i := range l {
		l[i] = api.Word{}
	}
	if !plainSame(second, want) {
		t.Errorf("an answer hangs on the words: %v; want %v", second, want)
	}
}
