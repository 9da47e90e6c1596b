package acts_test

import (
	"math"
	"slices"
	"strconv"
	"strings"
	"testing"

	"forelock/acts"
	"forelock/api"
)

func TestExample(t *testing.T) {
	want := []api.Act{{Kind: api.ActTick}, {Kind: api.ActFire}}
	checkParse(t, scanned(t, "tick 0; fire;"), 0, want, 5, api.OK)
	checkWhy(t, want, api.OK)
}

func TestParseOfEachKind(t *testing.T) {
	for _, c := range []struct {
		s    string
		want api.Act
	}{
		{"tick 3;", api.Act{Kind: api.ActTick, A: 3}},
		{"fire;", api.Act{Kind: api.ActFire}},
		{"balance;", api.Act{Kind: api.ActBalance}},
		{"spawn 4 5 6 7;", api.Act{Kind: api.ActSpawn, A: 4, B: 5, C: 6, D: 7}},
		{"kill 8;", api.Act{Kind: api.ActKill, A: 8}},
		{"group 9 10;", api.Act{Kind: api.ActGroup, A: 9, B: 10}},
		{"move 11 12;", api.Act{Kind: api.ActMove, A: 11, B: 12}},
		{"round 13;", api.Act{Kind: api.ActRound, A: 13}},
	} {
		for n := 1; n <= 20; n++ {
			l := scanned(t, strings.Repeat(c.s, n))
			checkParse(t, l, 0, slices.Repeat([]api.Act{c.want}, n), len(l), api.OK)
		}
		checkWhy(t, []api.Act{c.want}, api.OK)
	}
}

// Each number goes to the place where it stands, in the order in which they stand.
func TestParseOfWhole(t *testing.T) {
	want := []api.Act{
		{Kind: 1, A: 3}, {Kind: 2}, {Kind: 3}, {Kind: 4, B: 1, C: 2, D: 3}, {Kind: 5, A: 9},
		{Kind: 6, B: 16}, {Kind: 7, A: 5, B: 1}, {Kind: 8, A: 200}, {Kind: 1},
	}
	l := scanned(t, whole())
	checkParse(t, l, 0, want, len(l), api.OK)
	checkWhy(t, want, api.OK)
	if text, err := acts.Print(want); text != whole() || err != api.OK {
		t.Errorf("Print: %q, %d", text, err)
	}
}

func TestParseOfEachTwoKinds(t *testing.T) {
	for _, a := range edges() {
		for _, b := range edges() {
			l := plainWords([]api.Act{a, b})
			checkParse(t, l, 0, []api.Act{a, b}, len(l), api.OK)
		}
	}
}

// Each number of each kind, at its edges and beside them; one that no number of a script can be is what it can't go on with, whatever follows.
func TestParseOfNumbers(t *testing.T) {
	for _, a := range asks() {
		for i := range a.numbers {
			for _, n := range append(outside(), 0, 1, 2, 9, 10, 99999999, 100000000, 999999998, 999999999) {
				numbers := slices.Repeat([]int{7}, a.numbers)
				numbers[i] = n
				l := append(scanned(t, "fire;"), name(a.name))
				for _, n := range numbers {
					l = append(l, num(n))
				}
				l = append(l, mark(";"), name("balance"), mark(";"))
				if n >= 0 && n <= 999999999 {
					checkParse(t, l, 0, []api.Act{{Kind: api.ActFire}, act(a.kind, numbers...), {Kind: api.ActBalance}}, len(l), api.OK)
					continue
				}
				checkRefused(t, l, 0, 3+i, api.ErrForm)
				checkRefused(t, l[:4+i], 0, 3+i, api.ErrForm)
				checkRefused(t, append(l[:4+i:4+i], num(-1), name("x")), 0, 3+i, api.ErrForm)
			}
		}
	}
}

// Of each kind with fewer numbers than it has, and with more.
func TestParseOfHowManyNumbers(t *testing.T) {
	for _, a := range asks() {
		for n := range 8 {
			for _, end := range []string{";", "", " fire;", " tick 1;", ".", "}", "{", "=", "; fire;"} {
				s := a.name + strings.Repeat(" 1", n)
				l := scanned(t, "kill 1; "+s+end)
				switch {
				case n != a.numbers:
					checkRefused(t, l, 0, 4+min(n, a.numbers), api.ErrForm)
				case end == ";":
					checkParse(t, l, 0, []api.Act{{Kind: api.ActKill, A: 1}, act(a.kind, slices.Repeat([]int{1}, n)...)}, len(l), api.OK)
				case end == "; fire;":
					checkParse(t, l, 0, []api.Act{{Kind: api.ActKill, A: 1}, act(a.kind, slices.Repeat([]int{1}, n)...), {Kind: api.ActFire}}, len(l), api.OK)
				default:
					checkRefused(t, l, 0, 4+n, api.ErrForm)
				}
			}
		}
	}
}

func TestParseOfNoWords(t *testing.T) {
	for _, l := range [][]api.Word{nil, {}, make([]api.Word, 0, 10)} {
		checkParse(t, l, 0, nil, 0, api.OK)
		for _, at := range []int{math.MinInt, -2, -1, 1, 2, 1 << 32, math.MaxInt} {
			checkRefused(t, l, at, 0, api.ErrForm)
		}
	}
}

func TestParseAt(t *testing.T) {
	l := scanned(t, whole())
	n := len(l)
	for _, at := range []int{math.MinInt, -1 << 32, -n, -2, -1, n + 1, n + 2, 2 * n, 1 << 32, math.MaxInt} {
		checkRefused(t, l, at, 0, api.ErrForm)
	}
	checkParse(t, l, n, nil, n, api.OK)
	// From the first word of an act on there are the acts behind; from one within on there are none.
	all, _, _ := plainParse(l, 0)
	begun := 0
	for at, w := range l {
		if _, kind := plainNumbers(w); kind == 0 {
			checkRefused(t, l, at, at, api.ErrForm)
			continue
		}
		checkParse(t, l, at, all[begun:], n, api.OK)
		begun++
	}
	if begun != len(all) {
		t.Errorf("%d acts began; want %d", begun, len(all))
	}
	// Behind what a slice has there may be more, but that is none of its words.
	checkParse(t, l[:3], 0, all[:1], 3, api.OK)
	checkParse(t, l[:3], 3, nil, 3, api.OK)
	checkRefused(t, l[:3], 5, 0, api.ErrForm)
	checkRefused(t, l[:2], 0, 2, api.ErrForm)
}

// Words ahead of that place count nothing, whatever they are; places are those of the whole list.
func TestParseBehindOthers(t *testing.T) {
	want, _, _ := plainParse(scanned(t, whole()), 0)
	for _, s := range []string{"x", "tick", "tick 1", "fire", ";", "; ;", "1 2 3", "{ } . =", "cores 1; grain 1; group 1; prog { exit; }", "fire; fire;", strings.Repeat("fire; ", 1000)} {
		ahead := scanned(t, s)
		at := len(ahead)
		l := slices.Concat(ahead, scanned(t, whole()))
		checkParse(t, l, at, want, len(l), api.OK)
		checkParse(t, ahead, at, nil, at, api.OK)
		checkRefused(t, append(l, mark(";")), at, len(l), api.ErrForm)
		checkRefused(t, l[:len(l)-1], at, len(l)-1, api.ErrForm)
	}
}

// Where words end too early; where an act ends they may end.
func TestParseOfWordsThatEnd(t *testing.T) {
	for _, s := range []string{whole(), "spawn 1 2 3 4;", "fire;", "tick 1; round 2; group 3 4;"} {
		l := scanned(t, s)
		for n := range l {
			if n == 0 || l[n-1].Kind == 3 {
				checkPlain(t, l[:n], 0)
				want, _, _ := plainParse(l[:n], 0)
				checkParse(t, slices.Clone(l[:n:n]), 0, want, n, api.OK)
				continue
			}
			checkRefused(t, l[:n], 0, n, api.ErrForm)
			checkRefused(t, slices.Clone(l)[:n:n], 0, n, api.ErrForm)
			// From a later place on, and with more words behind the end of the slice.
			later := slices.Concat([]api.Word{num(7), mark("}")}, l[:n])
			checkRefused(t, later, 2, n+2, api.ErrForm)
		}
	}
}

func TestParseRefuses(t *testing.T) {
	for _, c := range []struct {
		s     string
		place int
	}{
		{"x", 0}, {"1", 0}, {";", 0}, {"{", 0}, {"}", 0}, {".", 0}, {"=", 0}, {"0;", 0}, {"run;", 0}, {"act;", 0}, {"x 1;", 0}, {"; fire;", 0}, {"{ fire; }", 0},
		// Names that are nearly those of acts, and those that begin what else a script has.
		{"ticks 1;", 0}, {"tic 1;", 0}, {"fires;", 0}, {"fir e;", 0}, {"balanc;", 0}, {"balances;", 0}, {"spaw 1 1 1 1;", 0}, {"spawns 1 1 1 1;", 0}, {"kil 1;", 0}, {"kills 1;", 0},
		{"groups 1 1;", 0}, {"moves 1 1;", 0}, {"mov 1 1;", 0}, {"rounds 1;", 0}, {"roun d 1;", 0}, {"cores 1;", 0}, {"grain 1;", 0}, {"lock 1;", 0}, {"prog { exit; }", 0},
		{"compute 1;", 0}, {"sleep 1;", 0}, {"yield;", 0}, {"exit;", 0}, {"weight 1;", 0}, {"unlock 0;", 0},
		{"tick", 1}, {"tick;", 1}, {"tick x;", 1}, {"tick tick 1;", 1}, {"tick .", 1}, {"tick 1", 2}, {"tick 1 1;", 2}, {"tick 1 x;", 2}, {"tick 1 tick 1;", 2}, {"tick 1.", 2}, {"tick 1}", 2},
		{"fire", 1}, {"fire 0;", 1}, {"fire 1;", 1}, {"fire fire;", 1}, {"fire .", 1}, {"fire }", 1}, {"balance", 1}, {"balance 0;", 1}, {"balance x;", 1},
		{"spawn", 1}, {"spawn;", 1}, {"spawn x;", 1}, {"spawn 1", 2}, {"spawn 1;", 2}, {"spawn 1 x;", 2}, {"spawn 1 2", 3}, {"spawn 1 2;", 3}, {"spawn 1 2 3", 4}, {"spawn 1 2 3;", 4},
		{"spawn 1 2 3 4", 5}, {"spawn 1 2 3 4 5;", 5}, {"spawn 1 2 3 4 x", 5}, {"spawn 1 2 3 4=", 5},
		{"kill", 1}, {"kill;", 1}, {"kill 1", 2}, {"kill 1 2;", 2}, {"group", 1}, {"group;", 1}, {"group 1", 2}, {"group 1;", 2}, {"group 1 2", 3}, {"group 1 2 3;", 3},
		{"move", 1}, {"move;", 1}, {"move 1;", 2}, {"move 1 2", 3}, {"move 1 2 3;", 3}, {"round", 1}, {"round;", 1}, {"round 1", 2}, {"round 1 2;", 2},
		// Behind acts: none of these is told.
		{"fire; ;", 2}, {"fire; 3", 2}, {"fire; x", 2}, {"fire; }", 2}, {"fire; fire", 3}, {"fire; tick;", 3}, {"tick 1; tick;", 4}, {"fire; balance; fire 1;", 5}, {"fire;;", 2},
		{"fire; prog { exit; }", 2}, {"fire; forelock;", 2}, {"spawn 1 2 3 4; spawn 1 2 3;", 10},
		// What is met first is told, even where what follows can't be either.
		{"fire x; y", 1}, {"tick x x", 1}, {"x x", 0}, {"fire; x tick;", 2}, {"group 1; tick;", 2}, {"move x; x", 1},
	} {
		l := scanned(t, c.s)
		checkRefused(t, l, 0, c.place, api.ErrForm)
		// From a later place on it is the same, so much further.
		checkRefused(t, slices.Concat(scanned(t, "} ; prog {"), l), 4, c.place+4, api.ErrForm)
		checkRefused(t, slices.Concat(scanned(t, "fire; tick 1;"), l), 0, c.place+5, api.ErrForm)
	}
}

// Each word of acts that is changed for another one, or left out, or stands twice, or has another one ahead.
func TestParseOfAnotherWord(t *testing.T) {
	others := []api.Word{{}, name("x"), name("prog"), name("lock"), mark("{"), mark("}"), mark(";"), mark("."), mark("=")}
	for _, a := range asks() {
		others = append(others, name(a.name))
	}
	for _, n := range []int{-1, 0, 1, 16, 999999999, 1000000000, math.MinInt, math.MaxInt} {
		others = append(others, num(n))
	}
	seen := map[api.Errno]int{}
	for _, s := range []string{whole(), "fire;", "spawn 1 2 3 4; spawn 1 2 3 4;", "group 1 2; kill 3; balance;", "tick 1; round 2; move 3 4; fire;"} {
		l := scanned(t, s)
		for i := range l {
			for _, w := range append(others, l[i]) {
				changed := slices.Clone(l)
				changed[i] = w
				seen[checkPlain(t, changed, 0)]++
				seen[checkPlain(t, slices.Insert(slices.Clone(l), i, w), 0)]++
			}
			seen[checkPlain(t, slices.Delete(slices.Clone(l), i, i+1), 0)]++
		}
	}
	if seen[api.OK] < 50 || seen[api.ErrForm] < 500 || len(seen) != 2 {
		t.Errorf("how often which answer came: %v", seen)
	}
}

// broken are words that are nearly w, but that none are, as they have fields which a word of their kind has not, or are of another kind.
func broken(w api.Word) []api.Word {
	var l []api.Word
	for _, kind := range []int{math.MinInt, -1, 0, 1, 2, 3, 4, 1<<32 + 1, 1<<32 + 2, 1<<32 + 3, math.MaxInt} {
		if kind != w.Kind {
			l = append(l, api.Word{Kind: kind, Text: w.Text, N: w.N})
		}
	}
	if w.Kind == api.WordNum {
		for _, text := range []string{"0", strconv.Itoa(w.N), "x", ";", " ", "\x00"} {
			l = append(l, api.Word{Kind: w.Kind, Text: text, N: w.N})
		}
		for _, n := range outside() {
			l = append(l, api.Word{Kind: w.Kind, N: n}, api.Word{Kind: w.Kind, Text: "x", N: n})
		}
		return l
	}
	for _, n := range []int{math.MinInt, -1, 1, 2, 7, math.MaxInt} {
		l = append(l, api.Word{Kind: w.Kind, Text: w.Text, N: n})
	}
	for _, text := range []string{"", w.Text + " ", " " + w.Text, w.Text + w.Text, w.Text + "\x00", strings.ToUpper("a" + w.Text), "\u00e4"} {
		l = append(l, api.Word{Kind: w.Kind, Text: text})
	}
	return l
}

func TestParseOfBrokenWords(t *testing.T) {
	for _, s := range []string{whole(), "fire;", "spawn 3 9 0 1; move 7 7;"} {
		l := scanned(t, s)
		for i, w := range l {
			for _, b := range broken(w) {
				changed := slices.Clone(l)
				b.At = w.At
				changed[i] = b
				checkRefused(t, changed, 0, i, api.ErrForm)
				checkRefused(t, changed[:i+1], 0, i, api.ErrForm)
			}
		}
		// A word of no kind at the end isn't the end.
		checkRefused(t, append(slices.Clone(l), api.Word{}), 0, len(l), api.ErrForm)
		checkRefused(t, []api.Word{{}}, 0, 0, api.ErrForm)
		checkRefused(t, append(slices.Clone(l), api.Word{}), len(l), len(l), api.ErrForm)
	}
}

// Where words stand in a text counts nothing.
func TestParseOfAnyPlaces(t *testing.T) {
	l := scanned(t, whole())
	want, _, _ := plainParse(l, 0)
	for _, at := range []int{math.MinInt, -1, 0, 1, 7999, 8000, math.MaxInt} {
		for i := range l {
			l[i].At = at
		}
		checkParse(t, l, 0, want, len(l), api.OK)
		checkRefused(t, l, 1, 1, api.ErrForm)
	}
}

func TestParseAnswersAnew(t *testing.T) {
	l := scanned(t, whole())
	want, _, _ := plainParse(l, 0)
	first, _, _ := acts.Parse(l, 0)
	second, _, _ := acts.Parse(l, 0)
	for i := range first {
		first[i] = api.Act{Kind: 99}
	}
	_ = append(first[:3], api.Act{Kind: 98})
	if !slices.Equal(second, want) {
		t.Errorf("one answer hangs on another: %s", toldActs(second))
	}
	checkParse(t, l, 0, want, len(l), api.OK)
	for i := range l {
		l[i] = api.Word{}
	}
	if !slices.Equal(second, want) {
		t.Errorf("the answer hangs on the words: %s", toldActs(second))
	}
}

// many are the words of n acts, and these: of one kind, or of all in turn.
func many(a api.Act, n int) ([]api.Word, []api.Act) {
	l := slices.Repeat([]api.Act{a}, n)
	if a.Kind == 0 {
		for i := range l {
			l[i] = edges()[i*7%len(edges())]
		}
	}
	return plainWords(l), l
}

func TestParseOfHowManyActs(t *testing.T) {
	for _, a := range []api.Act{{}, {Kind: api.ActFire}, {Kind: api.ActRound, A: 5}, {Kind: api.ActSpawn, A: 1, B: 2, C: 3, D: 4}} {
		longest, all := many(a, 9000)
		for _, n := range []int{0, 1, 2, 3999, 4000, 4001, 4002, 8000, 9000} {
			end := len(plainWords(all[:n]))
			l := longest[:end]
			if n <= 4000 {
				checkParse(t, l, 0, all[:n], end, api.OK)
			} else {
				checkRefused(t, l, 0, len(plainWords(all[:4000])), api.ErrLong)
			}
		}
		// They are counted from that place on, where Parse begins.
		begin := len(plainWords(all[:300]))
		most := longest[:len(plainWords(all[:4300]))]
		checkParse(t, most, begin, all[300:4300], len(most), api.OK)
		more := longest[:len(plainWords(all[:4301]))]
		checkRefused(t, more, begin, len(most), api.ErrLong)
		checkRefused(t, more, 0, len(plainWords(all[:4000])), api.ErrLong)
	}
}

// A 4001st act is told at its first word, whatever stands behind that; a word there that begins none is what it can't go on with.
func TestParseOfA4001stAct(t *testing.T) {
	full, all := many(api.Act{Kind: api.ActBalance}, 4000)
	n := len(full)
	for _, a := range asks() {
		for _, rest := range []string{"", ";", " 1;", " 1 1;", " 1 1 1 1;", " 1 1 1 1 1;", " 0", " x", " }", " {", ";;", "; x", "; 1", ";" + a.name + ";"} {
			checkRefused(t, slices.Concat(full, scanned(t, a.name+rest)), 0, n, api.ErrLong)
		}
		for _, w := range append(broken(num(1)), broken(mark(";"))...) {
			checkRefused(t, append(full[:n:n], name(a.name), w), 0, n, api.ErrLong)
		}
		for _, w := range broken(name(a.name)) {
			checkRefused(t, append(full[:n:n], w, mark(";")), 0, n, api.ErrForm)
		}
	}
	for _, s := range []string{"x", "x;", "prog", "run;", "0", "1;", ";", "; fire;", "{", "}", ".", "=", "fires;", "fir e;", "xfire;"} {
		checkRefused(t, slices.Concat(full, scanned(t, s)), 0, n, api.ErrForm)
	}
	checkRefused(t, append(full[:n:n], api.Word{}), 0, n, api.ErrForm)
	checkParse(t, full, 0, all, n, api.OK)
	checkParse(t, full, n, nil, n, api.OK)
}

// What can't be within the 4000 is met ahead of a 4001st one.
func TestParseOfMoreThan4000ActsOfWhichOneIsWrong(t *testing.T) {
	for _, kind := range []int{0, api.ActFire, api.ActSpawn} {
		full, _ := many(api.Act{Kind: kind}, 4000)
		n := len(full)
		checkRefused(t, append(full[:n-1:n-1], mark("."), name("fire"), mark(";")), 0, n-1, api.ErrForm)
		checkRefused(t, append(full[:n-1:n-1], name("fire"), mark(";")), 0, n-1, api.ErrForm)
		for _, at := range []int{0, n / 2, n - 1} {
			wrong := slices.Concat(full, scanned(t, "fire; fire;"))
			wrong[at] = name("x")
			checkRefused(t, wrong, 0, at, api.ErrForm)
		}
	}
}
