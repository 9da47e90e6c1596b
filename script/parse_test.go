package script_test

import (
	"strconv"
	"strings"
	"testing"

	"forelock/api"
	"forelock/script"
)

func TestExample(t *testing.T) {
	const s = "cores 1; grain 1; group 1; prog { exit; } spawn 0 0 1 0; tick 0;"
	x := api.Script{Setup: leastSetup(), Acts: []api.Act{{Kind: api.ActSpawn, C: 1}, {Kind: api.ActTick}}}
	checkParse(t, s, x, 0, api.OK)
	checkMay(t, x)
	if text, err := script.Print(x); text != s || err != api.OK {
		t.Errorf("Print: %q, %d", text, err)
	}
}

// Each number goes to the field of its name.
func TestParseOfWhole(t *testing.T) {
	checkParse(t, whole(), wholeScript(), 0, api.OK)
	checkMay(t, wholeScript())
	if text, err := script.Print(wholeScript()); text != whole() || err != api.OK {
		t.Errorf("Print: %q, %d", text, err)
	}
}

// A setup alone is a script: one without acts.
func TestParseOfNoActs(t *testing.T) {
	for _, s := range []string{least(), wholeSetup(), fullSetup()} {
		for _, text := range []string{s, strings.TrimSpace(s), s + "# tick 0;", s + "\n\t#\n"} {
			x := parsed(t, text)
			if len(x.Acts) != 0 {
				t.Errorf("acts of %q: %v", text, x.Acts)
			}
			checkMay(t, x)
		}
	}
	checkParse(t, least(), api.Script{Setup: leastSetup()}, 0, api.OK)
}

// The words of acts begin where those of the setup end, also where a setup and acts have words alike.
func TestParseOfGroupActs(t *testing.T) {
	want := api.Script{Setup: leastSetup(), Acts: []api.Act{{Kind: api.ActGroup, B: 1}, {Kind: api.ActGroup, A: 1, B: 2}}}
	checkParse(t, "cores 1; grain 1; group 1; prog { exit; } group 0 1; group 1 2;", want, 0, api.OK)
	want = api.Script{Setup: leastSetup(), Acts: []api.Act{{Kind: api.ActSpawn}}}
	want.Setup.Progs = []api.Prog{{Ops: []api.Op{{Kind: api.OpSpawn}}}}
	checkParse(t, "cores 1; grain 1; group 1; prog { spawn 0; } spawn 0 0 0 0;", want, 0, api.OK)
	marked(t, "cores 1; grain 1; group 1; group ^0 1; prog { exit; }", api.ErrArg)
	marked(t, "cores 1; grain 1; group 1; prog { exit; } group 1^;", api.ErrForm)
}

// What parts words counts nothing.
func TestParseOfAnyGaps(t *testing.T) {
	words := strings.Fields(strings.NewReplacer(";", " ;", "{", " { ", "}", " } ").Replace(whole()))
	for _, gap := range []string{" ", "\n", "\t", " \t\n ", "#\n", "# cores 9; ,\n", "\n# prog {\n# tick 1\n", " ## #\n\t"} {
		checkParse(t, strings.Join(words, gap), wholeScript(), 0, api.OK)
		checkParse(t, gap+strings.Join(words, gap)+gap, wholeScript(), 0, api.OK)
		checkParse(t, whole()+gap+"# and no more", wholeScript(), 0, api.OK)
	}
	checkParse(t, "cores 1;grain 1;group 1;prog{exit;}spawn 0 0 1 0;tick 0;", api.Script{Setup: leastSetup(), Acts: []api.Act{{Kind: api.ActSpawn, C: 1}, {Kind: api.ActTick}}}, 0, api.OK)
}

// Where there are no words at all it is the end that can't be gone on with.
func TestParseOfNothing(t *testing.T) {
	for _, s := range []string{
		"", " ", "\t", "\n", "  \n\t \n", "#", "# x", "#\n", "# cores 1;\n", " # x\n # , \xff\n\n", "#######", "\n\n\n#",
		strings.Repeat(" ", 7999), strings.Repeat("\n", 8000), "#" + strings.Repeat("x", 7999), strings.Repeat("#\n", 4000), strings.Repeat("#", 8000),
	} {
		checkRefused(t, s, len(s), api.ErrForm)
	}
}

// variants are a text whose blanks are other ones, perhaps with some ahead of all, and behind all; each with what stands behind all.
func variants(s string) map[string]string {
	l := map[string]string{}
	for _, ahead := range []string{"", " ", "\n \t", "# tick 0; , \xff\n", " #\n # cores 1;\n"} {
		for _, gap := range []string{" ", "\t\n", " # ; }\n "} {
			for _, behind := range []string{"", " ", "\n\n", "# fire; }", " # ; , \x00\n\t "} {
				l[ahead+strings.ReplaceAll(s, " ", gap)+behind] = behind
			}
		}
	}
	return l
}

// marked holds Parse of a text that is refused, and of its variants, against the place where a ^ stands. One at the end tells that there is no word any more: that is told of the end, with all that stands behind.
func marked(t *testing.T, s string, why api.Errno) {
	t.Helper()
	for v, behind := range variants(s) {
		place := strings.IndexByte(v, '^')
		text := v[:place] + v[place+1:]
		if text[place:] == behind {
			place = len(text)
		}
		checkRefused(t, text, place, why)
		if t.Failed() {
			t.Fatalf("it was %q", s)
		}
	}
}

func TestParseOfAWrongSetup(t *testing.T) {
	for _, c := range []struct {
		s   string
		why api.Errno
	}{
		{"^", api.ErrForm}, {"^x", api.ErrForm}, {"^1", api.ErrForm}, {"^;", api.ErrForm}, {"^}", api.ErrForm}, {"^=", api.ErrForm}, {"^tick 0;", api.ErrForm}, {"^prog { exit; }", api.ErrForm},
		{"^core 1;", api.ErrForm}, {"cores^", api.ErrForm}, {"cores ^;", api.ErrForm}, {"cores ^x;", api.ErrForm}, {"cores ^0;", api.ErrArg}, {"cores ^5;", api.ErrArg}, {"cores ^999999999", api.ErrArg},
		{"cores 1^", api.ErrForm}, {"cores 1 ^1;", api.ErrForm}, {"cores 1^. ;", api.ErrForm}, {"cores 1;^", api.ErrForm}, {"cores 1; ^x", api.ErrForm}, {"cores 1;^;", api.ErrForm}, {"cores 1; ^group 1;", api.ErrForm},
		{"cores 1; grain ^0;", api.ErrArg}, {"cores 1; grain ^9;", api.ErrArg}, {"cores 1; grain^;", api.ErrForm}, {"cores 1; grain 1;^", api.ErrForm}, {"cores 1; grain 1; ^prog { exit; }", api.ErrForm},
		{"cores 1; grain 1; group^", api.ErrForm}, {"cores 1; grain 1; group ^17; prog { exit; }", api.ErrArg}, {"cores 1; grain 1; group ^0; tick 0;", api.ErrArg}, {"cores 1; grain 1; group 1; ^tick 0;", api.ErrForm},
		{"cores 1; grain 1; group 1; group 1; group 1; group 1; ^group 1; prog { exit; }", api.ErrLong},
		{"cores 1; grain 1; group 1; lock slice ^0 crit 1;", api.ErrArg}, {"cores 1; grain 1; group 1; lock slice 1^; prog { exit; }", api.ErrForm}, {"cores 1; grain 1; group 1; shared slice 1 crit 1 read 1 write ^17;", api.ErrArg},
		{"cores 1; grain 1; group 1; lock slice 1 crit ^33; prog { exit; } tick 0;", api.ErrArg}, {"cores 1; grain 1; group 1; shared slice 1 crit 1^; prog { exit; } tick 0;", api.ErrForm},
		{"cores 1; grain 1; group 1; " + strings.Repeat("lock slice 1 crit 1; ", 8) + "^lock slice 1 crit 1; prog { exit; }", api.ErrLong},
		{"cores 1; grain 1; group 1; " + strings.Repeat("lock slice 1 crit 1; ", 8) + "^shared", api.ErrLong},
		{least() + "^lock slice 1 crit 1;", api.ErrForm},
		// Programs.
		{"cores 1; grain 1; group 1; prog^", api.ErrForm}, {"cores 1; grain 1; group 1; prog ^tick 0;", api.ErrForm}, {"cores 1; grain 1; group 1; prog { ^} tick 0;", api.ErrNone}, {"cores 1; grain 1; group 1; prog { exit; ^tick 0;", api.ErrForm},
		{"cores 1; grain 1; group 1; prog { compute ^0; } tick 0;", api.ErrArg}, {"cores 1; grain 1; group 1; prog { timed 0 ^65; }", api.ErrArg}, {"cores 1; grain 1; group 1; prog { exit ^}", api.ErrForm},
		{"cores 1; grain 1; group 1; prog { " + strings.Repeat("exit; ", 12) + "^exit; } tick 0;", api.ErrLong}, {least() + "prog { ^; }", api.ErrForm}, {least() + "prog { exit; ^;", api.ErrForm},
		{least() + strings.Repeat("prog { exit; } ", 7) + "^prog { exit; } tick 0;", api.ErrLong}, {least() + strings.Repeat("prog { exit; } ", 7) + "^prog tick", api.ErrLong},
		// Programs that don't fit, told behind what can't be gone on with within a setup, but ahead of what may be wrong of acts.
		{"cores 1; grain 1; group 1; ^prog { lock 0; compute 1; } tick 0;", api.ErrNone}, {"cores 1; grain 1; group 1; ^prog { spawn 1; } tick 0;", api.ErrNone}, {least() + "prog { yield; } ^prog { spawn 3; } ", api.ErrNone},
		{"cores 1; grain 1; group 1; lock slice 1 crit 1; prog { exit; } ^prog { read 0; compute 1; }", api.ErrArg}, {"cores 1; grain 1; group 1; lock slice 1 crit 1; ^prog { lock 0; compute 2; } prog { lock 0; }", api.ErrCrit},
		{least() + "^prog forever { unlock 0; } x", api.ErrNone}, {least() + "^prog forever { weight 1; } tick", api.ErrArg}, {least() + "^prog { lock 0; } tick 0", api.ErrNone}, {least() + "^prog { lock 0; } ;;;", api.ErrNone},
		{least() + "prog { lock 0; } prog { ^}", api.ErrNone}, {least() + "prog { lock 0; } prog { compute ^17; } tick", api.ErrArg}, {least() + "prog { lock 0; } prog^", api.ErrForm},
	} {
		marked(t, c.s, c.why)
	}
}

func TestParseOfWrongActs(t *testing.T) {
	for _, s := range []string{
		"^x", "^1", "^;", "^{ }", "^}", "^.", "^=", "^exit;", "^cores 1;", "^ticks 0;", "^compute 1;", "^forever", "^shared slice 1",
		"tick^", "tick ^;", "tick ^x;", "tick ^tick 0;", "tick 0^", "tick 0 ^1;", "tick 0 ^tick 0;", "tick 0^.", "fire^", "fire ^0;", "fire ^fire;", "balance^", "balance ^1;",
		"spawn^", "spawn ^;", "spawn 1^", "spawn 1^;", "spawn 1 2^;", "spawn 1 2 3^", "spawn 1 2 3^;", "spawn 1 2 3 4^", "spawn 1 2 3 4 ^5;", "spawn 1 2 ^x 4;", "kill^;", "kill 1 ^2;", "kill 1^",
		"group^;", "group 1^;", "group 1 2 ^3;", "group 1 2^", "move ^x;", "move 1^;", "move 1 2^}", "round^;", "round 1 ^2;", "round 5^",
		"fire;^;", "fire; ^x", "fire; ^prog { exit; }", "fire; balance; tick 0; ^stop;", "fire; tick^", "fire; tick^;", "fire; tick 1; spawn 1 2 ^;", "tick 0; ^} tick 0;", "tick 0; ^; x",
		// What is met first is told, even where what follows can't be either.
		"^x x", "tick ^x; y", "fire; ^0; tick", "fire ^x; tick;",
	} {
		for _, ahead := range []string{least(), wholeSetup(), least() + "prog { exit; } fire; ", wholeSetup() + "tick 0; move 1 2; "} {
			marked(t, ahead+s, api.ErrForm)
		}
	}
}

// refusedByScan are texts in which Scan can't go on, each with the place in it where that is; but the first byte of none goes on what stands ahead.
func refusedByScan() map[string]int {
	return map[string]int{
		",": 0, "A": 0, "-1": 0, "+": 0, "\x00": 0, "\xff": 0, "\r": 0, "\v": 0, "\u00e4": 0, "(": 0, "\"": 0, "/": 0, "*": 0, "^": 0, ":": 0, "_": 0,
		"abcdefghijklm": 0, "corescorescores;": 0, "1234567890": 0, "1000000000;": 0, "99999999999999999999": 0, "00": 0, "01": 0, "007;": 0,
		"x1": 1, "tick0;": 4, "1x": 1, "0x": 1, "cores1;": 5, "123456789a": 9, "abcdefghijkl1": 12, "x,": 1, "1,": 1, ";,": 1, "x ,": 2, ";\n\tA": 3, "# ,\n,": 4, "1 #\n #\n 01": 8,
	}
}

// What Scan says comes ahead of all else, be the text ahead a script, or the beginning of one, or wrong from its first word on.
func TestParseOfWhatScanRefuses(t *testing.T) {
	var aheads []string
	text := whole()
	for i, c := range []byte(text) {
		if c == ' ' {
			aheads = append(aheads, text[:i+1])
		}
	}
	aheads = append(aheads, "", " ", "# x\n", whole()+" ", whole()+"\n# ,\n", "x ", "cores 9; ", "; ", "cores 1; cores 1; ", least()+"stop; ", least()+"prog { lock 0; } ", least()+"tick; ", "cores 1; grain 1; group 1; prog { } ")
	for _, ahead := range aheads {
		for s, place := range refusedByScan() {
			for _, behind := range []string{"", " ", " x", "\n, A 01", " # ,", text[min(len(ahead), len(text)):]} {
				checkRefused(t, ahead+s+behind, len(ahead)+place, api.ErrForm)
			}
		}
	}
}

// Within a remark there may be any bytes.
func TestParseOfRemarks(t *testing.T) {
	for s := range refusedByScan() {
		remark := "#" + strings.ReplaceAll(s, "\n", " ") + "\n"
		checkParse(t, remark+strings.ReplaceAll(whole(), " ", remark)+remark, wholeScript(), 0, api.OK)
	}
}

// A text that is longer than a script may be is that ahead of all else; one that is just as long is one as any other.
func TestParseOfLongTexts(t *testing.T) {
	for _, s := range []string{"", " ", "x", ",", "01", "cores 9;", least(), least() + "tick", least() + "tick 0; stop", least() + ",", whole(), "cores 1; grain 1; group 1; prog { lock 0; } "} {
		for _, fill := range []string{" ", "\n", "#", ",", ";", "}"} {
			for _, n := range []int{8001, 8002, 16000, 100000} {
				checkRefused(t, s+strings.Repeat(fill, n-len(s)), 8000, api.ErrLong)
				checkRefused(t, strings.Repeat(fill, n-len(s))+s, 8000, api.ErrLong)
			}
		}
	}
	for _, n := range []int{7999, 8000} {
		rest := n - len(whole())
		for _, fill := range []string{" ", "\n", "#"} {
			checkParse(t, whole()+strings.Repeat(fill, rest), wholeScript(), 0, api.OK)
		}
		checkParse(t, strings.Repeat(" ", rest)+whole(), wholeScript(), 0, api.OK)
		checkParse(t, "#"+strings.Repeat(",", rest-2)+"\n"+whole(), wholeScript(), 0, api.OK)
		checkRefused(t, whole()+strings.Repeat(",", rest), len(whole()), api.ErrForm)
		checkRefused(t, strings.Repeat(" ", rest-1)+whole()+";", n-1, api.ErrForm)
		checkRefused(t, strings.Repeat(" ", rest)+whole()[:len(whole())-1]+" ", n, api.ErrForm)
		checkRefused(t, strings.Repeat(" ", rest-1)+whole()+",", n-1, api.ErrForm)
	}
}

// Where words end too early it is the end of the text that is told, with all that stands behind the last word.
func TestParseOfWordsThatEnd(t *testing.T) {
	for _, text := range []string{whole(), fullSetup() + "spawn 1 2 3 4; fire;", least() + "group 1 2; kill 3; round 4;"} {
		l := scanned(t, text)
		for n, w := range l {
			x, place, why := plainWords(l[:n])
			for _, behind := range []string{"", " ", "\n\t", "#", " # cores 1; tick 0;\n "} {
				s := strings.TrimRight(text[:w.At], " ") + behind
				switch {
				case why == api.OK:
					checkParse(t, s, x, 0, api.OK)
				case place == n:
					checkRefused(t, s, len(s), api.ErrForm)
				default:
					// A program that spawns one that isn't there yet.
					checkRefused(t, s, strings.Index(s, "prog"), api.ErrNone)
				}
			}
		}
	}
}

// Each number of a setup and of acts, for other ones: those of acts may be any that can be a word.
func TestParseOfNumbers(t *testing.T) {
	numbers := []int{0, 1, 2, 3, 4, 5, 7, 8, 9, 15, 16, 17, 32, 33, 64, 65, 200, 201, 4000, 99999999, 100000000, 999999999, 1000000000, 1000000001, 9999999999}
	seen := map[api.Errno]int{}
	l := scanned(t, whole())
	behind := len(scanned(t, wholeSetup()))
	for i, w := range l {
		if w.Kind != api.WordNum {
			continue
		}
		for _, n := range numbers {
			ahead, s := whole()[:w.At], whole()[w.At+len(strconv.Itoa(w.N)):]
			text := ahead + strconv.Itoa(n) + s
			if n > 999999999 {
				checkRefused(t, text, w.At, api.ErrForm)
				continue
			}
			changed := scanned(t, text)
			x, place, why := plainWords(changed)
			seen[why]++
			if why == api.OK {
				checkParse(t, text, x, 0, api.OK)
				continue
			}
			checkRefused(t, text, changed[place].At, why)
			if i >= behind {
				t.Errorf("%d may not be, as the word %d", n, i)
			}
			if why == api.ErrArg && changed[place].Text == "" && place != i {
				t.Errorf("the word %d was changed, and the word %d is told", i, place)
			}
		}
	}
	for _, why := range []api.Errno{api.OK, api.ErrArg, api.ErrNone, api.ErrCrit} {
		if seen[why] < 5 {
			t.Errorf("%d came too seldom: %v", why, seen)
		}
	}
}

// A text has room for no more than some 1600 acts; of texts of 4000 acts, and of 4001, it is told that they are too long.
func TestParseOfHowManyActs(t *testing.T) {
	ahead := "cores 1;grain 1;group 1;prog{exit;}"
	for _, n := range []int{0, 1, 2, 1000, 1592, 1593} {
		want := api.Script{Setup: leastSetup()}
		for range n {
			want.Acts = append(want.Acts, api.Act{Kind: api.ActFire})
		}
		s := ahead + strings.Repeat("fire;", n)
		checkParse(t, s, want, 0, api.OK)
		// Those of the most acts may be, but there's no room for the blanks of what is printed.
		checkMay(t, want)
		if len(s) < 8000 {
			checkRefused(t, s+"x", len(s), api.ErrForm)
		} else {
			checkRefused(t, s+"x", 8000, api.ErrLong)
		}
	}
	for _, n := range []int{1594, 1600, 3999, 4000, 4001, 4002, 10000} {
		checkRefused(t, ahead+strings.Repeat("fire;", n), 8000, api.ErrLong)
		checkRefused(t, strings.Repeat("fire;", n)+strings.Repeat(" ", 40), 8000, api.ErrLong)
		checkRefused(t, least()+strings.Repeat("tick 0; ", n), 8000, api.ErrLong)
	}
}

func TestParseAnswersAnew(t *testing.T) {
	for _, s := range []string{whole(), least(), fullSetup() + "fire; tick 0;"} {
		first, second := parsed(t, s), parsed(t, s)
		kept := clone(second)
		spoil(&first)
		if !plainSame(second, kept) {
			t.Errorf("one answer hangs on another: %s; it was %s", told(second), told(kept))
		}
		checkParse(t, s, kept, 0, api.OK)
		// No list of an answer goes on into another one.
		for i := range second.Setup.Progs {
			_ = append(second.Setup.Progs[i].Ops, api.Op{Kind: -5})
		}
		if !plainSame(second, kept) {
			t.Errorf("one list hangs on another: %s; it was %s", told(second), told(kept))
		}
	}
}
