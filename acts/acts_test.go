package acts_test

import (
	"iter"
	"math"
	"slices"
	"strings"
	"testing"

	"forelock/acts"
	"forelock/api"
)

// None at all may be: they have no words, and no text.
func TestOfNone(t *testing.T) {
	for _, l := range [][]api.Act{nil, {}, make([]api.Act, 0, 5), make([]api.Act, 3)[:0]} {
		checkWhy(t, l, api.OK)
		loop := acts.Each(l)
		if loop == nil {
			t.Fatal("Each is nil")
		}
		for range 2 {
			for at, a := range loop {
				t.Errorf("Each of none: %d, %v", at, a)
			}
		}
	}
}

func TestOfEdges(t *testing.T) {
	for _, a := range edges() {
		checkWhy(t, []api.Act{a}, api.OK)
		checkWhy(t, []api.Act{a, a, a}, api.OK)
	}
	// 3 of four kinds of one number, 9 of two of two, 81 of one of four, and 1 of two of none.
	if n, want := len(edges()), 3*3+2*9+81+2; n != want {
		t.Errorf("%d edges; want %d", n, want)
	}
	checkWhy(t, edges(), api.OK)
}

// mayNotBe are some acts of which each has one thing alone that may not be.
func mayNotBe() []api.Act {
	var l []api.Act
	for _, kind := range noKinds() {
		l = append(l, act(kind), act(kind, 1), act(kind, 1, 2, 3, 4))
	}
	for _, a := range asks() {
		for i := range 4 {
			wrong := outside()
			if i >= a.numbers {
				// A number that the act has not has 0 alone.
				wrong = append(wrong, 1, 2, 16, 999999999)
			}
			for _, n := range wrong {
				for _, other := range []int{0, 1, 999999999} {
					numbers := make([]int, 4)
					for k := range a.numbers {
						numbers[k] = other
					}
					numbers[i] = n
					l = append(l, act(a.kind, numbers...))
				}
			}
		}
	}
	return l
}

// One that may not be is enough, wherever it stands.
func TestOfActsThatMayNotBe(t *testing.T) {
	for _, a := range mayNotBe() {
		for n := 1; n <= 5; n++ {
			for at := range n {
				l := slices.Repeat([]api.Act{{Kind: api.ActMove, A: 3, B: 1}}, n)
				l[at] = a
				checkWhy(t, l, api.ErrArg)
			}
		}
	}
	checkWhy(t, make([]api.Act, 5), api.ErrArg)
	checkWhy(t, mayNotBe(), api.ErrArg)
	for _, a := range []api.Act{
		{}, {Kind: 9}, {Kind: -1}, {Kind: api.ActTick, A: -1}, {Kind: api.ActTick, A: 1000000000}, {Kind: api.ActTick, B: 1}, {Kind: api.ActFire, A: 1}, {Kind: api.ActFire, D: 1},
		{Kind: api.ActSpawn, D: -1}, {Kind: api.ActSpawn, C: 1000000000}, {Kind: api.ActGroup, C: 1}, {Kind: api.ActMove, B: math.MinInt}, {Kind: api.ActRound, A: math.MaxInt},
	} {
		checkWhy(t, []api.Act{a}, api.ErrArg)
	}
}

func TestMayOfAnyNumbers(t *testing.T) {
	numbers := append(outside(), 0, 1, 999999999)
	for _, kind := range append(noKinds(), 1, 2, 3, 4, 5, 6, 7, 8) {
		for _, a := range numbers {
			for _, b := range numbers {
				for _, x := range []api.Act{{Kind: kind, A: a, B: b}, {Kind: kind, B: a, C: b}, {Kind: kind, C: a, D: b}, {Kind: kind, D: a, A: b}} {
					if got := acts.May([]api.Act{x}); got != plainMayAct(x) {
						t.Errorf("May of %v alone: %t", x, got)
					}
				}
			}
		}
	}
}

func TestWordsHaveNoPlaces(t *testing.T) {
	l := []api.Act{{Kind: api.ActSpawn, A: 4, B: 3, D: 1}, {Kind: api.ActFire}, {Kind: api.ActGroup, B: 9}}
	want := []api.Word{
		name("spawn"), num(4), num(3), num(0), num(1), mark(";"), name("fire"), mark(";"), name("group"), num(0), num(9), mark(";"),
	}
	got, err := acts.Words(l)
	if !slices.Equal(got, want) || err != api.OK {
		t.Errorf("Words: %v, %d; want %v", got, err, want)
	}
	if text, err := acts.Print(l); text != "spawn 4 3 0 1; fire; group 0 9;" || err != api.OK {
		t.Errorf("Print: %q, %d", text, err)
	}
}

func TestWordsAnswersAnew(t *testing.T) {
	l, _, _ := plainParse(scanned(t, whole()), 0)
	first, _ := acts.Words(l)
	second, _ := acts.Words(l)
	for i := range first {
		first[i] = api.Word{}
	}
	if !slices.Equal(second, plainWords(l)) {
		t.Errorf("one answer hangs on another: %s", told(second))
	}
	checkWhy(t, l, api.OK)
	for i := range l {
		l[i] = api.Act{}
	}
	want, _, _ := plainParse(scanned(t, whole()), 0)
	if !slices.Equal(second, plainWords(want)) {
		t.Errorf("the answer hangs on the acts: %s", told(second))
	}
}

func TestOfHowManyActs(t *testing.T) {
	for _, a := range []api.Act{{}, {Kind: api.ActFire}, {Kind: api.ActSpawn, A: 999999999, D: 1}} {
		_, all := many(a, 10000)
		for _, n := range []int{1, 100, 1333, 1334, 3999, 4000} {
			checkWhy(t, all[:n], api.OK)
		}
		for _, n := range []int{4001, 4002, 8000, 8001, 10000} {
			checkWhy(t, all[:n], api.ErrLong)
		}
	}
}

// Of a list with one that may not be that is told, however many there are.
func TestOfManyActsOfWhichOneMayNotBe(t *testing.T) {
	for _, a := range []api.Act{{}, {Kind: 9}, {Kind: api.ActFire, D: 1}, {Kind: api.ActTick, A: -1}, {Kind: api.ActSpawn, B: 1000000000}, {Kind: api.ActKill, B: 1}} {
		for _, n := range []int{3999, 4000, 4001, 4002, 9000} {
			for _, at := range []int{0, 1, 2000, 3998, 3999, 4000, n - 2, n - 1} {
				if at < n {
					_, l := many(api.Act{Kind: api.ActBalance}, n)
					l[at] = a
					checkWhy(t, l, api.ErrArg)
				}
			}
		}
	}
}

// Texts that are just as long as may be, and a little longer, or shorter, though each act may be.
func TestPrintOfLongTexts(t *testing.T) {
	seen := map[int]int{}
	for _, c := range []struct {
		a api.Act
		n int
	}{
		{api.Act{Kind: api.ActFire}, 1331}, {api.Act{Kind: api.ActBalance}, 886}, {api.Act{Kind: api.ActRound, A: 200}, 725},
		{act(api.ActSpawn, 999999999, 999999999, 999999999, 999999999), 169}, {act(api.ActMove, 0, 10), 724},
	} {
		_, most := many(c.a, c.n)
		for _, end := range []string{"", "fire;", "fire; fire;", "tick 0;", "balance;"} {
			rest, _, _ := plainParse(scanned(t, end), 0)
			for n := 1; n < 1000000000; n *= 10 {
				for _, l := range [][]api.Act{
					slices.Concat(most, rest, []api.Act{{Kind: api.ActKill, A: n}}),
					slices.Concat(rest, []api.Act{{Kind: api.ActSpawn, A: n, B: 3}}, most),
					slices.Concat(rest, []api.Act{{Kind: api.ActSpawn, A: n, B: 30, C: 999999999}}, most),
				} {
					seen[len(plainText(l))]++
					checkWhy(t, l, api.OK)
				}
			}
		}
	}
	for n := 7995; n <= 8005; n++ {
		if seen[n] == 0 {
			t.Errorf("no text of %d bytes", n)
		}
	}
}

func TestPrintOfTheLongest(t *testing.T) {
	longest := strings.Repeat("fire; ", 1332) + "balance;"
	l := scanned(t, longest)
	all, _, _ := acts.Parse(l, 0)
	if text, err := acts.Print(all); len(text) != 8000 || text != longest || err != api.OK {
		t.Errorf("Print: %d bytes, %d", len(text), err)
	}
	all[0] = api.Act{Kind: api.ActTick}
	if text, err := acts.Print(all); text != "" || err != api.ErrLong {
		t.Errorf("Print of 8002 bytes: %d bytes, %d", len(text), err)
	}
	all[0] = api.Act{Kind: api.ActFire}
	all[1332] = api.Act{Kind: api.ActRound, A: 10}
	if text, err := acts.Print(all); text != "" || err != api.ErrLong {
		t.Errorf("Print of 8001 bytes: %d bytes, %d", len(text), err)
	}
	// The words are told, though the text isn't.
	if words, err := acts.Words(all); len(words) != 2*1332+3 || err != api.OK || !acts.May(all) {
		t.Errorf("Words: %d of them, %d", len(words), err)
	}
}

func TestName(t *testing.T) {
	for kind, want := range map[int]string{
		api.ActTick: "tick", api.ActFire: "fire", api.ActBalance: "balance", api.ActSpawn: "spawn",
		api.ActKill: "kill", api.ActGroup: "group", api.ActMove: "move", api.ActRound: "round",
	} {
		if got := acts.Name(kind); got != want {
			t.Errorf("Name(%d): %q; want %q", kind, got, want)
		}
	}
	for _, kind := range noKinds() {
		if got := acts.Name(kind); got != "" {
			t.Errorf("Name(%d): %q", kind, got)
		}
	}
	for kind := -300; kind <= 300; kind++ {
		if got := acts.Name(kind); (got != "") != (kind >= 1 && kind <= 8) {
			t.Errorf("Name(%d): %q", kind, got)
		}
	}
}

// reached is what a loop says that is left behind n of its rounds (gone over whole, if n is 0); the places must be from 0 on.
func reached(t *testing.T, loop iter.Seq2[int, api.Act], n int) []api.Act {
	t.Helper()
	var l []api.Act
	for at, a := range loop {
		if at != len(l) {
			t.Errorf("the place %d behind %d acts", at, len(l))
		}
		l = append(l, a)
		if len(l) == n {
			break
		}
	}
	return l
}

// anyActs are lists of acts that may be, and of such that may not.
func anyActs(t *testing.T) [][]api.Act {
	t.Helper()
	every, _, _ := plainParse(scanned(t, whole()), 0)
	_, tooMany := many(api.Act{}, 5000)
	return [][]api.Act{
		{{Kind: api.ActFire}}, {{}}, make([]api.Act, 13), edges(), mayNotBe(), every, tooMany,
		{{Kind: 99, A: -1, B: math.MaxInt}, {Kind: -99, D: 1}, {Kind: api.ActTick, A: 1 << 40}},
	}
}

func TestEachLeftEarlyAndGoneOverAgain(t *testing.T) {
	for _, l := range anyActs(t) {
		kept := slices.Clone(l)
		loop := acts.Each(l)
		for n := 1; n <= len(l); n = n*3/2 + 1 {
			if got := reached(t, loop, n); !slices.Equal(got, kept[:n]) {
				t.Errorf("Each of %s, left behind %d: %s", toldActs(kept), n, toldActs(got))
			}
			if got := reached(t, loop, 0); !slices.Equal(got, kept) {
				t.Errorf("Each of %s, gone over whole: %s", toldActs(kept), toldActs(got))
			}
		}
		if !slices.Equal(l, kept) {
			t.Errorf("Each changed the acts: %s; they were %s", toldActs(l), toldActs(kept))
		}
	}
}

// What is handed in isn't kept: what is done to it behind the call isn't seen by the loop, nor by one that goes already.
func TestEachOfActsThatAreChanged(t *testing.T) {
	for _, l := range anyActs(t) {
		given, kept := slices.Clone(l), slices.Clone(l)
		loop := acts.Each(given)
		for round := range 3 {
			for i := range given {
				given[i] = api.Act{Kind: 1000 + round}
			}
			if got := reached(t, loop, 0); !slices.Equal(got, kept) {
				t.Errorf("Each of acts that were changed: %s; want %s", toldActs(got), toldActs(kept))
			}
		}
		var got []api.Act
		for at, a := range loop {
			given[len(given)-1-at] = api.Act{Kind: 2000}
			got = append(got, a)
		}
		if !slices.Equal(got, kept) {
			t.Errorf("Each of acts that are changed on the way: %s; want %s", toldActs(got), toldActs(kept))
		}
	}
}

// A loop says no more than the list had, though there is room behind it.
func TestEachOfAListWithRoom(t *testing.T) {
	all := edges()
	loop := acts.Each(all[:3])
	_ = append(all[:3], api.Act{Kind: 77})
	if got := reached(t, loop, 0); !slices.Equal(got, edges()[:3]) {
		t.Errorf("Each: %s", toldActs(got))
	}
}

func TestEachWithinEach(t *testing.T) {
	loop := acts.Each([]api.Act{{Kind: 3}, {Kind: 1}, {Kind: 2}})
	var got []int
	for at, a := range loop {
		for within, other := range loop {
			got = append(got, 1000*at+100*a.Kind+10*within+other.Kind)
		}
	}
	if want := []int{303, 311, 322, 1103, 1111, 1122, 2203, 2211, 2222}; !slices.Equal(got, want) {
		t.Errorf("a loop within the same loop: %v; want %v", got, want)
	}
}
