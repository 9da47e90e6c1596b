package cores_test

import (
	"testing"

	"forelock/api"
)

// laid is cores of grain 1 with tasks of these weights, a row a core, numbered from 0 on, all at the floor: so they are ready in the order in which they stand.
func laid(t *testing.T, rows ...[]int) *twin {
	t.Helper()
	x := newTwin(t, len(rows), 1)
	id := 0
	for core, row := range rows {
		for _, w := range row {
			x.add(core, id, 0, w, 0)
			id++
		}
	}
	return x
}

func TestBalanceOfNone(t *testing.T) {
	for n := 1; n <= 4; n++ {
		newTwin(t, n, 1).stay()
	}
}

// One core alone has the greatest and the least load.
func TestBalanceOfOneCore(t *testing.T) {
	for _, row := range [][]int{{1}, {5, 1}, {1, 1, 1}, {4096, 1}} {
		laid(t, row).stay()
	}
}

func TestBalanceOfLikeLoads(t *testing.T) {
	laid(t, []int{3}, []int{3}).stay()
	laid(t, []int{3}, []int{1, 2}, []int{1, 1, 1}).stay()
	laid(t, []int{4096}, []int{4096}, []int{4096}, []int{4095, 1}).stay()
	laid(t, []int{1}, []int{1}, []int{1}, []int{1}).stay()
}

// Of several greatest and least loads the first ones are meant.
func TestBalanceOfSeveral(t *testing.T) {
	laid(t, []int{2}, []int{4, 5}, []int{2}, []int{4, 5}).balance(1, 1, 0)
	laid(t, []int{4, 5}, []int{2}, []int{4, 5}, []int{2}).balance(0, 0, 1)
	laid(t, []int{4, 5}, []int{4, 5}, []int{2}, []int{2}).balance(0, 0, 2)
	laid(t, []int{2}, []int{2}, []int{4, 5}, []int{4, 5}).balance(2, 2, 0)
	laid(t, []int{5}, []int{2}, []int{4, 5}, []int{2}).balance(2, 2, 1)
	laid(t, []int{5}, []int{9}, []int{4, 5}, []int{8}).stay()
	laid(t, []int{}, []int{1, 1}, []int{}, []int{2}).balance(0, 1, 0)
	// Each core may be either.
	for from := range 4 {
		for to := range 4 {
			rows := [][]int{{5}, {5}, {5}, {5}}
			rows[from], rows[to] = []int{7, 2}, []int{1}
			if from != to {
				laid(t, rows...).balance(from, from, to)
			}
		}
	}
}

// Whose weight is less than the difference goes; not who weighs just that, or more.
func TestBalanceByDifference(t *testing.T) {
	for _, w := range []int{1, 2, 3, 16, 100, 4095, 4096} {
		// The current one makes the difference, and doesn't go.
		for extra := range 3 {
			x := newTwin(t, 2, 1)
			x.add(0, 0, 0, 1+extra, 0)
			x.pick(0, 0)
			x.ticks(0, 0, 1)
			x.add(0, 1, 0, w, 0)
			x.add(1, 2, 0, 2, 0)
			// The difference is w, and extra less 1.
			if extra < 2 {
				x.stay()
				continue
			}
			x.balance(1, 0, 1)
			x.loads(1+extra, 2+w)
		}
		// Alone it would but change places.
		laid(t, []int{w}, nil).stay()
		laid(t, nil, []int{w}).stay()
	}
}

// Of the greatest weights, and of those that are brought.
func TestBalanceOfGreatWeights(t *testing.T) {
	laid(t, []int{4096, 4095}, []int{4096}).stay()
	laid(t, []int{4096, 4095}, []int{4095}).balance(1, 0, 1)
	laid(t, []int{4096, 4095}, []int{4094}).balance(0, 0, 1)
	laid(t, []int{4096, 4095, 1}, []int{4096}).balance(1, 0, 1)
	laid(t, []int{4096, 4096}, nil).balance(0, 0, 1)
	laid(t, []int{5000, 9999}, []int{-3}).balance(0, 0, 1)
}

// The first one goes that is light enough: those ahead of it stay, and so do lighter ones behind it.
func TestBalanceByOrder(t *testing.T) {
	x := newTwin(t, 2, 8)
	x.add(0, 3, 5, 4, 5)
	x.add(0, 1, 6, 2, 6)
	x.add(0, 0, 7, 1, 7)
	x.add(0, 9, 4, 9, 4)
	x.add(1, 7, 0, 10, 0)
	x.loads(16, 10)
	x.balance(3, 0, 1)
	x.loads(12, 14)
	x.v(1, 3, 5)
	// By now the other one has more, by 2: neither 10 nor 4 is less.
	x.stay()
	x.remove(7, 0, true)
	x.loads(12, 4)
	// By 8: 9 is too heavy, 2 goes.
	x.balance(1, 0, 1)
	x.loads(10, 6)
	x.balance(0, 0, 1)
	x.loads(9, 7)
	x.stay()
}

// The order is that of V's, then of numbers, not of those who came, nor of weights.
func TestBalanceByVThenNumber(t *testing.T) {
	x := newTwin(t, 2, 8)
	for _, c := range []struct {
		id int
		v  uint64
	}{{8, 2}, {2, 3}, {5, 2}, {6, 2}, {1, 9}, {7, 1}, {0, 9}} {
		x.add(1, c.id, c.v, 1, c.v)
	}
	x.balance(7, 1, 0)
	x.balance(5, 1, 0)
	x.balance(6, 1, 0)
	x.stay()
	x.remove(7, 1, true)
	x.remove(5, 2, true)
	x.balance(8, 1, 0)
	x.stay()
}

// The only one who is light enough is current.
func TestBalanceOfCurrent(t *testing.T) {
	x := laid(t, []int{1, 8}, []int{2})
	x.pick(0, 0)
	x.stay()
	x.back(0, 0)
	x.balance(0, 0, 1)
	x = laid(t, []int{1}, []int{3, 3}, []int{1, 1})
	x.pick(1, 1)
	x.balance(2, 1, 0)
	// Nobody at all is ready there.
	x = laid(t, []int{1}, []int{3}, nil)
	x.pick(1, 1)
	x.stay()
	x.add(1, 5, 9, 1, 9)
	x.balance(5, 1, 2)
	x.current(1, 1, 0)
}

// It goes as by Move: with its weight, and as far above the floor.
func TestBalanceMoves(t *testing.T) {
	for _, to := range []spot{{0, 0}, {2, 9}, {7, 1}} {
		for _, a := range aboves() {
			x := lifted(t, spot{3, 5}, to)
			x.add(0, 3, spot{3, 5}.floor()+a.by, a.w, spot{3, 5}.floor()+a.by)
			x.pick(0, 3)
			x.ticks(0, 3, a.ticks)
			x.back(0, 3)
			x.stay()
			// One more, which is current, makes the difference great.
			x.add(0, 2, 0, 4096, spot{3, 5}.floor())
			x.pick(0, 2)
			x.balance(3, 0, 1)
			x.loads(4096, a.w)
			x.of(3, 1)
			x.v(1, 3, to.floor()+a.want)
			x.floorsNow(spot{3, 5}.floor(), to.floor())
			if t.Failed() {
				t.Fatalf("to %+v: %+v", to, a)
			}
		}
	}
}

// Who stays keeps its V, however far that is: nobody is touched but who goes.
func TestBalanceTouchesNobodyElse(t *testing.T) {
	x := newTwin(t, 2, 1)
	x.add(0, 0, 0, 9, 0)
	x.pick(0, 0)
	x.ticks(0, 0, 50)
	x.back(0, 0)
	x.add(0, 1, 0, 7, 0)
	x.pick(0, 1)
	x.ticks(0, 1, 30)
	x.back(0, 1)
	x.add(1, 2, 0, 10, 0)
	x.pick(1, 2)
	x.ticks(1, 2, 20)
	x.ready(0, 1, 0)
	// By 6: both are too heavy, and far above what they reach.
	x.stay()
	x.add(0, 3, 0, 1, 0)
	x.pick(0, 3)
	x.ticks(0, 3, 60)
	x.back(0, 3)
	x.balance(3, 0, 1)
	x.v(0, 0, 50*(coreUnit/9))
	x.v(0, 1, 30*(coreUnit/7))
	x.v(1, 3, coreUnit)
	x.current(1, 2, 20)
}

// Loads 5 and 1, of a task 3 and one of 2: that of 3 goes, if it comes first.
func TestExample(t *testing.T) {
	x := laid(t, []int{3, 2}, []int{1})
	x.balance(0, 0, 1)
	x.loads(2, 4)
	x = laid(t, []int{2, 3}, []int{1})
	x.balance(0, 0, 1)
	x.loads(3, 3)
}

// squares is the sum of the squares of loads.
func squares(loads []int) int {
	n := 0
	for _, load := range loads {
		n += load * load
	}
	return n
}

// level lets tasks go till nobody goes any more: each time the sum of the squares is less, and nobody is lost. It answers how many went.
func (x *twin) level() int {
	x.Helper()
	for n := 0; ; n++ {
		was := x.c.Loads()
		got, want := walk(x.c), walk(x.p)
		is := x.c.Loads()
		if got != want {
			x.Fatalf("Balance of %v: %+v; want %+v", was, got, want)
		}
		if !got.ok {
			if squares(is) != squares(was) {
				x.Fatalf("nobody goes, and %v is %v", was, is)
			}
			return n
		}
		if squares(is) >= squares(was) {
			x.Fatalf("Balance of %v: %v", was, is)
		}
		if x.c.Of(got.id) != got.to {
			x.Fatalf("%d went to %d, and is at %d", got.id, got.to, x.c.Of(got.id))
		}
	}
}

func TestBalanceAgainAndAgain(t *testing.T) {
	x := newTwin(t, 4, 1)
	for id := range 16 {
		x.add(0, id, 0, 1, 0)
	}
	if n := x.level(); n != 12 {
		t.Errorf("%d went", n)
	}
	x.check()
	x.loads(4, 4, 4, 4)
	x = laid(t, []int{1, 2, 3, 4, 5, 6, 7, 8, 9, 10, 11, 12, 13, 14, 15, 16}, nil, nil)
	x.level()
	x.check()
	x.stay()
	x = laid(t, nil, []int{4096, 4096, 4096, 1, 1}, nil, []int{2048, 2049, 17})
	x.level()
	x.check()
	x.stay()
}

// small is cores with some tasks, told by a number: at which core each is, what it weighs, and which cores have a current one.
func small(t *testing.T, n, tasks, weights, told int) *twin {
	x := &twin{t, newBuilt(n, 1), newPlain(n, 1)}
	for id := range tasks {
		core, w := told%n, told/n%weights+1
		told /= n * weights
		x.c.Add(core, id, 0, w)
		x.p.Add(core, id, 0, w)
	}
	for core := range n {
		if told>>core&1 == 1 {
			x.c.at(core).Pick()
			x.p.at(core).Pick()
		}
	}
	return x
}

func power(a, n int) int {
	p := 1
	for range n {
		p *= a
	}
	return p
}

// Each way in which a few tasks of small weights may be at two, three or four cores.
func TestBalanceOfAllSmall(t *testing.T) {
	for _, s := range []struct{ cores, tasks, weights int }{{2, 1, 3}, {2, 2, 4}, {2, 3, 4}, {2, 4, 3}, {3, 2, 4}, {3, 3, 4}, {4, 3, 2}, {2, 5, 2}} {
		went := 0
		for told := range power(s.cores*s.weights, s.tasks) << s.cores {
			x := small(t, s.cores, s.tasks, s.weights, told)
			went += x.level()
			if told%97 == 0 {
				x.check()
			}
			if t.Failed() {
				t.Fatalf("%+v, %d", s, told)
			}
		}
		if went == 0 && s.tasks > 1 {
			t.Errorf("%+v: nobody went", s)
		}
	}
}

// What others put into a queue itself, or took out of it, is none of the cores' promises; but their calls end, and nobody is lost by them.
func TestQueuesFilledByOthers(t *testing.T) {
	next := row(1700)
	for range 300 {
		c := newBuilt(1+next(4), 1+next(8))
		for range 60 {
			id, core := next(20), next(c.Len())
			switch next(6) {
			case 0, 1, 2:
				c.Queue(core).Add(id, uint64(next(1<<42)), anyWeight(next))
			case 3:
				c.Queue(core).Remove(id)
			case 4:
				c.Queue(core).Pick()
			default:
				c.Add(core, id, 0, anyWeight(next))
			}
			checkKept(t, c, func() { c.Move(next(20), next(4)) })
			checkKept(t, c, func() { c.Balance() })
		}
		for n := 0; ; n++ {
			was := squares(c.Loads())
			if _, _, _, ok := c.Balance(); !ok {
				break
			}
			if squares(c.Loads()) >= was {
				t.Fatal("Balance doesn't end")
			}
		}
	}
}

// checkKept holds how many there are, and what they weigh, behind a deed against what it was ahead of it.
func checkKept(t *testing.T, c built, deed func()) {
	t.Helper()
	n, load := kept(c)
	deed()
	if m, l := kept(c); m != n || l != load {
		t.Fatalf("there are %d, with %d; there were %d, with %d", m, l, n, load)
	}
}

func kept(c built) (int, int) {
	n, load := 0, 0
	for core, l := range c.Loads() {
		n += c.Queue(core).Len()
		load += l
	}
	return n, load
}

// Move, too, loses nobody where there is no room for it.
func TestMoveToQueueFilledByOthers(t *testing.T) {
	c := newBuilt(2, 1)
	c.Add(0, 16, 0, 3)
	for id := range 16 {
		c.Queue(1).Add(id, 0, 1)
	}
	if err := c.Move(16, 1); err != api.ErrFull || c.Of(16) != 0 || c.Loads()[0] != 3 {
		t.Errorf("Move: error %d, at %d, %v", err, c.Of(16), c.Loads())
	}
}
