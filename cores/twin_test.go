package cores_test

import (
	"iter"
	"math"
	"reflect"
	"slices"
	"testing"

	"forelock/api"
	"forelock/cores"
	"forelock/runq"
)

// seat is what is asked of a core's queue, and done to it.
type seat interface {
	Pick() (int, bool)
	Due() bool
	Back() (int, bool)
	Tick() (int, bool)
	Weigh(id, w int) bool
	Settle()
	V(id int) (uint64, bool)
	Current() (int, int, bool)
	Floor() uint64
	Len() int
	Load() int
	Ready() iter.Seq2[int, uint64]
}

// several is what is asked of cores.
type several interface {
	Len() int
	Add(core, id int, v uint64, w int) (uint64, api.Errno)
	Remove(id int) (uint64, bool)
	Of(id int) int
	Move(id, core int) api.Errno
	Balance() (int, int, int, bool)
	Weigh(id, w int) bool
	Settle()
	Loads() []int
	at(core int) seat
}

// built is cores as they are built, with queues that were handed out when they were new.
type built struct {
	*cores.Cores
	queues []*runq.Queue
}

func newBuilt(n, grain int) built {
	b := built{Cores: cores.New(n, grain)}
	for core := range b.Cores.Len() {
		b.queues = append(b.queues, b.Queue(core))
	}
	return b
}

func (b built) at(core int) seat {
	return b.queues[core]
}

// numbers is some that may be tasks', and some that may not.
func numbers() []int {
	l := []int{math.MinInt, math.MinInt + 1, -2, -1, 1 << 32, math.MaxInt - 1, math.MaxInt}
	for id := range 22 {
		l = append(l, id)
	}
	return l
}

// told is all that cores tell.
type told struct {
	Len    int
	Loads  []int
	Of     []int
	Queues []toldQueue
}

type toldQueue struct {
	Current, Ran int
	Runs, Due    bool
	Floor        uint64
	Len, Load    int
	V            []uint64
	Is           []bool
	Ready        []int
	ReadyV       []uint64
}

func tell(c several) told {
	s := told{Len: c.Len(), Loads: c.Loads()}
	for _, id := range numbers() {
		s.Of = append(s.Of, c.Of(id))
	}
	for core := range c.Len() {
		s.Queues = append(s.Queues, tellQueue(c.at(core)))
	}
	return s
}

func tellQueue(q seat) toldQueue {
	s := toldQueue{Due: q.Due(), Floor: q.Floor(), Len: q.Len(), Load: q.Load()}
	s.Current, s.Ran, s.Runs = q.Current()
	for _, id := range numbers() {
		v, ok := q.V(id)
		s.V, s.Is = append(s.V, v), append(s.Is, ok)
	}
	for id, v := range q.Ready() {
		s.Ready, s.ReadyV = append(s.Ready, id), append(s.ReadyV, v)
	}
	return s
}

// twin is cores, and plain ones to which just the same is done: behind each call they tell the same.
type twin struct {
	*testing.T
	c built
	p *plain
}

func newTwin(t *testing.T, n, grain int) *twin {
	t.Helper()
	x := &twin{t, newBuilt(n, grain), newPlain(n, grain)}
	x.check()
	return x
}

// check holds all that the cores tell against what the plain ones do.
func (x *twin) check() {
	x.Helper()
	if got, want := tell(x.c), tell(x.p); !reflect.DeepEqual(got, want) {
		x.Errorf("they tell %+v; want %+v", got, want)
	}
	for core := range x.p.cores {
		if x.c.Queue(core) != x.c.queues[core] {
			x.Errorf("Queue(%d) is another one than it was", core)
		}
	}
	for _, core := range []int{math.MinInt, -1, x.p.Len(), x.p.Len() + 1, math.MaxInt} {
		if x.c.Queue(core) != nil {
			x.Errorf("there is a Queue(%d)", core)
		}
	}
}

// both holds what a call answers, of either, against what it must answer.
func both[A comparable](x *twin, name string, call func(c several) A, want A) {
	x.Helper()
	if got := call(x.c); got != want {
		x.Errorf("%s: %v; want %v", name, got, want)
	}
	if got := call(x.p); got != want {
		x.Errorf("%s of plain ones: %v; want %v", name, got, want)
	}
	x.check()
}

type vErr struct {
	v   uint64
	err api.Errno
}

type vOk struct {
	v  uint64
	ok bool
}

type idOk struct {
	id int
	ok bool
}

type way struct {
	id, from, to int
	ok           bool
}

func (x *twin) add(core, id int, v uint64, w int, want uint64) {
	x.Helper()
	both(x, "Add", func(c several) vErr { v, err := c.Add(core, id, v, w); return vErr{v, err} }, vErr{want, api.OK})
}

func (x *twin) refuse(core, id int, v uint64, w int, why api.Errno) {
	x.Helper()
	both(x, "Add", func(c several) vErr { v, err := c.Add(core, id, v, w); return vErr{v, err} }, vErr{0, why})
}

func (x *twin) remove(id int, v uint64, ok bool) {
	x.Helper()
	both(x, "Remove", func(c several) vOk { v, ok := c.Remove(id); return vOk{v, ok} }, vOk{v, ok})
}

func (x *twin) of(id, core int) {
	x.Helper()
	both(x, "Of", func(c several) int { return c.Of(id) }, core)
}

func (x *twin) move(id, core int, want api.Errno) {
	x.Helper()
	both(x, "Move", func(c several) api.Errno { return c.Move(id, core) }, want)
}

func (x *twin) balance(id, from, to int) {
	x.Helper()
	both(x, "Balance", walk, way{id, from, to, true})
}

// stay asks for that nobody goes.
func (x *twin) stay() {
	x.Helper()
	both(x, "Balance", walk, way{nobody, -1, -1, false})
}

func walk(c several) way {
	id, from, to, ok := c.Balance()
	return way{id, from, to, ok}
}

func (x *twin) weigh(id, w int, want bool) {
	x.Helper()
	both(x, "Weigh", func(c several) bool { return c.Weigh(id, w) }, want)
}

func (x *twin) loads(want ...int) {
	x.Helper()
	for _, c := range []several{x.c, x.p} {
		if got := c.Loads(); !slices.Equal(got, want) {
			x.Errorf("Loads: %v; want %v", got, want)
		}
	}
	x.check()
}

// floors asks for these floors behind Settle.
func (x *twin) floors(want ...uint64) {
	x.Helper()
	for _, c := range []several{x.c, x.p} {
		c.Settle()
		for core := range want {
			if got := c.at(core).Floor(); got != want[core] {
				x.Errorf("the floor of core %d is %d; want %d", core, got, want[core])
			}
		}
	}
	x.check()
}

func (x *twin) v(core, id int, want uint64) {
	x.Helper()
	both(x, "V", func(c several) vOk { v, ok := c.at(core).V(id); return vOk{v, ok} }, vOk{want, true})
}

// pick, back and tick ask for who it is; nobody goes with false.
func (x *twin) pick(core, id int) {
	x.Helper()
	both(x, "Pick", func(c several) idOk { id, ok := c.at(core).Pick(); return idOk{id, ok} }, idOk{id, id != nobody})
}

func (x *twin) back(core, id int) {
	x.Helper()
	both(x, "Back", func(c several) idOk { id, ok := c.at(core).Back(); return idOk{id, ok} }, idOk{id, id != nobody})
}

func (x *twin) ticks(core, id, n int) {
	x.Helper()
	for range n {
		both(x, "Tick", func(c several) idOk { id, ok := c.at(core).Tick(); return idOk{id, ok} }, idOk{id, id != nobody})
	}
}

func (x *twin) due(core int, want bool) {
	x.Helper()
	both(x, "Due", func(c several) bool { return c.at(core).Due() }, want)
}

func (x *twin) current(core, id, ran int) {
	x.Helper()
	type who struct {
		id, ran int
		ok      bool
	}
	both(x, "Current", func(c several) who { id, ran, ok := c.at(core).Current(); return who{id, ran, ok} }, who{id, ran, id != nobody})
}

// weighThere weighs by the queue itself.
func (x *twin) weighThere(core, id, w int, want bool) {
	x.Helper()
	both(x, "Weigh of the queue", func(c several) bool { return c.at(core).Weigh(id, w) }, want)
}

// settleThere settles the queue itself, and asks for its floor.
func (x *twin) settleThere(core int, floor uint64) {
	x.Helper()
	both(x, "the floor behind Settle of the queue", func(c several) uint64 { c.at(core).Settle(); return c.at(core).Floor() }, floor)
}

// ready holds who is ready at a core, in order, against these numbers.
func (x *twin) ready(core int, ids ...int) {
	x.Helper()
	for _, c := range []several{x.c, x.p} {
		if got := tellQueue(c.at(core)).Ready; !slices.Equal(got, ids) {
			x.Errorf("ready at core %d are %v; want %v", core, got, ids)
		}
	}
	x.check()
}

// lift brings the floor of a core with no tasks to so many ticks of weight 1, and so much more.
func (x *twin) lift(core, ticks int, more uint64) {
	x.Helper()
	const id = 21
	floor := uint64(ticks) * coreUnit
	x.add(core, id, 0, 1, 0)
	x.pick(core, id)
	x.ticks(core, id, ticks)
	x.settleThere(core, floor)
	x.remove(id, floor, true)
	x.add(core, id, floor+more, 1, floor+more)
	x.settleThere(core, floor+more)
	x.remove(id, floor+more, true)
}
