package runq_test

import (
	"cmp"
	"iter"
	"math"
	"slices"
	"testing"

	"forelock/api"
	"forelock/runq"
)

const (
	nobody   = -1
	coreUnit = 1 << 40
	most     = math.MaxUint64
)

// queue is what is asked of a queue.
type queue interface {
	Add(id int, v uint64, w int) (uint64, api.Errno)
	Remove(id int) (uint64, bool)
	Pick() (int, bool)
	Due() bool
	Back() (int, bool)
	Tick() (int, bool)
	Weigh(id, w int) bool
	Settle()
	V(id int) (uint64, bool)
	Weight(id int) (int, bool)
	Current() (int, int, bool)
	Floor() uint64
	Len() int
	Load() int
	Ready() iter.Seq2[int, uint64]
}

// plain is a queue as the chapter tells it, with no thought of time: a list of tasks in the order in which they came.
type plain struct {
	grain   int
	floor   uint64
	list    []plainTask
	current int
	ran     int
}

type plainTask struct {
	id int
	v  uint64
	w  int
}

func newPlain(grain int) *plain {
	switch {
	case grain < 1:
		grain = 1
	case grain > 8:
		grain = 8
	}
	return &plain{grain: grain, current: nobody}
}

func brought(w int) int {
	switch {
	case w < 1:
		return 1
	case w > 4096:
		return 4096
	}
	return w
}

// sum is a and b, added; the greatest number, if that is more.
func sum(a, b uint64) uint64 {
	if b > most-a {
		return most
	}
	return a + b
}

func cost(w int) uint64 {
	return coreUnit / uint64(brought(w))
}

func (p *plain) clamped(v uint64, w int) uint64 {
	if v < p.floor {
		return p.floor
	}
	if top := sum(p.floor, cost(w)*uint64(p.grain)); v > top {
		return top
	}
	return v
}

func (p *plain) place(id int) int {
	return slices.IndexFunc(p.list, func(x plainTask) bool { return x.id == id })
}

// ready is those who aren't current, in order.
func (p *plain) ready() []plainTask {
	l := slices.DeleteFunc(slices.Clone(p.list), func(x plainTask) bool { return x.id == p.current })
	slices.SortFunc(l, func(a, b plainTask) int { return cmp.Or(cmp.Compare(a.v, b.v), cmp.Compare(a.id, b.id)) })
	return l
}

func (p *plain) Add(id int, v uint64, w int) (uint64, api.Errno) {
	if id < 0 {
		return 0, api.ErrArg
	}
	if p.place(id) >= 0 {
		return 0, api.ErrMet
	}
	if len(p.list) == 16 {
		return 0, api.ErrFull
	}
	v = p.clamped(v, w)
	p.list = append(p.list, plainTask{id, v, brought(w)})
	return v, api.OK
}

func (p *plain) Remove(id int) (uint64, bool) {
	at := p.place(id)
	if at < 0 {
		return 0, false
	}
	v := p.list[at].v
	p.list = slices.Delete(p.list, at, at+1)
	if p.current == id {
		p.current = nobody
	}
	return v, true
}

func (p *plain) Pick() (int, bool) {
	l := p.ready()
	if p.current != nobody || len(l) == 0 {
		return nobody, false
	}
	p.current, p.ran = l[0].id, 0
	return p.current, true
}

func (p *plain) Due() bool {
	if p.current == nobody || p.ran < p.grain {
		return false
	}
	own := p.list[p.place(p.current)].v
	return slices.ContainsFunc(p.list, func(x plainTask) bool { return x.v < own })
}

func (p *plain) Back() (int, bool) {
	id := p.current
	p.current = nobody
	return id, id != nobody
}

func (p *plain) Tick() (int, bool) {
	if p.current == nobody {
		return nobody, false
	}
	x := &p.list[p.place(p.current)]
	x.v = sum(x.v, cost(x.w))
	p.ran++
	return p.current, true
}

func (p *plain) Weigh(id, w int) bool {
	at := p.place(id)
	if at < 0 {
		return false
	}
	x := &p.list[at]
	if x.w != brought(w) && id == p.current {
		p.ran = p.grain
	}
	x.v, x.w = p.clamped(x.v, w), brought(w)
	return true
}

func (p *plain) Settle() {
	least, ok := uint64(most), false
	for _, x := range p.list {
		least, ok = min(least, x.v), true
	}
	if ok && least > p.floor {
		p.floor = least
	}
}

func (p *plain) V(id int) (uint64, bool) {
	at := p.place(id)
	if at < 0 {
		return 0, false
	}
	return p.list[at].v, true
}

func (p *plain) Weight(id int) (int, bool) {
	at := p.place(id)
	if at < 0 {
		return 0, false
	}
	return p.list[at].w, true
}

func (p *plain) Current() (int, int, bool) {
	if p.current == nobody {
		return nobody, 0, false
	}
	return p.current, p.ran, true
}

func (p *plain) Floor() uint64 {
	return p.floor
}

func (p *plain) Len() int {
	return len(p.list)
}

func (p *plain) Load() int {
	n := 0
	for _, x := range p.list {
		n += x.w
	}
	return n
}

func (p *plain) Ready() iter.Seq2[int, uint64] {
	return func(yield func(int, uint64) bool) {
		for _, x := range p.ready() {
			if !yield(x.id, x.v) {
				return
			}
		}
	}
}

// spot is what a loop over Ready says of one.
type spot struct {
	id int
	v  uint64
}

// reached is what a loop says that is left behind n of its rounds; all of it, if n is 0.
func reached(loop iter.Seq2[int, uint64], n int) []spot {
	var l []spot
	for id, v := range loop {
		l = append(l, spot{id, v})
		if len(l) == n {
			break
		}
	}
	return l
}

// state is all that a queue tells of itself, but V and Weight of each number.
type state struct {
	current, ran     int
	running, due     bool
	floor            uint64
	len, load        int
	firstV, currentV uint64
}

func stateOf(q queue) state {
	var s state
	s.current, s.ran, s.running = q.Current()
	s.due, s.floor, s.len, s.load = q.Due(), q.Floor(), q.Len(), q.Load()
	for _, v := range q.Ready() {
		s.firstV = v
		break
	}
	s.currentV, _ = q.V(s.current)
	return s
}

// numbers is some that may be tasks', and some that may not.
func numbers() []int {
	l := []int{math.MinInt, math.MinInt + 1, -16, -2, -1, 1 << 32, 1<<32 + 1, math.MaxInt - 1, math.MaxInt}
	for id := range 22 {
		l = append(l, id)
	}
	return l
}

// checkLike holds all that a queue tells against what another one does.
func checkLike(t *testing.T, got, want queue) {
	t.Helper()
	if g, w := stateOf(got), stateOf(want); g != w {
		t.Errorf("it tells %+v; want %+v", g, w)
	}
	if g, w := reached(got.Ready(), 0), reached(want.Ready(), 0); !slices.Equal(g, w) {
		t.Errorf("Ready: %v; want %v", g, w)
	}
	for _, id := range numbers() {
		v, ok := got.V(id)
		if w, is := want.V(id); v != w || ok != is {
			t.Errorf("V(%d): %d, %t; want %d, %t", id, v, ok, w, is)
		}
		weight, ok := got.Weight(id)
		if w, is := want.Weight(id); weight != w || ok != is {
			t.Errorf("Weight(%d): %d, %t; want %d, %t", id, weight, ok, w, is)
		}
	}
}

// twin is a queue, and a plain one to which just the same is done: behind each call they tell the same.
type twin struct {
	*testing.T
	q *runq.Queue
	p *plain
}

func newTwin(t *testing.T, grain int) *twin {
	t.Helper()
	x := &twin{t, runq.New(grain), newPlain(grain)}
	checkLike(t, x.q, x.p)
	return x
}

// both holds what a call answers, of either queue, against what it must answer.
func both[A comparable](x *twin, name string, call func(q queue) A, want A) {
	x.Helper()
	if got := call(x.q); got != want {
		x.Errorf("%s: %v; want %v", name, got, want)
	}
	if got := call(x.p); got != want {
		x.Errorf("%s of a plain queue: %v; want %v", name, got, want)
	}
	checkLike(x.T, x.q, x.p)
}

type vErr struct {
	v   uint64
	err api.Errno
}

type vOk struct {
	v  uint64
	ok bool
}

type idOk struct {
	id int
	ok bool
}

func (x *twin) add(id int, v uint64, w int, want uint64) {
	x.Helper()
	both(x, "Add", func(q queue) vErr { v, err := q.Add(id, v, w); return vErr{v, err} }, vErr{want, api.OK})
}

func (x *twin) refuse(id int, v uint64, w int, why api.Errno) {
	x.Helper()
	both(x, "Add", func(q queue) vErr { v, err := q.Add(id, v, w); return vErr{v, err} }, vErr{0, why})
}

func (x *twin) remove(id int, v uint64, ok bool) {
	x.Helper()
	both(x, "Remove", func(q queue) vOk { v, ok := q.Remove(id); return vOk{v, ok} }, vOk{v, ok})
}

// pick, back and tick ask for who it is; nobody goes with false.
func (x *twin) pick(id int) {
	x.Helper()
	both(x, "Pick", func(q queue) idOk { id, ok := q.Pick(); return idOk{id, ok} }, idOk{id, id != nobody})
}

func (x *twin) back(id int) {
	x.Helper()
	both(x, "Back", func(q queue) idOk { id, ok := q.Back(); return idOk{id, ok} }, idOk{id, id != nobody})
}

func (x *twin) tick(id int) {
	x.Helper()
	both(x, "Tick", func(q queue) idOk { id, ok := q.Tick(); return idOk{id, ok} }, idOk{id, id != nobody})
}

func (x *twin) ticks(id, n int) {
	x.Helper()
	for range n {
		x.tick(id)
	}
}

func (x *twin) due(want bool) {
	x.Helper()
	both(x, "Due", queue.Due, want)
}

func (x *twin) weigh(id, w int, want bool) {
	x.Helper()
	both(x, "Weigh", func(q queue) bool { return q.Weigh(id, w) }, want)
}

func (x *twin) settle(floor uint64) {
	x.Helper()
	both(x, "the floor behind Settle", func(q queue) uint64 { q.Settle(); return q.Floor() }, floor)
}

func (x *twin) current(id, ran int) {
	x.Helper()
	type who struct {
		id, ran int
		ok      bool
	}
	both(x, "Current", func(q queue) who { id, ran, ok := q.Current(); return who{id, ran, ok} }, who{id, ran, id != nobody})
}

func (x *twin) v(id int, want uint64) {
	x.Helper()
	both(x, "V", func(q queue) vOk { v, ok := q.V(id); return vOk{v, ok} }, vOk{want, true})
}

func (x *twin) weight(id, want int, is bool) {
	x.Helper()
	type weighed struct {
		w  int
		ok bool
	}
	both(x, "Weight", func(q queue) weighed { w, ok := q.Weight(id); return weighed{w, ok} }, weighed{want, is})
}

func (x *twin) counts(n, load int) {
	x.Helper()
	type counted struct{ n, load int }
	both(x, "Len and Load", func(q queue) counted { return counted{q.Len(), q.Load()} }, counted{n, load})
}

// ready holds who is ready, in order, against these numbers.
func (x *twin) ready(ids ...int) {
	x.Helper()
	var got []int
	for id := range x.q.Ready() {
		got = append(got, id)
	}
	if !slices.Equal(got, ids) {
		x.Errorf("ready are %v; want %v", got, ids)
	}
	checkLike(x.T, x.q, x.p)
}
