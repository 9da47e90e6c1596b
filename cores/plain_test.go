package cores_test

import (
	"cmp"
	"iter"
	"math"
	"slices"

	"forelock/api"
)

const (
	nobody   = -1
	coreUnit = 1 << 40
	most     = math.MaxUint64
)

// plain is cores as the chapters tell them: one list of all tasks, in the order in which they came.
type plain struct {
	grain int
	cores []plainCore
	tasks []plainTask
}

type plainCore struct {
	floor   uint64
	current int
	ran     int
}

type plainTask struct {
	id, core int
	v        uint64
	w        int
}

// brought is n, brought to what lies from one to the other.
func brought(n, from, to int) int {
	switch {
	case n < from:
		return from
	case n > to:
		return to
	}
	return n
}

// sum is a and b, added; the greatest number, if that is more.
func sum(a, b uint64) uint64 {
	if b > most-a {
		return most
	}
	return a + b
}

func cost(w int) uint64 {
	return coreUnit / uint64(brought(w, 1, 4096))
}

func newPlain(n, grain int) *plain {
	p := &plain{grain: brought(grain, 1, 8)}
	for range brought(n, 1, 4) {
		p.cores = append(p.cores, plainCore{current: nobody})
	}
	return p
}

func (p *plain) is(core int) bool {
	return core >= 0 && core < len(p.cores)
}

// find is the task by that number, wherever it is.
func (p *plain) find(id int) *plainTask {
	for i := range p.tasks {
		if p.tasks[i].id == id {
			return &p.tasks[i]
		}
	}
	return nil
}

// there is those at a core, in order.
func (p *plain) there(core int) []plainTask {
	var l []plainTask
	for _, x := range p.tasks {
		if x.core == core {
			l = append(l, x)
		}
	}
	slices.SortFunc(l, func(a, b plainTask) int { return cmp.Or(cmp.Compare(a.v, b.v), cmp.Compare(a.id, b.id)) })
	return l
}

// ready is those at a core who aren't current, in order.
func (p *plain) ready(core int) []plainTask {
	var l []plainTask
	for _, x := range p.there(core) {
		if x.id != p.cores[core].current {
			l = append(l, x)
		}
	}
	return l
}

// reachable is v, brought to what a queue allows at that weight.
func (p *plain) reachable(core int, v uint64, w int) uint64 {
	floor := p.cores[core].floor
	return min(max(v, floor), sum(floor, cost(w)*uint64(p.grain)))
}

func (p *plain) Len() int {
	return len(p.cores)
}

func (p *plain) Add(core, id int, v uint64, w int) (uint64, api.Errno) {
	if !p.is(core) || id < 0 {
		return 0, api.ErrArg
	}
	if p.find(id) != nil {
		return 0, api.ErrMet
	}
	if len(p.tasks) == 16 {
		return 0, api.ErrFull
	}
	v = p.reachable(core, v, w)
	p.tasks = append(p.tasks, plainTask{id, core, v, brought(w, 1, 4096)})
	return v, api.OK
}

func (p *plain) Remove(id int) (uint64, bool) {
	x := p.find(id)
	if x == nil {
		return 0, false
	}
	was := *x
	if p.cores[was.core].current == id {
		p.cores[was.core].current = nobody
	}
	p.tasks = slices.DeleteFunc(p.tasks, func(y plainTask) bool { return y.id == id })
	return was.v, true
}

func (p *plain) Of(id int) int {
	if x := p.find(id); x != nil {
		return x.core
	}
	return -1
}

func (p *plain) Move(id, core int) api.Errno {
	x := p.find(id)
	if x == nil {
		return api.ErrNone
	}
	if !p.is(core) {
		return api.ErrArg
	}
	if x.core == core {
		return api.ErrMet
	}
	if p.cores[x.core].current == id {
		return api.ErrBusy
	}
	above := uint64(0)
	if floor := p.cores[x.core].floor; x.v > floor {
		above = x.v - floor
	}
	x.core, x.v = core, p.reachable(core, sum(p.cores[core].floor, above), x.w)
	return api.OK
}

func (p *plain) Balance() (int, int, int, bool) {
	loads := p.Loads()
	from := slices.Index(loads, slices.Max(loads))
	to := slices.Index(loads, slices.Min(loads))
	for _, x := range p.ready(from) {
		if loads[to]+x.w < loads[from] {
			p.Move(x.id, to)
			return x.id, from, to, true
		}
	}
	return nobody, -1, -1, false
}

func (p *plain) Weigh(id, w int) bool {
	x := p.find(id)
	if x == nil {
		return false
	}
	w = brought(w, 1, 4096)
	if c := &p.cores[x.core]; c.current == id && x.w != w {
		c.ran = p.grain
	}
	x.w, x.v = w, p.reachable(x.core, x.v, w)
	return true
}

func (p *plain) Settle() {
	for core := range p.cores {
		p.at(core).Settle()
	}
}

func (p *plain) Loads() []int {
	l := make([]int, len(p.cores))
	for _, x := range p.tasks {
		l[x.core] += x.w
	}
	return l
}

func (p *plain) at(core int) seat {
	return plainSeat{p, core}
}

// plainSeat is a core's queue.
type plainSeat struct {
	p    *plain
	core int
}

func (s plainSeat) own() *plainCore {
	return &s.p.cores[s.core]
}

func (s plainSeat) Pick() (int, bool) {
	l := s.p.ready(s.core)
	if s.own().current != nobody || len(l) == 0 {
		return nobody, false
	}
	s.own().current, s.own().ran = l[0].id, 0
	return l[0].id, true
}

func (s plainSeat) Due() bool {
	x, l := s.p.find(s.own().current), s.p.ready(s.core)
	return x != nil && s.own().ran >= s.p.grain && len(l) > 0 && l[0].v < x.v
}

func (s plainSeat) Back() (int, bool) {
	id := s.own().current
	s.own().current = nobody
	return id, id != nobody
}

func (s plainSeat) Tick() (int, bool) {
	x := s.p.find(s.own().current)
	if x == nil {
		return nobody, false
	}
	x.v = sum(x.v, cost(x.w))
	s.own().ran++
	return x.id, true
}

func (s plainSeat) Weigh(id, w int) bool {
	return s.p.Of(id) == s.core && s.p.Weigh(id, w)
}

func (s plainSeat) Settle() {
	if l := s.p.there(s.core); len(l) > 0 {
		s.own().floor = max(s.own().floor, l[0].v)
	}
}

func (s plainSeat) V(id int) (uint64, bool) {
	if s.p.Of(id) != s.core {
		return 0, false
	}
	return s.p.find(id).v, true
}

func (s plainSeat) Current() (int, int, bool) {
	if s.own().current == nobody {
		return nobody, 0, false
	}
	return s.own().current, s.own().ran, true
}

func (s plainSeat) Floor() uint64 {
	return s.own().floor
}

func (s plainSeat) Len() int {
	return len(s.p.there(s.core))
}

func (s plainSeat) Load() int {
	return s.p.Loads()[s.core]
}

func (s plainSeat) Ready() iter.Seq2[int, uint64] {
	return func(yield func(int, uint64) bool) {
		for _, x := range s.p.ready(s.core) {
			if !yield(x.id, x.v) {
				return
			}
		}
	}
}
