package waitq_test

import (
	"cmp"
	"iter"
	"math"
	"slices"
	"testing"

	"forelock/api"
	"forelock/waitq"
)

// table is what is asked of a table.
type table interface {
	Wait(w api.Wait) api.Errno
	Wake(key, n int) []int
	Cancel(who int) (api.Wait, bool)
	Requeue(from, to, n int) int
	Expire(now uint64) iter.Seq[api.Wait]
	Count(key int) int
	Of(key int) iter.Seq[api.Wait]
	Who(who int) (api.Wait, bool)
	Len() int
}

// plain is a table as the chapter tells it, with no thought of time: a list in the order in which they came.
type plain struct {
	most, each int
	list       []api.Wait
}

func (p *plain) place(who int) int {
	return slices.IndexFunc(p.list, func(w api.Wait) bool { return w.Who == who })
}

func (p *plain) of(key int) []api.Wait {
	return slices.DeleteFunc(slices.Clone(p.list), func(w api.Wait) bool { return w.Key != key })
}

func (p *plain) Wait(w api.Wait) api.Errno {
	switch {
	case p.place(w.Who) >= 0:
		return api.ErrMet
	case len(p.list) >= p.most, len(p.of(w.Key)) >= p.each:
		return api.ErrFull
	}
	p.list = append(p.list, w)
	return api.OK
}

func (p *plain) Wake(key, n int) []int {
	l := p.of(key)
	l = l[:min(max(n, 0), len(l))]
	var whos []int
	for _, w := range l {
		p.Cancel(w.Who)
		whos = append(whos, w.Who)
	}
	return whos
}

func (p *plain) Cancel(who int) (api.Wait, bool) {
	at := p.place(who)
	if at < 0 {
		return api.Wait{}, false
	}
	w := p.list[at]
	p.list = slices.Delete(p.list, at, at+1)
	return w, true
}

func (p *plain) Requeue(from, to, n int) int {
	if from == to {
		return 0
	}
	moved := 0
	for _, w := range p.of(from) {
		if moved >= n || len(p.of(to)) >= p.each {
			break
		}
		p.Cancel(w.Who)
		p.list = append(p.list, wait(w.Who, to, w.Until))
		moved++
	}
	return moved
}

func (p *plain) Expire(now uint64) iter.Seq[api.Wait] {
	return func(yield func(api.Wait) bool) {
		l := slices.DeleteFunc(slices.Clone(p.list), func(w api.Wait) bool { return w.Until == 0 || w.Until > now })
		slices.SortFunc(l, func(a, b api.Wait) int { return cmp.Or(cmp.Compare(a.Until, b.Until), cmp.Compare(a.Who, b.Who)) })
		for _, w := range l {
			p.Cancel(w.Who)
			if !yield(w) {
				return
			}
		}
	}
}

func (p *plain) Count(key int) int {
	return len(p.of(key))
}

func (p *plain) Of(key int) iter.Seq[api.Wait] {
	return slices.Values(p.of(key))
}

func (p *plain) Who(who int) (api.Wait, bool) {
	at := p.place(who)
	if at < 0 {
		return api.Wait{}, false
	}
	return p.list[at], true
}

func (p *plain) Len() int {
	return len(p.list)
}

// step is a call, and what is handed in.
type step struct {
	kind int
	who  int
	key  int
	to   int
	n    int
	at   uint64
}

// answer is what a call answers.
type answer struct {
	err   api.Errno
	n     int
	ok    bool
	whos  []int
	waits []api.Wait
}

func (a answer) same(b answer) bool {
	return a.err == b.err && a.n == b.n && a.ok == b.ok && slices.Equal(a.whos, b.whos) && slices.Equal(a.waits, b.waits)
}

// do does a step to a table, and answers what that answered.
func (s step) do(x table) answer {
	switch s.kind {
	case 0, 1, 2, 3, 4:
		return answer{err: x.Wait(wait(s.who, s.key, s.at))}
	case 5:
		return answer{whos: x.Wake(s.key, s.n)}
	case 6:
		w, ok := x.Cancel(s.who)
		return answer{waits: []api.Wait{w}, ok: ok}
	case 7:
		return answer{n: x.Requeue(s.key, s.to, s.n)}
	case 8:
		return answer{waits: reached(x.Expire(s.at), s.n)}
	}
	return answer{waits: reached(x.Of(s.key), s.n)}
}

// row answers numbers below n, the same ones each time.
func row(seed uint64) func(n int) int {
	state := seed
	return func(n int) int {
		state = state*6364136223846793005 + 1442695040888963407
		return int((state ^ state>>29) >> 33 % uint64(n))
	}
}

// drawn is a step of a run of tables for most: as many keys as each of them is waited for by a few.
func drawn(next func(n int) int, most int) step {
	keys := most/5 + 2
	s := step{kind: next(10), who: next(2*most+2) - most/2, key: next(keys) - 1, to: next(keys) - 1, n: next(5) - 1}
	if next(3) > 0 {
		s.at = uint64(next(2 * (most + 1)))
	}
	return s
}

// checkSame holds all that a table says without being changed against what it is to say.
func checkSame(t *testing.T, x table, p *plain) {
	t.Helper()
	if x.Len() != p.Len() {
		t.Errorf("Len: %d; want %d", x.Len(), p.Len())
	}
	for key := -2; key <= p.most/5+2; key++ {
		got, want := reached(x.Of(key), 0), p.of(key)
		if !slices.Equal(got, want) || x.Count(key) != len(want) {
			t.Errorf("of the key %d: %v, %d; want %v", key, got, x.Count(key), want)
		}
	}
	for who := -p.most/2 - 1; who <= 2*p.most+2; who++ {
		got, is := x.Who(who)
		want, ok := p.Who(who)
		if got != want || is != ok {
			t.Errorf("Who(%d): %v, %v; want %v, %v", who, got, is, want, ok)
		}
	}
}

// The answers are the same over few and many buckets, and those of a plain list.
func TestManyRuns(t *testing.T) {
	for most := range 26 {
		for _, each := range []int{most/4 + 1, most} {
			next := row(uint64(most)*2 + uint64(each) + 20261119)
			p := &plain{most: most, each: each}
			var l []*waitq.Table
			for _, buckets := range []int{1, 2, 7, math.MaxInt} {
				l = append(l, waitq.New(buckets, most, each))
			}
			for i := range 800 {
				s := drawn(next, most)
				want := s.do(p)
				for _, x := range l {
					if got := s.do(x); !got.same(want) {
						t.Errorf("%+v: %+v; want %+v", s, got, want)
					}
					checkSame(t, x, p)
				}
				if t.Failed() {
					t.Fatalf("room for %d and %d, step %d", most, each, i)
				}
			}
		}
	}
}

// once is who waits, by what came of the calls alone: how often each came, less how often it went.
type once map[int]int

func (o once) count(s step, a answer) {
	switch {
	case s.kind <= 4 && a.err == api.OK:
		o[s.who]++
	case s.kind == 5:
		for _, who := range a.whos {
			o[who]--
		}
	case s.kind == 6 && a.ok, s.kind == 8:
		for _, w := range a.waits {
			o[w.Who]--
		}
	}
}

// Who waits is woken, cancelled or expires once, and till then it waits.
func TestEachGoesOnce(t *testing.T) {
	for _, buckets := range []int{1, 2, 64} {
		next := row(uint64(buckets))
		x, o := waitq.New(buckets, 20, 8), once{}
		for i := range 4000 {
			s := drawn(next, 20)
			o.count(s, s.do(x))
			waiting := 0
			for who, n := range o {
				if _, ok := x.Who(who); n < 0 || n > 1 || ok != (n == 1) {
					t.Fatalf("step %d, %+v: %d is there %d times; Who says %v", i, s, who, n, ok)
				}
				waiting += n
			}
			if x.Len() != waiting {
				t.Fatalf("step %d, %+v: Len: %d; want %d", i, s, x.Len(), waiting)
			}
		}
	}
}
