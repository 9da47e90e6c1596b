package prog

import "forelock/api"

// reader goes over words, one behind the other. At what is met first it stays, and from then on it takes nothing, so that nobody has to ask behind each word.
type reader struct {
	words []api.Word
	at    int
	err   api.Errno
}

func (r *reader) prog() api.Prog {
	var p api.Prog
	r.need(name("prog"))
	p.Forever = r.take(name("forever"))
	r.need(mark("{"))
	p.Ops = r.ops()
	r.need(mark("}"))
	return p
}

// ops answers the ops up to ahead of the }.
func (r *reader) ops() []api.Op {
	var l []api.Op
	for r.err == api.OK && r.next() != mark("}") {
		// A word that begins no op isn't a 13th one: what can't go on is told of it, as of any other.
		if len(l) == api.MaxOps && kindOf(r.next()) != 0 {
			r.fail(api.ErrLong)
		}
		l = append(l, r.op())
	}
	if len(l) == 0 {
		r.fail(api.ErrNone)
	}
	return l
}

func (r *reader) op() api.Op {
	kind := kindOf(r.next())
	if kind == 0 {
		r.fail(api.ErrForm)
		return api.Op{}
	}
	s := shapeOf(kind)
	op := api.Op{Kind: kind}
	r.need(name(s.name))
	if s.numbers >= 1 {
		op.A = r.number(s.a)
	}
	if s.numbers >= 2 {
		op.B = r.number(s.b)
	}
	r.need(mark(";"))
	return op
}

// next answers the word that is ahead, without its place, so that it may be held against another; a word of no kind, if there is none any more.
func (r *reader) next() api.Word {
	if r.at >= len(r.words) {
		return api.Word{}
	}
	w := r.words[r.at]
	w.At = 0
	return w
}

// take goes on behind w, if it is ahead.
func (r *reader) take(w api.Word) bool {
	if r.err != api.OK || r.next() != w {
		return false
	}
	r.at++
	return true
}

// need goes on behind w, which must be ahead.
func (r *reader) need(w api.Word) {
	if !r.take(w) {
		r.fail(api.ErrForm)
	}
}

// number goes on behind a number, which must be ahead and in that span, and answers it.
func (r *reader) number(may span) int {
	w := r.next()
	if w != number(w.N) {
		r.fail(api.ErrForm)
	} else if !may.has(w.N) {
		r.fail(api.ErrArg)
	}
	if !r.take(w) {
		return 0
	}
	return w.N
}

// fail keeps why it can't go on, if nothing was met ahead of that.
func (r *reader) fail(why api.Errno) {
	if r.err == api.OK {
		r.err = why
	}
}
