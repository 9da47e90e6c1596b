package words

import "forelock/api"

// Reader goes over words, one behind the other. At what is met first it stays, and from then on it takes nothing, so that nobody has to ask behind each word.
type Reader struct {
	list []api.Word
	at   int
	err  api.Errno
}

// Read answers a reader of l from that place on; one that stays at 0 with api.ErrForm, if that is no place of l and not how many words there are.
func Read(l []api.Word, at int) *Reader {
	if at < 0 || at > len(l) {
		return &Reader{err: api.ErrForm}
	}
	return &Reader{list: l, at: at}
}

// Met answers the place of the word that is ahead, and what was met there: api.OK, if r can go on.
func (r *Reader) Met() (int, api.Errno) {
	return r.at, r.err
}

// Goes answers whether r can go on.
func (r *Reader) Goes() bool {
	return r.err == api.OK
}

// Ends answers whether there is no word ahead any more.
func (r *Reader) Ends() bool {
	return r.at >= len(r.list)
}

// Next answers the word that is ahead, without its place, so that it may be held against another; a word of no kind, if there is none any more.
func (r *Reader) Next() api.Word {
	if r.Ends() {
		return api.Word{}
	}
	w := r.list[r.at]
	w.At = 0
	return w
}

// Take goes on behind w, a word without a place, if it is ahead.
func (r *Reader) Take(w api.Word) bool {
	if !r.Goes() || r.Ends() || r.Next() != w {
		return false
	}
	r.at++
	return true
}

// Need goes on behind w, which must be ahead: else api.ErrForm is met.
func (r *Reader) Need(w api.Word) {
	if !r.Take(w) {
		r.Fail(api.ErrForm)
	}
}

// Number goes on behind a number that may be, and answers it: else api.ErrForm is met of a word that is none, api.ErrArg of one that may not be.
func (r *Reader) Number(may Span) int {
	w := r.Next()
	if w != Number(w.N) {
		r.Fail(api.ErrForm)
	} else if !may.Has(w.N) {
		r.Fail(api.ErrArg)
	}
	if !r.Take(w) {
		return 0
	}
	return w.N
}

// Fail keeps why r can't go on, if nothing was met ahead of that.
func (r *Reader) Fail(why api.Errno) {
	if r.Goes() {
		r.err = why
	}
}

// Part goes on behind what parse reads from here on, and answers that: parse answers with it the place behind, or what it met, and where.
func Part[T any](r *Reader, parse func(l []api.Word, at int) (T, int, api.Errno)) T {
	var part T
	if r.Goes() {
		part, r.at, r.err = parse(r.list, r.at)
	}
	return part
}
