package acts

import (
	"forelock/api"
	"forelock/words"
)

// readActs answers the acts of all words that are ahead.
func readActs(r *words.Reader) []api.Act {
	var l []api.Act
	for r.Goes() && !r.Ends() {
		// A word that begins no act isn't the first of a 4001st one: what can't go on is told of it, as of any other.
		if len(l) == api.MaxActs && kindOf(r.Next()) != 0 {
			r.Fail(api.ErrLong)
		}
		l = append(l, readAct(r))
	}
	return l
}

func readAct(r *words.Reader) api.Act {
	kind := kindOf(r.Next())
	if kind == 0 {
		r.Fail(api.ErrForm)
		return api.Act{}
	}
	s := shapeOf(kind)
	var numbers [mostNumbers]int
	r.Need(words.Name(s.name))
	for place := range s.numbers {
		numbers[place] = readNumber(r, s.may(place))
	}
	r.Need(words.Mark(";"))
	return api.Act{Kind: kind, A: numbers[0], B: numbers[1], C: numbers[2], D: numbers[3]}
}

// readNumber goes on behind a number that may be. One that may not be is no number of a script at all, so that of acts api.ErrForm is told of it, not api.ErrArg.
func readNumber(r *words.Reader, may words.Span) int {
	if !may.Has(r.Next().N) {
		r.Fail(api.ErrForm)
	}
	return r.Number(may)
}
