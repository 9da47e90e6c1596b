package prog

import (
	"forelock/api"
	"forelock/words"
)

func readProg(r *words.Reader) api.Prog {
	var p api.Prog
	r.Need(words.Name("prog"))
	p.Forever = r.Take(words.Name("forever"))
	r.Need(words.Mark("{"))
	p.Ops = readOps(r)
	r.Need(words.Mark("}"))
	return p
}

// readOps answers the ops up to ahead of the }.
func readOps(r *words.Reader) []api.Op {
	var l []api.Op
	for r.Goes() && r.Next() != words.Mark("}") {
		// A word that begins no op isn't a 13th one: what can't go on is told of it, as of any other.
		if len(l) == api.MaxOps && kindOf(r.Next()) != 0 {
			r.Fail(api.ErrLong)
		}
		l = append(l, readOp(r))
	}
	if len(l) == 0 {
		r.Fail(api.ErrNone)
	}
	return l
}

func readOp(r *words.Reader) api.Op {
	kind := kindOf(r.Next())
	if kind == 0 {
		r.Fail(api.ErrForm)
		return api.Op{}
	}
	s := shapeOf(kind)
	op := api.Op{Kind: kind}
	r.Need(words.Name(s.name))
	if s.numbers >= 1 {
		op.A = r.Number(s.a)
	}
	if s.numbers >= 2 {
		op.B = r.Number(s.b)
	}
	r.Need(words.Mark(";"))
	return op
}
