package prog

import (
	"forelock/api"
	"forelock/words"
)

// shape is what ops of one kind are like: their first word, how many numbers stand behind it, and what A and B may be; the span of a number that they haven't is left out, so that it has 0 alone.
type shape struct {
	name    string
	numbers int
	a, b    words.Span
}

// shapeOf answers the shape of ops of that kind, one without a name of other kinds.
func shapeOf(kind int) shape {
	lock := words.Span{Least: 0, Most: api.MaxLocks - 1}
	switch kind {
	case api.OpCompute:
		return shape{name: "compute", numbers: 1, a: words.Span{Least: 1, Most: api.MaxTicks}}
	case api.OpLock:
		return shape{name: "lock", numbers: 1, a: lock}
	case api.OpRead:
		return shape{name: "read", numbers: 1, a: lock}
	case api.OpTry:
		return shape{name: "try", numbers: 1, a: lock}
	case api.OpTimed:
		return shape{name: "timed", numbers: 2, a: lock, b: words.Span{Least: 1, Most: api.MaxSleep}}
	case api.OpUnlock:
		return shape{name: "unlock", numbers: 1, a: lock}
	case api.OpSleep:
		return shape{name: "sleep", numbers: 1, a: words.Span{Least: 1, Most: api.MaxSleep}}
	case api.OpYield:
		return shape{name: "yield"}
	case api.OpSpawn:
		return shape{name: "spawn", numbers: 1, a: words.Span{Least: 0, Most: api.MaxProgs - 1}}
	case api.OpWeight:
		return shape{name: "weight", numbers: 1, a: words.Span{Least: 1, Most: api.MaxWeight}}
	case api.OpExit:
		return shape{name: "exit"}
	}
	return shape{}
}

// kindOf answers the kind of the ops whose first word is w, 0 if w begins none.
func kindOf(w api.Word) int {
	for kind := api.OpCompute; kind <= api.OpExit; kind++ {
		if w == words.Name(Name(kind)) {
			return kind
		}
	}
	return 0
}

func mayOp(op api.Op) bool {
	s := shapeOf(op.Kind)
	return s.name != "" && s.a.Has(op.A) && s.b.Has(op.B)
}

// opWords answers the words of an op that may be.
func opWords(op api.Op) []api.Word {
	s := shapeOf(op.Kind)
	l := []api.Word{words.Name(s.name)}
	if s.numbers >= 1 {
		l = append(l, words.Number(op.A))
	}
	if s.numbers >= 2 {
		l = append(l, words.Number(op.B))
	}
	return append(l, words.Mark(";"))
}
