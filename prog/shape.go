package prog

import "forelock/api"

// span is the numbers from least to most; that of a number which an op hasn't is left out, so that it has 0 alone.
type span struct {
	least, most int
}

func (s span) has(n int) bool {
	return n >= s.least && n <= s.most
}

// shape is what ops of one kind are like: their first word, how many numbers stand behind it, and what A and B may be.
type shape struct {
	name    string
	numbers int
	a, b    span
}

// shapeOf answers the shape of ops of that kind, one without a name of other kinds.
func shapeOf(kind int) shape {
	lock := span{0, api.MaxLocks - 1}
	switch kind {
	case api.OpCompute:
		return shape{name: "compute", numbers: 1, a: span{1, api.MaxTicks}}
	case api.OpLock:
		return shape{name: "lock", numbers: 1, a: lock}
	case api.OpRead:
		return shape{name: "read", numbers: 1, a: lock}
	case api.OpTry:
		return shape{name: "try", numbers: 1, a: lock}
	case api.OpTimed:
		return shape{name: "timed", numbers: 2, a: lock, b: span{1, api.MaxSleep}}
	case api.OpUnlock:
		return shape{name: "unlock", numbers: 1, a: lock}
	case api.OpSleep:
		return shape{name: "sleep", numbers: 1, a: span{1, api.MaxSleep}}
	case api.OpYield:
		return shape{name: "yield"}
	case api.OpSpawn:
		return shape{name: "spawn", numbers: 1, a: span{0, api.MaxProgs - 1}}
	case api.OpWeight:
		return shape{name: "weight", numbers: 1, a: span{1, api.MaxWeight}}
	case api.OpExit:
		return shape{name: "exit"}
	}
	return shape{}
}

// kindOf answers the kind of the ops whose first word is w, 0 if w begins none.
func kindOf(w api.Word) int {
	for kind := api.OpCompute; kind <= api.OpExit; kind++ {
		if w == name(Name(kind)) {
			return kind
		}
	}
	return 0
}

func mayOp(op api.Op) bool {
	s := shapeOf(op.Kind)
	return s.name != "" && s.a.has(op.A) && s.b.has(op.B)
}

// opWords answers the words of an op that may be.
func opWords(op api.Op) []api.Word {
	s := shapeOf(op.Kind)
	l := []api.Word{name(s.name)}
	if s.numbers >= 1 {
		l = append(l, number(op.A))
	}
	if s.numbers >= 2 {
		l = append(l, number(op.B))
	}
	return append(l, mark(";"))
}

func name(text string) api.Word {
	return api.Word{Kind: api.WordName, Text: text}
}

func number(n int) api.Word {
	return api.Word{Kind: api.WordNum, N: n}
}

func mark(text string) api.Word {
	return api.Word{Kind: api.WordMark, Text: text}
}
