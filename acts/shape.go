package acts

import (
	"forelock/api"
	"forelock/words"
)

const (
	mostNumbers = 4         // of an act: A, B, C and D
	mostNumber  = 999999999 // the greatest one that a script's words can tell
)

// shape is what acts of one kind are like: their first word, and how many numbers stand behind it.
type shape struct {
	name    string
	numbers int
}

// shapeOf answers the shape of acts of that kind, one without a name of other kinds.
func shapeOf(kind int) shape {
	switch kind {
	case api.ActTick:
		return shape{"tick", 1}
	case api.ActFire:
		return shape{"fire", 0}
	case api.ActBalance:
		return shape{"balance", 0}
	case api.ActSpawn:
		return shape{"spawn", 4}
	case api.ActKill:
		return shape{"kill", 1}
	case api.ActGroup:
		return shape{"group", 2}
	case api.ActMove:
		return shape{"move", 2}
	case api.ActRound:
		return shape{"round", 1}
	}
	return shape{}
}

// kindOf answers the kind of the acts whose first word is w, 0 if w begins none.
func kindOf(w api.Word) int {
	for kind := api.ActTick; kind <= api.ActRound; kind++ {
		if w == words.Name(Name(kind)) {
			return kind
		}
	}
	return 0
}

// may answers what the number at that place of an act of this shape may be: one that the act hasn't is 0.
func (s shape) may(place int) words.Span {
	if place >= s.numbers {
		return words.Span{}
	}
	return words.Span{Least: 0, Most: mostNumber}
}

func numbersOf(a api.Act) [mostNumbers]int {
	return [mostNumbers]int{a.A, a.B, a.C, a.D}
}

func mayAct(a api.Act) bool {
	s := shapeOf(a.Kind)
	for place, n := range numbersOf(a) {
		if !s.may(place).Has(n) {
			return false
		}
	}
	return s.name != ""
}

// actWords answers the words of an act that may be.
func actWords(a api.Act) []api.Word {
	s := shapeOf(a.Kind)
	numbers := numbersOf(a)
	l := []api.Word{words.Name(s.name)}
	for _, n := range numbers[:s.numbers] {
		l = append(l, words.Number(n))
	}
	return append(l, words.Mark(";"))
}
