package setup

import (
	"slices"

	"forelock/api"
	"forelock/words"
)

// line is what stands up to a ; with it: its first word, and its numbers. Parse, May and Words all go over lines, so that what a number may be is told once.
type line struct {
	first   string
	numbers []number
}

// number is one of a line: the name ahead of it, if it isn't the first word that names it, what it may be, and where it is kept.
type number struct {
	name string
	may  words.Span
	n    *int
}

func coresLine(n *int) line {
	return line{"cores", []number{{"", words.Span{Least: 1, Most: api.MaxCores}, n}}}
}

func grainLine(n *int) line {
	return line{"grain", []number{{"", words.Span{Least: 1, Most: api.MaxGrain}, n}}}
}

func groupLine(weight *int) line {
	return line{"group", []number{{"", words.Span{Least: 1, Most: api.MaxWeight}, weight}}}
}

// lockLine answers the line of a lock of which it is known already whether it is Shared.
func lockLine(lock *api.Lock) line {
	weight := words.Span{Least: 1, Most: api.MaxWeight}
	l := line{"lock", []number{
		{"slice", words.Span{Least: 1, Most: api.MaxSlice}, &lock.Slice},
		{"crit", words.Span{Least: 1, Most: api.MaxCrit}, &lock.Crit},
	}}
	if lock.Shared {
		l.first = "shared"
		l.numbers = append(l.numbers, number{"read", weight, &lock.Read}, number{"write", weight, &lock.Write})
	}
	return l
}

// lines answers the lines of s, of all that stands ahead of its programs.
func lines(s api.Setup) []line {
	l := []line{coresLine(&s.Cores), grainLine(&s.Grain)}
	for _, weight := range s.Groups {
		l = append(l, groupLine(&weight))
	}
	for _, lock := range s.Locks {
		l = append(l, lockLine(&lock))
	}
	return l
}

// read goes on behind the line, and puts its numbers where they are kept.
func (l line) read(r *words.Reader) {
	r.Need(words.Name(l.first))
	for _, x := range l.numbers {
		if x.name != "" {
			r.Need(words.Name(x.name))
		}
		*x.n = r.Number(x.may)
	}
	r.Need(words.Mark(";"))
}

// may answers whether all numbers of the line may be.
func (l line) may() bool {
	return !slices.ContainsFunc(l.numbers, func(x number) bool { return !x.may.Has(*x.n) })
}

func (l line) words() []api.Word {
	all := []api.Word{words.Name(l.first)}
	for _, x := range l.numbers {
		if x.name != "" {
			all = append(all, words.Name(x.name))
		}
		all = append(all, words.Number(*x.n))
	}
	return append(all, words.Mark(";"))
}
