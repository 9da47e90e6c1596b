package setup

import (
	"slices"

	"forelock/api"
	"forelock/crit"
	"forelock/prog"
	"forelock/words"
)

// part is what a setup has several of: how many there may be, and the words with which one begins.
type part struct {
	count  words.Span
	firsts []string
}

func groupPart() part {
	return part{words.Span{Least: 1, Most: api.MaxGroups}, []string{"group"}}
}

func lockPart() part {
	return part{words.Span{Least: 0, Most: api.MaxLocks}, []string{"lock", "shared"}}
}

func progPart() part {
	return part{words.Span{Least: 1, Most: api.MaxProgs}, []string{"prog"}}
}

// begins answers whether one begins with w.
func (p part) begins(w api.Word) bool {
	return slices.ContainsFunc(p.firsts, func(first string) bool { return w == words.Name(first) })
}

// readSetup answers a setup whose programs needn't fit yet, and the places where these begin.
func readSetup(r *words.Reader) (api.Setup, []int) {
	var s api.Setup
	coresLine(&s.Cores).read(r)
	grainLine(&s.Grain).read(r)
	s.Groups = readSeveral(r, groupPart(), readGroup)
	s.Locks = readSeveral(r, lockPart(), readLock)
	var starts []int
	s.Progs = readSeveral(r, progPart(), func(r *words.Reader) api.Prog {
		at, _ := r.Met()
		starts = append(starts, at)
		return words.Part(r, prog.Parse)
	})
	return s, starts
}

// readSeveral answers all that follow of that part, read one by one.
func readSeveral[T any](r *words.Reader, p part, read func(r *words.Reader) T) []T {
	var l []T
	// Those that there must be at least are read whatever is ahead: if it isn't one, that is met.
	for r.Goes() && (len(l) < p.count.Least || p.begins(r.Next())) {
		if len(l) == p.count.Most {
			r.Fail(api.ErrLong)
		}
		l = append(l, read(r))
	}
	return l
}

func readGroup(r *words.Reader) int {
	var weight int
	groupLine(&weight).read(r)
	return weight
}

func readLock(r *words.Reader) api.Lock {
	lock := api.Lock{Shared: r.Next() == words.Name("shared")}
	lockLine(&lock).read(r)
	return lock
}

// mayCounts answers whether there may be so many groups, locks and programs.
func mayCounts(s api.Setup) bool {
	return groupPart().count.Has(len(s.Groups)) && lockPart().count.Has(len(s.Locks)) && progPart().count.Has(len(s.Progs))
}

// mayNumbers answers whether all numbers of s but those of its programs may be.
func mayNumbers(s api.Setup) bool {
	for _, l := range lines(s) {
		if !l.may() {
			return false
		}
	}
	return !slices.ContainsFunc(s.Locks, untold)
}

// untold answers whether a lock has numbers of which its line doesn't tell: weights, though it isn't Shared.
func untold(lock api.Lock) bool {
	return !lock.Shared && (lock.Read != 0 || lock.Write != 0)
}

// misfit answers which program is the first that doesn't fit, and why; 0 and api.OK, if all do.
func misfit(s api.Setup) (int, api.Errno) {
	for i, p := range s.Progs {
		if _, err := crit.Check(p, s.Locks, len(s.Progs)); err != api.OK {
			return i, err
		}
	}
	return 0, api.OK
}
