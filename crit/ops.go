package crit

import "forelock/api"

// takes answers whether op takes a lock, so that a section begins with it.
func takes(op api.Op) bool {
	switch op.Kind {
	case api.OpLock, api.OpRead, api.OpTry, api.OpTimed:
		return true
	}
	return false
}

// ends answers whether a section of that lock goes up to ahead of op at most.
func ends(op api.Op, lock int) bool {
	return op.Kind == api.OpExit || op.Kind == api.OpUnlock && op.A == lock
}

// rests answers whether op keeps a program that begins anew for ever from going round without a stop.
func rests(op api.Op) bool {
	switch op.Kind {
	case api.OpCompute, api.OpSleep, api.OpYield, api.OpExit:
		return true
	}
	return false
}

// section answers the section that begins with the op at from, which takes a lock.
func section(ops []api.Op, from int) api.Section {
	s := api.Section{From: from, To: from + 1, Lock: ops[from].A}
	for s.To < len(ops) && !ends(ops[s.To], s.Lock) {
		if ops[s.To].Kind == api.OpCompute {
			s.Ticks += ops[s.To].A
		}
		s.To++
	}
	return s
}

// checkOp answers what is met first of the op at that place of p, a program that may be.
func checkOp(p api.Prog, at int, locks []api.Lock, progs int) api.Errno {
	op := p.Ops[at]
	switch {
	case !there(op, len(locks), progs):
		return api.ErrNone
	case op.Kind == api.OpRead && !locks[op.A].Shared:
		return api.ErrArg
	case takes(op) && !mayHold(p, at, locks[op.A].Crit):
		return api.ErrCrit
	}
	return api.OK
}

// there answers whether what op speaks of is there: its lock among so many locks, its program among so many programs.
func there(op api.Op, locks, progs int) bool {
	switch {
	case op.Kind == api.OpSpawn:
		return op.A < progs
	case takes(op), op.Kind == api.OpUnlock:
		return op.A < locks
	}
	return true
}

// mayHold answers whether the section that begins at that place of p may be, of a lock with that Crit: it has ticks, not too many, and an end.
func mayHold(p api.Prog, at int, crit int) bool {
	s := section(p.Ops, at)
	open := p.Forever && s.To == len(p.Ops)
	return s.Ticks != 0 && s.Ticks <= crit && !open
}
