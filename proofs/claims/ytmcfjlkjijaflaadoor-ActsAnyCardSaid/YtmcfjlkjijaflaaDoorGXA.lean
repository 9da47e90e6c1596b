/-
  Critical sections and what fits some locks, plainly. No program.
  Setups, plainly: their words, how they are read, which may be. No program.
  Acts, plainly: their words, how they are read, which may be. No program.
  What is read of scanned words: acts that may be. No program.
  What layer 13's awake asks, plainly. No program. (Made by gen_acawake.py.)
  Acts as values, in cells, in rows. (Made by gen_acval.py.)
-/
import Derived.Test.YtmcfjlkjijaflaaDoorGT
import Derived.Test.YtmcfjlkjijaflaaDoorGS

/- Critical sections and what fits some locks, plainly. No program. -/
namespace Go.Proofs.YtmcfjlkjijaflaaDoor

/-- A lock: Shared, Slice, Crit, Read, Write. -/
abbrev Lk := Bool × Int × Int × Int × Int
def takesR (o : Opn) : Bool := decide (2 ≤ o.1) && decide (o.1 ≤ 5)
def timeR (o : Opn) : Bool := decide (o.1 = 1) || (decide (o.1 = 7) || (decide (o.1 = 8) || decide (o.1 = 11)))
def endCr (lock : Int) (o : Opn) : Bool := decide (o.1 = 11) || (decide (o.1 = 6) && decide (o.2.1 = lock))
/-- From place j on, t ticks so far: where a section ends, its ticks. -/
def secR (lock : Int) : List Opn → Nat → Int → Nat × Int
  | [], j, t => (j, t)
  | o :: L, j, t => if endCr lock o then (j, t) else secR lock L (j + 1) (if o.1 = 1 then t + o.2.1 else t)
def lockR (locks : List Lk) (a : Int) : Lk := (locks[a.toNat]?).getD (false, 0, 0, 0, 0)
/-- What is met of an op; rest: the ops behind it; n: how many there are; i: its place. -/
def metR (f : Bool) (n : Nat) (locks : List Lk) (progs : Int) (o : Opn) (rest : List Opn) (i : Nat) : Int :=
  if ((takesR o || decide (o.1 = 6)) && decide ((locks.length : Int) ≤ o.2.1)) || (decide (o.1 = 9) && decide (progs ≤ o.2.1)) then 4
  else if o.1 = 3 ∧ (lockR locks o.2.1).1 = false then 1
  else if takesR o = true ∧ ((secR o.2.1 rest (i + 1) 0).2 < 1 ∨ (lockR locks o.2.1).2.2.1 < (secR o.2.1 rest (i + 1) 0).2 ∨ (f = true ∧ (secR o.2.1 rest (i + 1) 0).1 = n)) then 13
  else 0
/-- From place i on; time: an op ahead takes time. -/
def goR (f : Bool) (n : Nat) (locks : List Lk) (progs : Int) : List Opn → Nat → Bool → Nat × Int
  | [], _, time => if f = true ∧ time = false then (0, 1) else (0, 0)
  | o :: L, i, time => if metR f n locks progs o L i = 0 then goR f n locks progs L (i + 1) (time || timeR o) else (i, metR f n locks progs o L i)
def checkR (p : Prg) (locks : List Lk) (progs : Int) : Nat × Int := if mayR p then goR p.1 p.2.length locks progs p.2 0 false else (0, 1)

theorem met_cases (f : Bool) (n : Nat) (locks : List Lk) (progs : Int) (o : Opn) (rest : List Opn) (i : Nat) : metR f n locks progs o rest i = 0 ∨ metR f n locks progs o rest i = 1 ∨ metR f n locks progs o rest i = 4 ∨ metR f n locks progs o rest i = 13 := by
  unfold metR
  split
  · exact .inr (.inr (.inl rfl))
  · split
    · exact .inr (.inl rfl)
    · split
      · exact .inr (.inr (.inr rfl))
      · exact .inl rfl
/-- More is allowed by other locks. -/
def moreR (locks locks' : List Lk) : Prop := locks.length ≤ locks'.length ∧ ∀ i, i < locks.length → (lockR locks i).1 = (lockR locks' i).1 ∧ (lockR locks i).2.2.1 ≤ (lockR locks' i).2.2.1
theorem met_more {f : Bool} {n : Nat} {locks locks' : List Lk} {progs progs' : Int} {o : Opn} {rest : List Opn} {i : Nat} (hm : moreR locks locks') (hp : progs ≤ progs') (ho : opMay o = true) (h : metR f n locks progs o rest i = 0) : metR f n locks' progs' o rest i = 0 := by
  have ha : takesR o = true ∨ o.1 = 6 → 0 ≤ o.2.1 := by
    intro ht
    simp only [opMay, Bool.and_eq_true] at ho
    have ha := ho.2.1
    unfold aMay at ha
    have hk : (2 ≤ o.1 ∧ o.1 ≤ 6) := by
      rcases ht with h | h
      · simp only [takesR, Bool.and_eq_true, decide_eq_true_eq] at h
        omega
      · omega
    have hl : limR o.1 = (0, 7) := by
      unfold limR
      rw [if_neg (by omega), if_pos (.inl hk)]
    rw [hl] at ha
    simp at ha
    exact ha.1
  unfold metR at h ⊢
  split at h
  · simp at h
  · next h1 =>
    split at h
    · simp at h
    · next h2 =>
      split at h
      · simp at h
      · next h3 =>
        simp only [Bool.or_eq_true, Bool.and_eq_true, decide_eq_true_eq, not_or, not_and] at h1
        have hlt : takesR o = true ∨ o.1 = 6 → o.2.1 < locks.length := fun ht => by
          have := h1.1 ht
          omega
        have hmi : takesR o = true → (lockR locks o.2.1).1 = (lockR locks' o.2.1).1 ∧ (lockR locks o.2.1).2.2.1 ≤ (lockR locks' o.2.1).2.2.1 := fun ht => by
          have h0 := ha (.inl ht)
          have h4 := hlt (.inl ht)
          obtain ⟨a, haa⟩ := Int.eq_ofNat_of_zero_le h0
          rw [haa]
          exact hm.2 a (by omega)
        rw [if_neg (by
          simp only [Bool.or_eq_true, Bool.and_eq_true, decide_eq_true_eq, not_or, not_and]
          refine ⟨fun ht => ?_, fun h9 => ?_⟩
          · have := hlt ht
            have := hm.1
            omega
          · have := h1.2 h9
            omega)]
        rw [if_neg (by
          rintro ⟨h5, h6⟩
          have ht : takesR o = true := by simp [takesR, h5]
          rw [← (hmi ht).1] at h6
          exact h2 ⟨h5, h6⟩)]
        rw [if_neg (by
          rintro ⟨ht, h7⟩
          have h8 := (hmi ht).2
          refine h3 ⟨ht, ?_⟩
          rcases h7 with h7 | h7 | h7
          · exact .inl h7
          · exact .inr (.inl (by omega))
          · exact .inr (.inr h7))]
theorem go_more {f : Bool} {n : Nat} {locks locks' : List Lk} {progs progs' : Int} (hm : moreR locks locks') (hp : progs ≤ progs') : ∀ (L : List Opn) (i : Nat) (time : Bool), (∀ o ∈ L, opMay o = true) → (goR f n locks progs L i time).2 = 0 → (goR f n locks' progs' L i time).2 = 0
  | [], i, time, _, h => h
  | o :: L, i, time, ho, h => by
    unfold goR at h ⊢
    by_cases h0 : metR f n locks progs o L i = 0
    · rw [if_pos h0] at h
      rw [if_pos (met_more hm hp (ho o (by simp)) h0)]
      exact go_more hm hp L (i + 1) _ (fun x hx => ho x (by simp [hx])) h
    · rw [if_neg h0] at h
      exact absurd h h0
/-- What fits, fits with more allowed. -/
theorem check_more {p : Prg} {locks locks' : List Lk} {progs progs' : Int} (hm : moreR locks locks') (hp : progs ≤ progs') (h : (checkR p locks progs).2 = 0) : (checkR p locks' progs').2 = 0 := by
  unfold checkR at h ⊢
  split at h
  · next hq =>
    rw [if_pos hq]
    simp only [mayR, Bool.and_eq_true, decide_eq_true_eq, List.all_eq_true] at hq
    exact go_more hm hp _ _ _ hq.2.2 h
  · simp at h
/-- The ticks of a section of a program that may be. -/
theorem sec_bound (lock : Int) : ∀ (L : List Opn) (j : Nat) (t : Int), (∀ o ∈ L, opMay o = true) → t ≤ (secR lock L j t).2 ∧ (secR lock L j t).2 ≤ t + 16 * L.length ∧ j ≤ (secR lock L j t).1 ∧ (secR lock L j t).1 ≤ j + L.length
  | [], j, t, _ => by simp [secR]
  | o :: L, j, t, h => by
    unfold secR
    split
    · simp
      omega
    · have ho := h o (by simp)
      have hb : o.1 = 1 → 1 ≤ o.2.1 ∧ o.2.1 ≤ 16 := by
        intro h1
        simp only [opMay, Bool.and_eq_true] at ho
        have ha := ho.2.1
        unfold aMay limR at ha
        rw [if_pos h1] at ha
        simpa using ha
      have ih := sec_bound lock L (j + 1) (if o.1 = 1 then t + o.2.1 else t) (fun x hx => h x (by simp [hx]))
      simp only [List.length_cons]
      split at ih
      · next h1 =>
        have := hb h1
        rw [if_pos h1]
        refine ⟨?_, ?_, ?_, ?_⟩ <;> omega
      · next h1 =>
        rw [if_neg h1]
        refine ⟨?_, ?_, ?_, ?_⟩ <;> omega
end Go.Proofs.YtmcfjlkjijaflaaDoor

/- Setups, plainly: their words, how they are read, which may be. No program. -/
namespace Go.Proofs.YtmcfjlkjijaflaaDoor

/-- A setup: Cores, Grain, Groups, Locks, Progs. -/
abbrev Stp := Int × Int × List Int × List Lk × List Prg
abbrev coresB : List By := [99, 111, 114, 101, 115]
abbrev grainB : List By := [103, 114, 97, 105, 110]
abbrev groupB : List By := [103, 114, 111, 117, 112]
abbrev sliceB : List By := [115, 108, 105, 99, 101]
abbrev critB : List By := [99, 114, 105, 116]
abbrev readB : List By := [114, 101, 97, 100]
abbrev writeB : List By := [119, 114, 105, 116, 101]
abbrev lockB : List By := [108, 111, 99, 107]
abbrev sharedB : List By := [115, 104, 97, 114, 101, 100]
abbrev semiW : Wd := (3, [59], 0, 0)
def fieldW (name : List By) (n : Int) : List Wd := [(1, name, 0, 0), (2, [], n, 0)]
def groupW (n : Int) : List Wd := fieldW groupB n ++ [semiW]
def lockW (x : Lk) : List Wd := (1, if x.1 then sharedB else lockB, 0, 0) :: (fieldW sliceB x.2.1 ++ (fieldW critB x.2.2.1 ++ ((if x.1 then fieldW readB x.2.2.2.1 ++ fieldW writeB x.2.2.2.2 else []) ++ [semiW])))
def wordsS (s : Stp) : List Wd := fieldW coresB s.1 ++ [semiW] ++ (fieldW grainB s.2.1 ++ [semiW]) ++ s.2.2.1.flatMap groupW ++ s.2.2.2.1.flatMap lockW ++ s.2.2.2.2.flatMap wordsR
def inS (n most : Int) : Bool := decide (1 ≤ n) && decide (n ≤ most)
def lkMay (x : Lk) : Bool := inS x.2.1 16 && inS x.2.2.1 32 && (if x.1 then inS x.2.2.2.1 16 && inS x.2.2.2.2 16 else decide (x.2.2.2.1 = 0) && decide (x.2.2.2.2 = 0))
def fitS (locks : List Lk) (n : Int) (p : Prg) : Bool := decide ((checkR p locks n).2 = 0)
def mayS (s : Stp) : Bool := inS s.1 4 && inS s.2.1 8 && inS s.2.2.1.length 4 && decide (s.2.2.2.1.length ≤ 8) && inS s.2.2.2.2.length 8 && s.2.2.1.all (inS · 16) && s.2.2.2.1.all lkMay && s.2.2.2.2.all (fitS s.2.2.2.1 s.2.2.2.2.length)

/-- Where a reader is, and its error. -/
abbrev Rd := Nat × Int
def isS (L : List Wd) (s : Rd) (k : Int) (t : List By) : Bool := decide (s.2 = 0) && isR L s.1 k t
def needS (L : List Wd) (s : Rd) (k : Int) (t : List By) : Rd := if isS L s k t then (s.1 + 1, s.2) else if s.2 = 0 then (s.1, 5) else s
def numS (L : List Wd) (s : Rd) (most : Int) : Int × Rd :=
  if s.2 ≠ 0 then (0, s) else match L[s.1]? with
  | none => (0, (s.1, 5))
  | some x => if x.1 = 2 then (if x.2.2.1 < 1 ∨ most < x.2.2.1 then (0, (s.1, 1)) else (x.2.2.1, (s.1 + 1, s.2))) else (0, (s.1, 5))
def fieldS (L : List Wd) (s : Rd) (name : List By) (most : Int) : Int × Rd := numS L (needS L s 1 name) most
def lockS (L : List Wd) (s : Rd) (sh : Bool) : Lk × Rd :=
  let a := fieldS L s sliceB 16
  let b := fieldS L a.2 critB 32
  let c := if sh then fieldS L b.2 readB 16 else (0, b.2)
  let d := if sh then fieldS L c.2 writeB 16 else (0, c.2)
  ((sh, a.1, b.1, c.1, d.1), needS L d.2 3 [59])
def groupsS (L : List Wd) : Nat → Rd → List Int → List Int × Rd
  | 0, s, gs => (gs, s)
  | n + 1, s, gs =>
    if isS L s 1 groupB = true ∨ (gs.length = 0 ∧ s.2 = 0) then
      if isS L s 1 groupB = true ∧ 4 ≤ gs.length then (gs, (s.1, 6))
      else groupsS L n (needS L (fieldS L s groupB 16).2 3 [59]) (gs ++ [(fieldS L s groupB 16).1])
    else (gs, s)
def locksS (L : List Wd) : Nat → Rd → List Lk → List Lk × Rd
  | 0, s, ls => (ls, s)
  | n + 1, s, ls =>
    if isS L s 1 lockB = true ∨ isS L s 1 sharedB = true then
      if 8 ≤ ls.length then (ls, (s.1, 6))
      else locksS L n (lockS L (s.1 + 1, s.2) (isS L s 1 sharedB)).2 (ls ++ [(lockS L (s.1 + 1, s.2) (isS L s 1 sharedB)).1])
    else (ls, s)
def progsS (L : List Wd) : Nat → Rd → List (Prg × Nat) → List (Prg × Nat) × Rd
  | 0, s, ps => (ps, s)
  | n + 1, s, ps =>
    if isS L s 1 progB = true ∨ (ps.length = 0 ∧ s.2 = 0) then
      if 8 ≤ ps.length then (ps, (s.1, 6))
      else progsS L n ((parseR L s.1).2.1.toNat, (parseR L s.1).2.2) (ps ++ [((parseR L s.1).1, s.1)])
    else (ps, s)
/-- The first one that doesn't fit. -/
def unfitS (locks : List Lk) (n : Int) : List (Prg × Nat) → Option Rd
  | [] => none
  | x :: ps => if (checkR x.1 locks n).2 = 0 then unfitS locks n ps else some (x.2, (checkR x.1 locks n).2)
def noneS : Stp := (0, 0, [], [], [])
def headS (L : List Wd) (a : Nat) : Int × Int × Rd :=
  let x := fieldS L (a, 0) coresB 4
  let y := fieldS L (needS L x.2 3 [59]) grainB 8
  (x.1, y.1, needS L y.2 3 [59])
def restS (L : List Wd) (s : Rd) : List Int × List Lk × List (Prg × Nat) × Rd :=
  let g := groupsS L 6 s []
  let l := locksS L 10 g.2 []
  let p := progsS L 10 l.2 []
  (g.1, l.1, p.1, p.2)
def parseS (L : List Wd) (at_ : Int) : Stp × Int × Int :=
  if at_ < 0 ∨ (L.length : Int) < at_ then (noneS, 0, 5)
  else
    let h := headS L at_.toNat
    let r := restS L h.2.2
    if r.2.2.2.2 ≠ 0 then (noneS, r.2.2.2.1, r.2.2.2.2)
    else match unfitS r.2.1 r.2.2.1.length r.2.2.1 with
      | some e => (noneS, e.1, e.2)
      | none => ((h.1, h.2.1, r.1, r.2.1, r.2.2.1.map (·.1)), r.2.2.2.1, 0)

theorem is_back {L : List Wd} {c : Nat} {y : Wd} {r : List Wd} (h : L.drop c = y :: r) (k : Int) (t t' : List By) (n p : Int) (hy : sameR y (k, t, n, p)) (k' : Int) : isS L (c, 0) k' t' = (decide (k = k') && decide (t = t')) := by
  unfold isS
  rw [is_at h, hy.1, hy.2.1]
  simp
theorem need_back {L : List Wd} {c : Nat} {y : Wd} {r : List Wd} (h : L.drop c = y :: r) {k : Int} {t : List By} {n p : Int} (hy : sameR y (k, t, n, p)) : needS L (c, 0) k t = (c + 1, 0) := by
  unfold needS
  rw [is_back h k t t n p hy k]
  simp
theorem num_back {L : List Wd} {c : Nat} {y : Wd} {r : List Wd} (h : L.drop c = y :: r) {n p most : Int} (hy : sameR y (2, [], n, p)) (hn : inS n most = true) : numS L (c, 0) most = (n, (c + 1, 0)) := by
  have e : L[c]? = some y := by rw [← List.head?_drop, h]; rfl
  simp only [inS, Bool.and_eq_true, decide_eq_true_eq] at hn
  unfold numS
  rw [if_neg (by simp)]
  simp only [e]
  have e3 : y.2.2.1 = n := hy.2.2
  rw [if_pos (show y.1 = 2 from hy.1), if_neg (by rw [e3]; omega), e3]
theorem field_back {L : List Wd} {c : Nat} {ws r : List Wd} {name : List By} {n most : Int} (h : L.drop c = ws ++ r) (hs : sameL ws (fieldW name n)) (hn : inS n most = true) : fieldS L (c, 0) name most = (n, (c + ws.length, 0)) ∧ L.drop (c + ws.length) = r := by
  refine ⟨?_, at_more h⟩
  obtain ⟨y, ws1, rfl, hy, h1⟩ := same_cons hs
  obtain ⟨z, ws2, rfl, hz, h2⟩ := same_cons h1
  have hw : ws2 = [] := by
    cases ws2 with
    | nil => rfl
    | cons a b => exact absurd h2 (by simp [sameL])
  subst hw
  have h3 : L.drop c = y :: (z :: r) := h
  unfold fieldS
  rw [need_back h3 hy, num_back (at_next h3) hz hn]
  rfl
theorem semi_back {L : List Wd} {c : Nat} {ws r : List Wd} (h : L.drop c = ws ++ r) (hs : sameL ws [semiW]) : needS L (c, 0) 3 [59] = (c + ws.length, 0) ∧ L.drop (c + ws.length) = r := by
  refine ⟨?_, at_more h⟩
  obtain ⟨y, ws1, rfl, hy, h1⟩ := same_cons hs
  have hw : ws1 = [] := by
    cases ws1 with
    | nil => rfl
    | cons a b => exact absurd h1 (by simp [sameL])
  subst hw
  exact need_back h hy
theorem same_nil {ws : List Wd} (h : sameL ws []) : ws = [] := by
  cases ws with
  | nil => rfl
  | cons a b => exact absurd h (by simp [sameL])
theorem groups_back : ∀ (gs : List Int) (n c : Nat) (done : List Int) (L ws r : List Wd), gs.all (inS · 16) = true → L.drop c = ws ++ r → sameL ws (gs.flatMap groupW) → done.length + gs.length ≤ 4 → 0 < done.length + gs.length → gs.length < n → isR L (c + ws.length) 1 groupB = false →
    groupsS L n (c, 0) done = (done ++ gs, (c + ws.length, 0)) ∧ L.drop (c + ws.length) = r
  | [], n, c, done, L, ws, r, _, hd, hs, _, h0, hn, hg => by
    have hw := same_nil hs
    subst hw
    obtain ⟨m, rfl⟩ : ∃ m, n = m + 1 := ⟨n - 1, by simp at hn; omega⟩
    refine ⟨?_, at_more hd⟩
    simp only [List.length_nil, Nat.add_zero] at h0 hg ⊢
    unfold groupsS
    rw [if_neg (by
      rintro (h | ⟨h, _⟩)
      · unfold isS at h
        rw [hg] at h
        simp at h
      · omega), List.append_nil]
  | g :: gs, n, c, done, L, ws, r, ha, hd, hs, h4, h0, hn, hg => by
    simp only [List.all_cons, Bool.and_eq_true] at ha
    simp only [List.length_cons] at h4 h0 hn
    obtain ⟨m, rfl⟩ : ∃ m, n = m + 1 := ⟨n - 1, by omega⟩
    rw [List.flatMap_cons] at hs
    obtain ⟨u, v, rfl, hu, hv⟩ := same_app hs
    obtain ⟨u1, u2, rfl, hu1, hu2⟩ := same_app (show sameL u (fieldW groupB g ++ [semiW]) from hu)
    have hd1 : L.drop c = u1 ++ (u2 ++ (v ++ r)) := by rw [hd]; simp
    obtain ⟨f1, d1⟩ := field_back hd1 hu1 ha.1
    obtain ⟨f2, d2⟩ := semi_back d1 hu2
    have hi : isS L (c, 0) 1 groupB = true := by
      obtain ⟨y, ws1, rfl, hy, _⟩ := same_cons (show sameL u1 ((1, groupB, 0, 0) :: [(2, [], g, 0)]) from hu1)
      rw [is_back (r := ws1 ++ (u2 ++ (v ++ r))) (by rw [hd1]; rfl) 1 groupB groupB 0 0 hy 1]
      simp
    have hlen : c + (u1 ++ u2 ++ v).length = c + u1.length + u2.length + v.length := by simp; omega
    rw [hlen] at hg ⊢
    obtain ⟨i1, i2⟩ := groups_back gs m (c + u1.length + u2.length) (done ++ [g]) L v r ha.2 d2 hv (by rw [List.length_append, List.length_singleton]; omega) (by rw [List.length_append, List.length_singleton]; omega) (by omega) hg
    refine ⟨?_, i2⟩
    unfold groupsS
    rw [if_pos (.inl hi), if_neg (by rintro ⟨_, h⟩; omega), f1]
    simp only
    rw [f2, i1, List.append_assoc, List.singleton_append]
theorem lock_back {x : Lk} (hx : lkMay x = true) {L : List Wd} {c : Nat} {ws r : List Wd} (h : L.drop c = ws ++ r) (hs : sameL ws (fieldW sliceB x.2.1 ++ (fieldW critB x.2.2.1 ++ ((if x.1 then fieldW readB x.2.2.2.1 ++ fieldW writeB x.2.2.2.2 else []) ++ [semiW])))) :
    lockS L (c, 0) x.1 = (x, (c + ws.length, 0)) ∧ L.drop (c + ws.length) = r := by
  obtain ⟨sh, sl, cr, rd, wr⟩ := x
  simp only [lkMay, Bool.and_eq_true] at hx
  obtain ⟨⟨h1, h2⟩, h3⟩ := hx
  simp only at hs h1 h2 h3 ⊢
  obtain ⟨u1, v1, rfl, hu1, hv1⟩ := same_app hs
  obtain ⟨u2, v2, rfl, hu2, hv2⟩ := same_app hv1
  obtain ⟨u3, u4, rfl, hu3, hu4⟩ := same_app hv2
  have hd1 : L.drop c = u1 ++ (u2 ++ (u3 ++ (u4 ++ r))) := by rw [h]; simp
  obtain ⟨f1, d1⟩ := field_back hd1 hu1 h1
  obtain ⟨f2, d2⟩ := field_back d1 hu2 h2
  cases sh with
  | true =>
    simp only [if_pos, Bool.and_eq_true] at hu3 h3
    obtain ⟨w1, w2, rfl, hw1, hw2⟩ := same_app hu3
    have d2' : L.drop (c + u1.length + u2.length) = w1 ++ (w2 ++ (u4 ++ r)) := by rw [d2]; simp
    obtain ⟨f3, d3⟩ := field_back d2' hw1 h3.1
    obtain ⟨f4, d4⟩ := field_back d3 hw2 h3.2
    obtain ⟨f5, d5⟩ := semi_back d4 hu4
    have hlen : c + (u1 ++ (u2 ++ (w1 ++ w2 ++ u4))).length = c + u1.length + u2.length + w1.length + w2.length + u4.length := by simp; omega
    rw [hlen]
    refine ⟨?_, d5⟩
    unfold lockS
    simp only [f1, f2, if_pos, f3, f4, f5]
  | false =>
    simp only [Bool.false_eq_true, if_false, Bool.and_eq_true, decide_eq_true_eq] at hu3 h3
    have hw := same_nil hu3
    subst hw
    simp only [List.nil_append] at d2
    obtain ⟨f5, d5⟩ := semi_back d2 hu4
    have hlen : c + (u1 ++ (u2 ++ ([] ++ u4))).length = c + u1.length + u2.length + u4.length := by simp; omega
    rw [hlen]
    refine ⟨?_, d5⟩
    unfold lockS
    simp only [f1, f2, Bool.false_eq_true, if_false, f5]
    rw [h3.1, h3.2]
theorem locks_back : ∀ (ls : List Lk) (n c : Nat) (done : List Lk) (L ws r : List Wd), ls.all lkMay = true → L.drop c = ws ++ r → sameL ws (ls.flatMap lockW) → done.length + ls.length ≤ 8 → ls.length < n → isR L (c + ws.length) 1 lockB = false → isR L (c + ws.length) 1 sharedB = false →
    locksS L n (c, 0) done = (done ++ ls, (c + ws.length, 0)) ∧ L.drop (c + ws.length) = r
  | [], n, c, done, L, ws, r, _, hd, hs, _, hn, hg1, hg2 => by
    have hw := same_nil hs
    subst hw
    obtain ⟨m, rfl⟩ : ∃ m, n = m + 1 := ⟨n - 1, by simp at hn; omega⟩
    refine ⟨?_, at_more hd⟩
    simp only [List.length_nil, Nat.add_zero] at hg1 hg2 ⊢
    unfold locksS
    rw [if_neg (by
      unfold isS
      rw [hg1, hg2]
      simp), List.append_nil]
  | x :: ls, n, c, done, L, ws, r, ha, hd, hs, h8, hn, hg1, hg2 => by
    simp only [List.all_cons, Bool.and_eq_true] at ha
    simp only [List.length_cons] at h8 hn
    obtain ⟨m, rfl⟩ : ∃ m, n = m + 1 := ⟨n - 1, by omega⟩
    rw [List.flatMap_cons] at hs
    obtain ⟨u, v, rfl, hu, hv⟩ := same_app hs
    obtain ⟨y, u2, rfl, hy, hu2⟩ := same_cons hu
    have hd1 : L.drop c = y :: (u2 ++ (v ++ r)) := by rw [hd]; simp
    obtain ⟨f1, d1⟩ := lock_back ha.1 (at_next hd1) hu2
    have i1 := is_back hd1 1 (if x.1 then sharedB else lockB) lockB 0 0 hy 1
    have i2 := is_back hd1 1 (if x.1 then sharedB else lockB) sharedB 0 0 hy 1
    have hor : isS L (c, 0) 1 lockB = true ∨ isS L (c, 0) 1 sharedB = true := by
      rw [i1, i2]
      cases x.1 <;> simp
    have hsh : isS L (c, 0) 1 sharedB = x.1 := by
      rw [i2]
      cases x.1 <;> decide
    have hlen : c + (y :: u2 ++ v).length = c + 1 + u2.length + v.length := by simp; omega
    rw [hlen] at hg1 hg2 ⊢
    obtain ⟨j1, j2⟩ := locks_back ls m (c + 1 + u2.length) (done ++ [x]) L v r ha.2 d1 hv (by rw [List.length_append, List.length_singleton]; omega) (by omega) hg1 hg2
    refine ⟨?_, j2⟩
    unfold locksS
    rw [if_pos hor, if_neg (by omega), hsh]
    simp only
    rw [f1]
    simp only
    rw [j1, List.append_assoc, List.singleton_append]
theorem drop_le {L ws r : List Wd} {c : Nat} (hd : L.drop c = ws ++ r) (h : 0 < ws.length) : c ≤ L.length := by
  by_cases h1 : c ≤ L.length
  · exact h1
  · rw [List.drop_of_length_le (by omega)] at hd
    have h2 := congrArg List.length hd
    simp at h2
    omega
theorem words_pos (p : Prg) : ∃ l, wordsR p = (1, progB, 0, 0) :: l := ⟨_, rfl⟩
theorem progs_back : ∀ (ps : List Prg) (n c : Nat) (done : List (Prg × Nat)) (L ws r : List Wd), (∀ p ∈ ps, mayR p = true) → L.drop c = ws ++ r → sameL ws (ps.flatMap wordsR) → done.length + ps.length ≤ 8 → 0 < done.length + ps.length → ps.length < n → isR L (c + ws.length) 1 progB = false →
    ∃ pl : List (Prg × Nat), pl.map (·.1) = ps ∧ progsS L n (c, 0) done = (done ++ pl, (c + ws.length, 0)) ∧ L.drop (c + ws.length) = r
  | [], n, c, done, L, ws, r, _, hd, hs, _, h0, hn, hg => by
    have hw := same_nil hs
    subst hw
    obtain ⟨m, rfl⟩ : ∃ m, n = m + 1 := ⟨n - 1, by simp at hn; omega⟩
    refine ⟨[], rfl, ?_, at_more hd⟩
    simp only [List.length_nil, Nat.add_zero] at h0 hg ⊢
    unfold progsS
    rw [if_neg (by
      rintro (h | ⟨h, _⟩)
      · unfold isS at h
        rw [hg] at h
        simp at h
      · omega), List.append_nil]
  | p :: ps, n, c, done, L, ws, r, ha, hd, hs, h8, h0, hn, hg => by
    simp only [List.length_cons] at h8 h0 hn
    obtain ⟨m, rfl⟩ : ∃ m, n = m + 1 := ⟨n - 1, by omega⟩
    rw [List.flatMap_cons] at hs
    obtain ⟨u, v, rfl, hu, hv⟩ := same_app hs
    have hd1 : L.drop c = u ++ (v ++ r) := by rw [hd]; simp
    obtain ⟨l, hl⟩ := words_pos p
    have hu' := hu
    rw [hl] at hu'
    obtain ⟨y, u2, rfl, hy, _⟩ := same_cons hu'
    have hc : c ≤ L.length := drop_le hd1 (by simp)
    have hp := parse_back (ha p (by simp)) hd1 hu hc
    have hi : isS L (c, 0) 1 progB = true := by
      rw [is_back (r := u2 ++ (v ++ r)) (by rw [hd1]; rfl) 1 progB progB 0 0 hy 1]
      simp
    have hlen : c + (y :: u2 ++ v).length = c + (y :: u2).length + v.length := by simp; omega
    rw [hlen] at hg ⊢
    obtain ⟨pl, k1, k2, k3⟩ := progs_back ps m (c + (y :: u2).length) (done ++ [(p, c)]) L v r (fun q hq => ha q (by simp [hq])) (at_more hd1) hv (by rw [List.length_append, List.length_singleton]; omega) (by rw [List.length_append, List.length_singleton]; omega) (by omega) hg
    refine ⟨(p, c) :: pl, by simp [k1], ?_, k3⟩
    unfold progsS
    rw [if_pos (.inl hi), if_neg (by omega), hp]
    simp only [Int.toNat_natCast]
    rw [k2, List.append_assoc, List.singleton_append]
theorem unfit_none {locks : List Lk} {n : Int} : ∀ {ps : List (Prg × Nat)}, (∀ x ∈ ps, (checkR x.1 locks n).2 = 0) → unfitS locks n ps = none
  | [], _ => rfl
  | x :: ps, h => by
    unfold unfitS
    rw [if_pos (h x (by simp))]
    exact unfit_none fun y hy => h y (by simp [hy])
theorem check_may {p : Prg} {locks : List Lk} {n : Int} (h : (checkR p locks n).2 = 0) : mayR p = true := by
  unfold checkR at h
  cases hq : mayR p with
  | true => rfl
  | false =>
    rw [hq] at h
    simp at h
/-- The words of a setup that may be are parsed to it, wherever they lie, if no program follows. -/
theorem setup_back {s : Stp} (hs : mayS s = true) {L ws r : List Wd} {a : Nat} (hd : L.drop a = ws ++ r) (hw : sameL ws (wordsS s)) (hL : a ≤ L.length) (hr : isR L (a + ws.length) 1 progB = false) : parseS L a = (s, ((a + ws.length : Nat) : Int), 0) := by
  obtain ⟨cores, grain, groups, locks, progs⟩ := s
  simp only [mayS, Bool.and_eq_true] at hs
  obtain ⟨⟨⟨⟨⟨⟨⟨m1, m2⟩, m3⟩, m4⟩, m5⟩, m6⟩, m7⟩, m8⟩ := hs
  simp only [inS, Bool.and_eq_true, decide_eq_true_eq] at m3 m4 m5
  unfold wordsS at hw
  simp only at hw m1 m2 m3 m4 m5 m6 m7 m8
  obtain ⟨w14, w5, rfl, h14, h5⟩ := same_app hw
  obtain ⟨w13, w4, rfl, h13, h4⟩ := same_app h14
  obtain ⟨w12, w3, rfl, h12, h3⟩ := same_app h13
  obtain ⟨w1, w2, rfl, h1, h2⟩ := same_app h12
  obtain ⟨w1a, w1b, rfl, h1a, h1b⟩ := same_app h1
  obtain ⟨w2a, w2b, rfl, h2a, h2b⟩ := same_app h2
  have hd1 : L.drop a = w1a ++ (w1b ++ (w2a ++ (w2b ++ (w3 ++ (w4 ++ (w5 ++ r)))))) := by rw [hd]; simp
  obtain ⟨f1, d1⟩ := field_back hd1 h1a m1
  obtain ⟨f2, d2⟩ := semi_back d1 h1b
  obtain ⟨f3, d3⟩ := field_back d2 h2a m2
  obtain ⟨f4, d4⟩ := semi_back d3 h2b
  obtain ⟨c0, hc0⟩ : ∃ c, a + w1a.length + w1b.length + w2a.length + w2b.length = c := ⟨_, rfl⟩
  rw [hc0] at f4 d4
  have hlen : a + (w1a ++ w1b ++ (w2a ++ w2b) ++ w3 ++ w4 ++ w5).length = c0 + w3.length + w4.length + w5.length := by simp; omega
  rw [hlen] at hr ⊢
  -- what stands behind each row begins none of it
  have hfirst : ∀ {c : Nat} {u v : List Wd} {t t' : List By} {l : List Wd}, L.drop c = u ++ v → sameL u ((1, t, 0, 0) :: l) → t ≠ t' → isR L c 1 t' = false := by
    intro c u v t t' l hdc hsu hne
    obtain ⟨y, u2, rfl, hy, _⟩ := same_cons hsu
    rw [is_at (r := u2 ++ v) (by rw [hdc]; rfl), hy.1, hy.2.1]
    simp [hne]
  have hp5 : ∃ l, progs.flatMap wordsR = (1, progB, 0, 0) :: l := by
    cases progs with
    | nil => simp at m5
    | cons p ps => exact ⟨_, rfl⟩
  obtain ⟨l5, hl5⟩ := hp5
  have d3' : L.drop (c0 + w3.length) = w4 ++ (w5 ++ r) := at_more d4
  have d4' : L.drop (c0 + w3.length + w4.length) = w5 ++ r := at_more d3'
  have n5 : ∀ t', progB ≠ t' → isR L (c0 + w3.length + w4.length) 1 t' = false := fun t' ht => hfirst (t := progB) d4' (by rw [← hl5]; exact h5) ht
  have n4 : isR L (c0 + w3.length) 1 groupB = false := by
    cases locks with
    | nil =>
      have hw4 := same_nil (show sameL w4 [] from h4)
      subst hw4
      simpa using n5 groupB (by decide)
    | cons x ls =>
      obtain ⟨u, v, rfl, hu, hv⟩ := same_app (show sameL w4 (lockW x ++ ls.flatMap lockW) from h4)
      refine hfirst (t := if x.1 then sharedB else lockB) (u := u) (v := v ++ (w5 ++ r)) (by rw [d3']; simp) hu ?_
      cases x.1 <;> decide
  obtain ⟨g1, g2⟩ := groups_back groups 6 c0 [] L w3 (w4 ++ (w5 ++ r)) m6 d4 h3 (by simp; omega) (by simp; omega) (by omega) n4
  obtain ⟨k1, k2⟩ := locks_back locks 10 (c0 + w3.length) [] L w4 (w5 ++ r) m7 g2 h4 (by simp; omega) (by omega) (n5 lockB (by decide)) (n5 sharedB (by decide))
  have hmay : ∀ p ∈ progs, mayR p = true := by
    intro p hp
    have h8 := List.all_eq_true.1 m8 p hp
    exact check_may (of_decide_eq_true h8)
  obtain ⟨pl, q1, q2, q3⟩ := progs_back progs 10 (c0 + w3.length + w4.length) [] L w5 r hmay k2 h5 (by simp; omega) (by simp; omega) (by omega) hr
  have hun : unfitS locks pl.length pl = none := by
    apply unfit_none
    intro x hx
    have hxp : x.1 ∈ progs := by rw [← q1]; exact List.mem_map_of_mem hx
    have h8 := List.all_eq_true.1 m8 x.1 hxp
    have hl : pl.length = progs.length := by rw [← q1, List.length_map]
    rw [hl]
    exact of_decide_eq_true h8
  have hhead : headS L a = (cores, grain, (c0, 0)) := by
    unfold headS
    simp only [f1, f2, f3, f4]
  have hrest : restS L (c0, 0) = (groups, locks, pl, (c0 + w3.length + w4.length + w5.length, 0)) := by
    unfold restS
    simp only [g1, k1, q2, List.nil_append]
  unfold parseS
  rw [if_neg (by omega)]
  simp only [Int.toNat_natCast, hhead, hrest]
  rw [if_neg (by simp), hun]
  simp only [q1]
/-! What is read may be. -/
theorem need_ok {L : List Wd} {s : Rd} {k : Int} {t : List By} (h : (needS L s k t).2 = 0) : s.2 = 0 := by
  unfold needS at h
  split at h
  · exact h
  · split at h
    · simp at h
    · exact h
theorem snum_ok {L : List Wd} {s : Rd} {most : Int} (h : (numS L s most).2.2 = 0) : s.2 = 0 ∧ inS (numS L s most).1 most = true := by
  unfold numS at h ⊢
  split at h
  · next h0 => exact absurd h h0
  · next h0 =>
    have h1 : s.2 = 0 := by simpa using h0
    rw [if_neg h0]
    split at h
    · simp at h
    · next x hx =>
      (try simp only [hx])
      split at h
      · next h2 =>
        split at h
        · simp at h
        · next h3 =>
          rw [if_pos h2, if_neg h3]
          refine ⟨h1, ?_⟩
          simp only [inS, Bool.and_eq_true, decide_eq_true_eq]
          omega
      · simp at h
theorem field_ok {L : List Wd} {s : Rd} {name : List By} {most : Int} (h : (fieldS L s name most).2.2 = 0) : s.2 = 0 ∧ inS (fieldS L s name most).1 most = true := by
  unfold fieldS at h ⊢
  obtain ⟨h1, h2⟩ := snum_ok h
  exact ⟨need_ok h1, h2⟩
theorem lock_ok {L : List Wd} {s : Rd} {sh : Bool} (h : (lockS L s sh).2.2 = 0) : s.2 = 0 ∧ lkMay (lockS L s sh).1 = true := by
  unfold lockS at h ⊢
  simp only at h ⊢
  have h1 := need_ok h
  cases sh with
  | true =>
    simp only [if_pos] at h1 ⊢
    obtain ⟨a1, a2⟩ := field_ok h1
    obtain ⟨b1, b2⟩ := field_ok a1
    obtain ⟨c1, c2⟩ := field_ok b1
    obtain ⟨d1, d2⟩ := field_ok c1
    exact ⟨d1, by simp only [lkMay, if_pos, Bool.and_eq_true]; exact ⟨⟨d2, c2⟩, b2, a2⟩⟩
  | false =>
    simp only [Bool.false_eq_true, if_false] at h1 ⊢
    obtain ⟨c1, c2⟩ := field_ok h1
    obtain ⟨d1, d2⟩ := field_ok c1
    exact ⟨d1, by simp only [lkMay, Bool.false_eq_true, if_false, Bool.and_eq_true, decide_eq_true_eq]; exact ⟨⟨d2, c2⟩, trivial, trivial⟩⟩
theorem groups_ok {L : List Wd} : ∀ (n : Nat) (s : Rd) (gs : List Int), gs.length ≤ 4 → 6 ≤ n + gs.length → gs.all (inS · 16) = true → (groupsS L n s gs).2.2 = 0 → s.2 = 0 ∧ 1 ≤ (groupsS L n s gs).1.length ∧ (groupsS L n s gs).1.length ≤ 4 ∧ (groupsS L n s gs).1.all (inS · 16) = true
  | 0, s, gs, h4, h6, _, _ => by omega
  | n + 1, s, gs, h4, h6, ha, h => by
    unfold groupsS at h ⊢
    by_cases hc : isS L s 1 groupB = true ∨ (gs.length = 0 ∧ s.2 = 0)
    · rw [if_pos hc] at h ⊢
      by_cases hl : isS L s 1 groupB = true ∧ 4 ≤ gs.length
      · rw [if_pos hl] at h
        simp at h
      · rw [if_neg hl] at h ⊢
        have hlt : gs.length < 4 := by
          rcases hc with hc | hc
          · have : ¬ 4 ≤ gs.length := fun h => hl ⟨hc, h⟩
            omega
          · omega
        -- the number read is told once the rest is read
        have key : (needS L (fieldS L s groupB 16).2 3 [59]).2 = 0 := by
          cases hn : (needS L (fieldS L s groupB 16).2 3 [59]).2 == 0 with
          | true => simpa using hn
          | false =>
            exfalso
            have hne : (needS L (fieldS L s groupB 16).2 3 [59]).2 ≠ 0 := by simpa using hn
            obtain ⟨m, rfl⟩ : ∃ m, n = m + 1 := ⟨n - 1, by omega⟩
            unfold groupsS at h
            rw [if_neg (by
              rintro (h1 | ⟨h1, _⟩)
              · unfold isS at h1
                simp only [Bool.and_eq_true, decide_eq_true_eq] at h1
                exact hne h1.1
              · simp at h1)] at h
            exact hne h
        obtain ⟨f1, f2⟩ := field_ok (need_ok key)
        obtain ⟨_, i2, i3, i4⟩ := groups_ok n _ (gs ++ [(fieldS L s groupB 16).1]) (by simp; omega) (by simp; omega) (by rw [List.all_append, ha]; simp [f2]) h
        exact ⟨f1, i2, i3, i4⟩
    · rw [if_neg hc] at h ⊢
      simp only at h ⊢
      refine ⟨h, ?_, h4, ha⟩
      have : ¬ gs.length = 0 := fun h1 => hc (.inr ⟨h1, h⟩)
      omega
theorem locks_ok {L : List Wd} : ∀ (n : Nat) (s : Rd) (ls : List Lk), ls.length ≤ 8 → 10 ≤ n + ls.length → ls.all lkMay = true → (locksS L n s ls).2.2 = 0 → s.2 = 0 ∧ (locksS L n s ls).1.length ≤ 8 ∧ (locksS L n s ls).1.all lkMay = true
  | 0, s, ls, h4, h6, _, _ => by omega
  | n + 1, s, ls, h4, h6, ha, h => by
    unfold locksS at h ⊢
    by_cases hc : isS L s 1 lockB = true ∨ isS L s 1 sharedB = true
    · rw [if_pos hc] at h ⊢
      by_cases hl : 8 ≤ ls.length
      · rw [if_pos hl] at h
        simp at h
      · rw [if_neg hl] at h ⊢
        have key : (lockS L (s.1 + 1, s.2) (isS L s 1 sharedB)).2.2 = 0 := by
          cases hn : (lockS L (s.1 + 1, s.2) (isS L s 1 sharedB)).2.2 == 0 with
          | true => simpa using hn
          | false =>
            exfalso
            have hne : (lockS L (s.1 + 1, s.2) (isS L s 1 sharedB)).2.2 ≠ 0 := by simpa using hn
            obtain ⟨m, rfl⟩ : ∃ m, n = m + 1 := ⟨n - 1, by omega⟩
            unfold locksS at h
            rw [if_neg (by
              rintro (h1 | h1) <;>
              · unfold isS at h1
                simp only [Bool.and_eq_true, decide_eq_true_eq] at h1
                exact hne h1.1)] at h
            exact hne h
        obtain ⟨f1, f2⟩ := lock_ok key
        obtain ⟨_, i3, i4⟩ := locks_ok n _ (ls ++ [(lockS L (s.1 + 1, s.2) (isS L s 1 sharedB)).1]) (by simp; omega) (by simp; omega) (by rw [List.all_append, ha]; simp [f2]) h
        exact ⟨f1, i3, i4⟩
    · rw [if_neg hc] at h ⊢
      exact ⟨h, h4, ha⟩
theorem progs_ok {L : List Wd} : ∀ (n : Nat) (s : Rd) (ps : List (Prg × Nat)), ps.length ≤ 8 → 10 ≤ n + ps.length → (progsS L n s ps).2.2 = 0 → (s.2 = 0 ∨ 0 < ps.length) ∧ 1 ≤ (progsS L n s ps).1.length ∧ (progsS L n s ps).1.length ≤ 8
  | 0, s, ps, h4, h6, _ => by omega
  | n + 1, s, ps, h4, h6, h => by
    unfold progsS at h ⊢
    by_cases hc : isS L s 1 progB = true ∨ (ps.length = 0 ∧ s.2 = 0)
    · rw [if_pos hc] at h ⊢
      have h0 : s.2 = 0 := by
        rcases hc with hc | hc
        · unfold isS at hc
          simp only [Bool.and_eq_true, decide_eq_true_eq] at hc
          exact hc.1
        · exact hc.2
      by_cases hl : 8 ≤ ps.length
      · rw [if_pos hl] at h
        simp at h
      · rw [if_neg hl] at h ⊢
        obtain ⟨_, i2, i3⟩ := progs_ok n _ (ps ++ [((parseR L s.1).1, s.1)]) (by simp; omega) (by simp; omega) h
        exact ⟨.inl h0, i2, i3⟩
    · rw [if_neg hc] at h ⊢
      simp only at h ⊢
      have : ¬ ps.length = 0 := fun h1 => hc (.inr ⟨h1, h⟩)
      exact ⟨.inl h, by omega, h4⟩
theorem unfit_ok {locks : List Lk} {n : Int} : ∀ {ps : List (Prg × Nat)}, unfitS locks n ps = none → ∀ x ∈ ps, (checkR x.1 locks n).2 = 0
  | [], _, x, hx => by cases hx
  | y :: ps, h, x, hx => by
    unfold unfitS at h
    split at h
    · next h0 =>
      rcases List.mem_cons.1 hx with rfl | hx
      · exact h0
      · exact unfit_ok h x hx
    · simp at h
theorem unfit_bad {locks : List Lk} {n : Int} {e : Rd} : ∀ {ps : List (Prg × Nat)}, unfitS locks n ps = some e → e.2 ≠ 0
  | [], h => by simp [unfitS] at h
  | y :: ps, h => by
    unfold unfitS at h
    split at h
    · exact unfit_bad h
    · next h0 =>
      simp only [Option.some.injEq] at h
      rw [← h]
      exact h0
/-- What is parsed may be. -/
theorem setup_may {L : List Wd} {a : Int} (h : (parseS L a).2.2 = 0) : mayS (parseS L a).1 = true := by
  unfold parseS at h ⊢
  by_cases ho : a < 0 ∨ (L.length : Int) < a
  · rw [if_pos ho] at h
    simp at h
  · rw [if_neg ho] at h ⊢
    simp only at h ⊢
    by_cases he : (restS L (headS L a.toNat).2.2).2.2.2.2 ≠ 0
    · rw [if_pos he] at h
      exact absurd h he
    · rw [if_neg he] at h ⊢
      have he0 : (restS L (headS L a.toNat).2.2).2.2.2.2 = 0 := by simpa using he
      cases hu : unfitS (restS L (headS L a.toNat).2.2).2.1 (restS L (headS L a.toNat).2.2).2.2.1.length (restS L (headS L a.toNat).2.2).2.2.1 with
      | some e =>
        rw [hu] at h
        exact absurd h (unfit_bad hu)
      | none =>
        rw [hu] at h
        simp only at h ⊢
        have hfit := unfit_ok hu
        obtain ⟨s0, hs0⟩ : ∃ s, headS L a.toNat = s := ⟨_, rfl⟩
        rw [hs0] at he0 hfit ⊢
        unfold restS at he0 hfit ⊢
        simp only at he0 hfit ⊢
        obtain ⟨p1, p2, p3⟩ := progs_ok 10 _ [] (by simp) (by simp) he0
        have q0 : (locksS L 10 (groupsS L 6 s0.2.2 []).2 []).2.2 = 0 := by
          rcases p1 with p1 | p1
          · exact p1
          · simp at p1
        obtain ⟨l1, l2, l3⟩ := locks_ok 10 _ [] (by simp) (by simp) rfl q0
        obtain ⟨g1, g2, g3, g4⟩ := groups_ok 6 _ [] (by simp) (by simp) rfl l1
        have hh : s0.2.2.2 = 0 ∧ inS s0.1 4 = true ∧ inS s0.2.1 8 = true := by
          refine ⟨g1, ?_⟩
          rw [← hs0] at g1 ⊢
          unfold headS at g1 ⊢
          simp only at g1 ⊢
          obtain ⟨y1, y2⟩ := field_ok (need_ok g1)
          obtain ⟨x1, x2⟩ := field_ok (need_ok y1)
          exact ⟨x2, y2⟩
        unfold mayS
        simp only [Bool.and_eq_true, decide_eq_true_eq, List.length_map]
        refine ⟨⟨⟨⟨⟨⟨⟨hh.2.1, hh.2.2⟩, ?_⟩, l2⟩, ?_⟩, g4⟩, l3⟩, ?_⟩
        · simp only [inS, Bool.and_eq_true, decide_eq_true_eq]
          omega
        · simp only [inS, Bool.and_eq_true, decide_eq_true_eq]
          omega
        · rw [List.all_eq_true]
          intro p hp
          obtain ⟨x, hx, rfl⟩ := List.mem_map.1 hp
          unfold fitS
          exact decide_eq_true (hfit x hx)
end Go.Proofs.YtmcfjlkjijaflaaDoor

/- Acts, plainly: their words, how they are read, which may be. No program. -/
namespace Go.Proofs.YtmcfjlkjijaflaaDoor

/-- An act: Kind, A, B, C, D. -/
abbrev Ac := Int × Int × Int × Int × Int
def acNames : List (List By) := [[], [116, 105, 99, 107], [102, 105, 114, 101], [98, 97, 108, 97, 110, 99, 101], [115, 112, 97, 119, 110], [107, 105, 108, 108], [103, 114, 111, 117, 112], [109, 111, 118, 101], [114, 111, 117, 110, 100]]
def acName (k : Int) : List By := if 0 ≤ k ∧ k ≤ 8 then acNames.getD k.toNat [] else []
def acMany (k : Int) : Nat := if k = 1 ∨ k = 5 ∨ k = 8 then 1 else if k = 4 then 4 else if k = 6 ∨ k = 7 then 2 else 0
def acNums (a : Ac) : List Int := [a.2.1, a.2.2.1, a.2.2.2.1, a.2.2.2.2]
def in9 (n : Int) : Bool := decide (0 ≤ n) && decide (n ≤ 999999999)
def acMay (a : Ac) : Bool := !decide (acName a.1 = []) && ((acNums a).all in9 && ((acNums a).drop (acMany a.1)).all (fun n => decide (n = 0)))
def numW (n : Int) : Wd := (2, [], n, 0)
def acTail (a : Ac) : List Wd := ((acNums a).take (acMany a.1)).map numW ++ [semiW]
def acW (a : Ac) : List Wd := (1, acName a.1, 0, 0) :: acTail a
def acsMay (acs : List Ac) : Bool := acs.all acMay
/-- The greatest kind up to n whose name is at a place. -/
def acUp (L : List Wd) (c : Nat) : Nat → Nat
  | 0 => 0
  | n + 1 => if isR L c 1 (acName ((n + 1 : Nat) : Int)) then n + 1 else acUp L c n
def acKind (L : List Wd) (c : Nat) : Nat := acUp L c 8
def numsP (L : List Wd) : Nat → Nat → List Int → Except Bad (List Int × Nat)
  | 0, c, out => .ok (out, c)
  | n + 1, c, out => match L[c]? with
    | some x => if x.1 = 2 then numsP L n (c + 1) (out ++ [x.2.2.1]) else .error (c, 5)
    | none => .error (c, 5)
def mkAc (k : Int) (ns : List Int) : Ac := (k, ns.getD 0 0, ns.getD 1 0, ns.getD 2 0, ns.getD 3 0)
def acP (L : List Wd) (c : Nat) (k : Int) : Except Bad (Ac × Nat) := match numsP L (acMany k) c [] with
  | .error e => .error e
  | .ok (ns, c1) => if isR L c1 3 [59] then .ok (mkAc k ns, c1 + 1) else .error (c1, 5)
def acsP (L : List Wd) : Nat → Nat → List Ac → Except Bad (List Ac × Nat)
  | 0, c, out => .ok (out, c)
  | n + 1, c, out =>
    if L.length ≤ c then .ok (out, c)
    else if acKind L c = 0 then .error (c, 5)
    else if out.length = 4000 then .error (c, 6)
    else match acP L (c + 1) (acKind L c) with
      | .error e => .error e
      | .ok (a, c2) => acsP L n c2 (out ++ [a])
def parseAc (L : List Wd) (at_ : Int) : List Ac × Int × Int :=
  if at_ < 0 ∨ (L.length : Int) < at_ then ([], 0, 5)
  else match acsP L (L.length + 1) at_.toNat [] with
    | .error e => ([], e.1, e.2)
    | .ok (acs, c) => (acs, c, 0)
/-- Words of acts: and 0, 1, 6. -/
def wordsAc (acs : List Ac) : List Wd × Int := if acsMay acs then (if 4000 < acs.length then ([], 6) else (acs.flatMap acW, 0)) else ([], 1)

theorem ac_kinds {k : Int} (h : acName k ≠ []) : k = 1 ∨ k = 2 ∨ k = 3 ∨ k = 4 ∨ k = 5 ∨ k = 6 ∨ k = 7 ∨ k = 8 := by
  by_cases h1 : 1 ≤ k ∧ k ≤ 8
  · omega
  · exfalso
    apply h
    unfold acName
    split
    · have : k = 0 := by omega
      subst this
      rfl
    · rfl
/-- The greatest kind up to n of that name. -/
def acT (t : List By) : Nat → Nat
  | 0 => 0
  | n + 1 => if t = acName ((n + 1 : Nat) : Int) then n + 1 else acT t n
theorem acup_at {L : List Wd} {c : Nat} {y : Wd} {r : List Wd} (h : L.drop c = y :: r) (hy : y.1 = 1) : ∀ n, acUp L c n = acT y.2.1 n
  | 0 => rfl
  | n + 1 => by rw [acUp, acT, is_at h, hy, acup_at h hy n]; simp
theorem act_name {k : Int} (h : acName k ≠ []) : ((acT (acName k) 8 : Nat) : Int) = k ∧ acT (acName k) 8 ≠ 0 := by
  rcases ac_kinds h with h | h | h | h | h | h | h | h <;> subst h <;> decide
theorem acup_le (L : List Wd) (c : Nat) : ∀ n, acUp L c n ≤ n
  | 0 => Nat.le_refl _
  | n + 1 => by
    unfold acUp
    split
    · exact Nat.le_refl _
    · exact Nat.le_succ_of_le (acup_le L c n)
theorem nums_back : ∀ (ns : List Int) (c : Nat) (out : List Int) (L ws r : List Wd), L.drop c = ws ++ r → sameL ws (ns.map numW) → numsP L ns.length c out = .ok (out ++ ns, c + ws.length) ∧ L.drop (c + ws.length) = r
  | [], c, out, L, ws, r, hd, hs => by
    have hw := same_nil hs
    subst hw
    exact ⟨by simp [numsP], at_more hd⟩
  | n :: ns, c, out, L, ws, r, hd, hs => by
    obtain ⟨y, u, rfl, hy, hu⟩ := same_cons (show sameL ws (numW n :: ns.map numW) from hs)
    have hd1 : L.drop c = y :: (u ++ r) := hd
    have e : L[c]? = some y := by rw [← List.head?_drop, hd1]; rfl
    obtain ⟨i1, i2⟩ := nums_back ns (c + 1) (out ++ [n]) L u r (at_next hd1) hu
    have hlen : c + (y :: u).length = c + 1 + u.length := by simp; omega
    rw [hlen]
    refine ⟨?_, i2⟩
    rw [List.length_cons, numsP, e]
    simp only
    rw [if_pos (show y.1 = 2 from hy.1), show y.2.2.1 = n from hy.2.2, i1, List.append_assoc, List.singleton_append]
theorem mk_back {a : Ac} (h : acMay a = true) : mkAc a.1 ((acNums a).take (acMany a.1)) = a := by
  obtain ⟨k, x0, x1, x2, x3⟩ := a
  simp only [acMay, Bool.and_eq_true, Bool.not_eq_true', decide_eq_false_iff_not] at h
  obtain ⟨hn, _, hz⟩ := h
  simp only at hn hz ⊢
  rcases ac_kinds hn with h | h | h | h | h | h | h | h <;> subst h <;> simp [acMany, acNums, mkAc] at hz ⊢ <;> simp [hz]
theorem many_le (a : Ac) : acMany a.1 ≤ (acNums a).length := by
  unfold acMany acNums
  simp only [List.length_cons, List.length_nil]
  split
  · omega
  · split
    · omega
    · split <;> omega
theorem ac_back {a : Ac} (h : acMay a = true) {L : List Wd} {c : Nat} {ws r : List Wd} (hd : L.drop c = ws ++ r) (hs : sameL ws (acTail a)) : acP L c a.1 = .ok (a, c + ws.length) ∧ L.drop (c + ws.length) = r := by
  unfold acTail at hs
  obtain ⟨u, v, rfl, hu, hv⟩ := same_app hs
  have hd1 : L.drop c = u ++ (v ++ r) := by rw [hd]; simp
  obtain ⟨n1, n2⟩ := nums_back _ c [] L u (v ++ r) hd1 hu
  have hl : ((acNums a).take (acMany a.1)).length = acMany a.1 := by rw [List.length_take, Nat.min_eq_left (many_le a)]
  rw [hl] at n1
  obtain ⟨y, v2, rfl, hy, hv2⟩ := same_cons hv
  have hw := same_nil hv2
  subst hw
  have hi : isR L (c + u.length) 3 [59] = true := by
    rw [is_at (r := r) n2, hy.1, hy.2.1]
    simp
  have hlen : c + (u ++ [y]).length = c + u.length + 1 := by simp; omega
  rw [hlen]
  refine ⟨?_, at_next n2⟩
  unfold acP
  rw [n1]
  simp only [List.nil_append]
  rw [if_pos hi, mk_back h]
theorem acs_back : ∀ (acs : List Ac) (n c : Nat) (out : List Ac) (L ws : List Wd), acs.all acMay = true → L.drop c = ws → sameL ws (acs.flatMap acW) → c ≤ L.length → out.length + acs.length ≤ 4000 → acs.length < n → acsP L n c out = .ok (out ++ acs, L.length)
  | [], n, c, out, L, ws, _, hd, hs, hc, _, hn => by
    have hw := same_nil hs
    subst hw
    obtain ⟨m, rfl⟩ : ∃ m, n = m + 1 := ⟨n - 1, by simp at hn; omega⟩
    have hl : L.length ≤ c := by simpa [List.drop_eq_nil_iff] using hd
    unfold acsP
    rw [if_pos hl, List.append_nil, show c = L.length by omega]
  | a :: acs, n, c, out, L, ws, ha, hd, hs, hc, h4, hn => by
    simp only [List.all_cons, Bool.and_eq_true] at ha
    simp only [List.length_cons] at h4 hn
    obtain ⟨m, rfl⟩ : ∃ m, n = m + 1 := ⟨n - 1, by omega⟩
    rw [List.flatMap_cons] at hs
    obtain ⟨u, v, rfl, hu, hv⟩ := same_app hs
    obtain ⟨y, u2, rfl, hy, hu2⟩ := same_cons (show sameL u ((1, acName a.1, 0, 0) :: acTail a) from hu)
    have hd1 : L.drop c = y :: (u2 ++ v) := by rw [hd]; simp
    have hname : acName a.1 ≠ [] := by
      have h := ha.1
      simp only [acMay, Bool.and_eq_true, Bool.not_eq_true', decide_eq_false_iff_not] at h
      exact h.1
    have hk : acKind L c = acT (acName a.1) 8 := by
      unfold acKind
      rw [acup_at hd1 hy.1 8, show y.2.1 = acName a.1 from hy.2.1]
    obtain ⟨k1, k2⟩ := act_name hname
    rw [← hk] at k1 k2
    obtain ⟨b1, b2⟩ := ac_back ha.1 (at_next hd1) hu2
    have hlt : c < L.length := by
      have := congrArg List.length hd1
      simp at this
      omega
    have hc2 : c + 1 + u2.length ≤ L.length := by
      have := congrArg List.length hd1
      simp at this
      omega
    have ih := acs_back acs m (c + 1 + u2.length) (out ++ [a]) L v ha.2 b2 hv hc2 (by rw [List.length_append, List.length_singleton]; omega) (by omega)
    unfold acsP
    rw [if_neg (by omega), if_neg k2, if_neg (by omega), k1, b1]
    simp only
    rw [ih, List.append_assoc, List.singleton_append]
theorem acw_pos (a : Ac) : 1 ≤ (acW a).length := by unfold acW; simp
theorem acws_len : ∀ acs : List Ac, acs.length ≤ (acs.flatMap acW).length
  | [] => Nat.le_refl _
  | a :: acs => by
    have := acws_len acs
    have := acw_pos a
    rw [List.flatMap_cons, List.length_append, List.length_cons]
    omega
theorem drop_len {L ws : List Wd} {c : Nat} (h : L.drop c = ws) : ws.length = L.length - c := by rw [← h, List.length_drop]
/-- The words of acts that may be, up to the end, are parsed to them. -/
theorem acts_back {acs : List Ac} (ha : acsMay acs = true) (h4 : acs.length ≤ 4000) {L ws : List Wd} {c : Nat} (hc : c ≤ L.length) (hd : L.drop c = ws) (hs : sameL ws (acs.flatMap acW)) : parseAc L c = (acs, (L.length : Int), 0) := by
  have h1 := acws_len acs
  have h2 := drop_len hd
  have h3 := sameL_len hs
  unfold parseAc
  rw [if_neg (by omega), Int.toNat_natCast, acs_back acs (L.length + 1) c [] L ws ha hd hs hc (by simpa using h4) (by omega)]
  simp
end Go.Proofs.YtmcfjlkjijaflaaDoor

/- What is read of scanned words: acts that may be. No program. -/
namespace Go.Proofs.YtmcfjlkjijaflaaDoor

/-- Whatever holds of each word that is cut off holds of all scanned ones. -/
theorem scan_all {Q : Wd → Prop} (hQ : ∀ (c : By) (t : List By) (p : Nat), Q (oneR c t p).1) : ∀ (n : Nat) (l : List By) (p : Nat) (adj : Bool) (ws : List Wd), l.length ≤ n → scanR l p adj = .ok ws → ∀ x ∈ ws, Q x
  | _, [], p, adj, ws, _, h, x, hx => by
    rw [scan_nil] at h
    cases h
    cases hx
  | 0, _ :: _, _, _, _, hl, _, _, _ => by simp at hl
  | n + 1, c :: t, p, adj, ws, hl, h, x, hx => by
    simp only [List.length_cons] at hl
    cases h0 : isBl c with
    | true =>
      rw [scan_blank h0] at h
      exact scan_all hQ n t _ _ ws (by omega) h x hx
    | false =>
      by_cases h1 : c.toNat = 35
      · rw [scan_remark h0 h1] at h
        refine scan_all hQ n _ _ _ ws ?_ h x hx
        have := (List.dropWhile_sublist not10 (l := t)).length_le
        omega
      · cases hb : (!(oneR c t p).2.2 || (adj && !decide ((oneR c t p).1.1 = 3))) with
        | true =>
          rw [scan_bad h0 h1 t p adj hb] at h
          cases h
        | false =>
          rw [scan_word h0 h1 t p adj hb] at h
          cases hr : scanR (t.drop (oneR c t p).2.1) (p + 1 + (oneR c t p).2.1) (!decide ((oneR c t p).1.1 = 3)) with
          | error q =>
            rw [hr] at h
            cases h
          | ok l2 =>
            rw [hr] at h
            simp only [prepR, Except.ok.injEq] at h
            subst h
            rcases List.mem_append.1 hx with hx | hx
            · simp at hx
              subst hx
              exact hQ c t p
            · exact scan_all hQ n _ _ _ l2 (by rw [List.length_drop]; omega) hr x hx
theorem one_in9 (c : By) (t : List By) (p : Nat) : (oneR c t p).1.1 = 2 → in9 (oneR c t p).1.2.2.1 = true := by
  unfold oneR
  split
  · intro h
    simp at h
  · split
    · next hc hd =>
      intro _
      have hall : ∀ x ∈ (c :: t.takeWhile isDig).take 9, isDig x = true := by
        intro x hx
        have h1 := List.mem_of_mem_take hx
        rcases List.mem_cons.1 h1 with rfl | h2
        · exact hd
        · exact List.all_eq_true.1 List.all_takeWhile x h2
      have hb := num_bound _ hall
      have hl : ((c :: t.takeWhile isDig).take 9).length ≤ 9 := by
        rw [List.length_take]
        omega
      have hp : 10 ^ ((c :: t.takeWhile isDig).take 9).length ≤ 10 ^ 9 := Nat.pow_le_pow_right (by omega) hl
      simp only [in9, Bool.and_eq_true, decide_eq_true_eq]
      omega
    · intro h
      simp at h
theorem scana_in9 (l : List By) : ∀ x ∈ (scanA l).1, x.1 = 2 → in9 x.2.2.1 = true := by
  unfold scanA
  split
  · intro x hx
    cases hx
  cases h : scanR l 0 false with
  | ok ws => exact scan_all (Q := fun x => x.1 = 2 → in9 x.2.2.1 = true) one_in9 l.length l 0 false ws (Nat.le_refl _) h
  | error p =>
    intro x hx
    cases hx
theorem nums_may {L : List Wd} (hL : ∀ x ∈ L, x.1 = 2 → in9 x.2.2.1 = true) : ∀ (n c : Nat) (out ns : List Int) (c1 : Nat), out.all in9 = true → numsP L n c out = .ok (ns, c1) → ns.all in9 = true ∧ ns.length = out.length + n
  | 0, c, out, ns, c1, ho, h => by
    simp only [numsP, Except.ok.injEq, Prod.mk.injEq] at h
    obtain ⟨rfl, _⟩ := h
    exact ⟨ho, rfl⟩
  | n + 1, c, out, ns, c1, ho, h => by
    unfold numsP at h
    cases hx : L[c]? with
    | none =>
      rw [hx] at h
      cases h
    | some x =>
      rw [hx] at h
      simp only at h
      split at h
      · next h2 =>
        have hm := hL x (List.mem_of_getElem? hx) h2
        obtain ⟨i1, i2⟩ := nums_may hL n (c + 1) (out ++ [x.2.2.1]) ns c1 (by rw [List.all_append, ho]; simp [hm]) h
        refine ⟨i1, ?_⟩
        rw [i2, List.length_append, List.length_singleton]
        omega
      · cases h
theorem mk_may {k : Int} (hk : acName k ≠ []) {ns : List Int} (hl : ns.length = acMany k) (hn : ns.all in9 = true) : acMay (mkAc k ns) = true := by
  have hz : in9 0 = true := by decide
  unfold acMay mkAc acNums
  simp only [Bool.and_eq_true, Bool.not_eq_true', decide_eq_false_iff_not]
  refine ⟨hk, ?_⟩
  rcases ns with _ | ⟨x, _ | ⟨y, _ | ⟨z, _ | ⟨u, _ | ⟨v, r⟩⟩⟩⟩⟩ <;> rcases ac_kinds hk with h | h | h | h | h | h | h | h <;> subst h <;>
    first
      | (exfalso
         simp [acMany] at hl
         done)
      | (simp only [List.all_cons, List.all_nil, Bool.and_true, Bool.and_eq_true] at hn
         simp [acMany, hn, hz]
         done)
      | decide
theorem kind_name_ne {k : Nat} (h0 : k ≠ 0) (h : k ≤ 8) : acName (k : Int) ≠ [] := by
  have : ∀ j : Fin 9, j.1 ≠ 0 → acName (j.1 : Int) ≠ [] := by decide
  exact this ⟨k, by omega⟩ h0
theorem acs_may {L : List Wd} (hL : ∀ x ∈ L, x.1 = 2 → in9 x.2.2.1 = true) : ∀ (n c : Nat) (out acs : List Ac) (c1 : Nat), out.all acMay = true → out.length ≤ 4000 → acsP L n c out = .ok (acs, c1) → acs.all acMay = true ∧ acs.length ≤ 4000
  | 0, c, out, acs, c1, ho, h4, h => by
    simp only [acsP, Except.ok.injEq, Prod.mk.injEq] at h
    obtain ⟨rfl, _⟩ := h
    exact ⟨ho, h4⟩
  | n + 1, c, out, acs, c1, ho, h4, h => by
    unfold acsP at h
    split at h
    · simp only [Except.ok.injEq, Prod.mk.injEq] at h
      obtain ⟨rfl, _⟩ := h
      exact ⟨ho, h4⟩
    · split at h
      · cases h
      · next hk =>
        split at h
        · cases h
        · next h40 =>
          cases ha : acP L (c + 1) (acKind L c) with
          | error e =>
            rw [ha] at h
            cases h
          | ok x =>
            obtain ⟨a, c2⟩ := x
            rw [ha] at h
            simp only at h
            have hm : acMay a = true := by
              unfold acP at ha
              cases hn : numsP L (acMany (acKind L c)) (c + 1) [] with
              | error e =>
                rw [hn] at ha
                cases ha
              | ok y =>
                obtain ⟨ns, c3⟩ := y
                rw [hn] at ha
                simp only at ha
                obtain ⟨n1, n2⟩ := nums_may hL _ _ [] ns c3 rfl hn
                split at ha
                · simp only [Except.ok.injEq, Prod.mk.injEq] at ha
                  rw [← ha.1]
                  exact mk_may (kind_name_ne hk (acup_le L c 8)) (by simpa using n2) n1
                · cases ha
            exact acs_may hL n c2 (out ++ [a]) acs c1 (by rw [List.all_append, ho]; simp [hm]) (by rw [List.length_append, List.length_singleton]; omega) h
/-- What is parsed of scanned words may be. -/
theorem acts_may {L : List Wd} (hL : ∀ x ∈ L, x.1 = 2 → in9 x.2.2.1 = true) {a : Int} (h : (parseAc L a).2.2 = 0) : acsMay (parseAc L a).1 = true ∧ (parseAc L a).1.length ≤ 4000 := by
  unfold parseAc at h ⊢
  split at h
  · simp at h
  · next h0 =>
    rw [if_neg h0]
    cases hp : acsP L (L.length + 1) a.toNat [] with
    | error e => exact ⟨rfl, by simp⟩
    | ok x =>
      obtain ⟨acs, c⟩ := x
      exact acs_may hL _ _ [] acs c rfl (by simp) hp
end Go.Proofs.YtmcfjlkjijaflaaDoor

/- What layer 13's awake asks, plainly. No program. (Made by gen_acawake.py.) -/
namespace Go.Proofs.YtmcfjlkjijaflaaDoor

def aw1 : List Wd := [(1, [120], 0, 0), (1, [116, 105, 99, 107], 0, 2), (2, [], 3, 7), (3, [59], 0, 8), (1, [102, 105, 114, 101], 0, 10), (3, [59], 0, 14)]
def as1 : List Ac := [(1, 3, 0, 0, 0), (2, 0, 0, 0, 0)]
abbrev at1 : List By := [116, 105, 99, 107, 32, 51, 59, 32, 102, 105, 114, 101, 59]
theorem aw_scan : scanA [120, 32, 116, 105, 99, 107, 32, 51, 59, 32, 102, 105, 114, 101, 59] = (aw1, 0, 0) := by
  have e1 : oneR 120 [32, 116, 105, 99, 107, 32, 51, 59, 32, 102, 105, 114, 101, 59] 0 = ((1, [120], 0, 0), 0, true) := by decide +kernel
  have e2 : oneR 116 [105, 99, 107, 32, 51, 59, 32, 102, 105, 114, 101, 59] 2 = ((1, [116, 105, 99, 107], 0, 2), 3, true) := by decide +kernel
  have e3 : oneR 51 [59, 32, 102, 105, 114, 101, 59] 7 = ((2, [], 3, 7), 0, true) := by decide +kernel
  have e4 : oneR 59 [32, 102, 105, 114, 101, 59] 8 = ((3, [59], 0, 8), 0, true) := by decide +kernel
  have e5 : oneR 102 [105, 114, 101, 59] 10 = ((1, [102, 105, 114, 101], 0, 10), 3, true) := by decide +kernel
  have e6 : oneR 59 [] 14 = ((3, [59], 0, 14), 0, true) := by decide +kernel
  have h : scanR [120, 32, 116, 105, 99, 107, 32, 51, 59, 32, 102, 105, 114, 101, 59] 0 false = .ok aw1 := by
    rw [scan_word (by decide) (by decide) _ _ _ (by rw [e1]; decide), e1]
    simp only [List.drop_zero]
    rw [scan_blank (by decide)]
    rw [scan_word (by decide) (by decide) _ _ _ (by rw [e2]; decide), e2]
    simp only [List.drop_succ_cons, List.drop_zero]
    rw [scan_blank (by decide)]
    rw [scan_word (by decide) (by decide) _ _ _ (by rw [e3]; decide), e3]
    simp only [List.drop_zero]
    rw [scan_word (by decide) (by decide) _ _ _ (by rw [e4]; decide), e4]
    simp only [List.drop_zero]
    rw [scan_blank (by decide)]
    rw [scan_word (by decide) (by decide) _ _ _ (by rw [e5]; decide), e5]
    simp only [List.drop_succ_cons, List.drop_zero]
    rw [scan_word (by decide) (by decide) _ _ _ (by rw [e6]; decide), e6]
    simp only [List.drop_zero]
    rw [scan_nil]
    rfl
  unfold scanA
  rw [if_neg (by decide), h]
theorem aw_parse : parseAc aw1 1 = (as1, 6, 0) := by decide +kernel
theorem aw_parse0 : parseAc aw1 0 = ([], 0, 5) := by decide +kernel
theorem aw_may : acsMay as1 = true := by decide +kernel
theorem aw_words : as1.flatMap acW = [(1, [116, 105, 99, 107], 0, 0), (2, [], 3, 0), (3, [59], 0, 0), (1, [102, 105, 114, 101], 0, 0), (3, [59], 0, 0)] := by decide +kernel
theorem aw_join : joinA (as1.flatMap acW) = (at1, 0) := by
  have t0 : textR (1, [116, 105, 99, 107], 0, 0) = some [116, 105, 99, 107] := by decide +kernel
  have t1 : textR (2, [], 3, 0) = some [51] := by
    unfold textR
    rw [if_pos rfl, if_pos (by decide), show (3 : Int).toNat = 3 from rfl, digits_small (by decide)]
    rfl
  have t2 : textR (3, [59], 0, 0) = some [59] := by decide +kernel
  have t3 : textR (1, [102, 105, 114, 101], 0, 0) = some [102, 105, 114, 101] := by decide +kernel
  have h : joinF (as1.flatMap acW) [] = some at1 := by
    rw [aw_words]
    simp only [joinF, t0, t1, t2, t3]
    decide +kernel
  unfold joinA
  rw [h]
  decide
theorem aw_clean : ∀ x ∈ aw1, (x.1 ≠ 2 → x.2.2.1 = 0) ∧ (x.1 = 2 → x.2.1 = []) := by decide +kernel
theorem aw_in9 : ∀ x ∈ aw1, x.1 = 2 → in9 x.2.2.1 = true := by decide +kernel
theorem aw_name : acName 4 = [115, 112, 97, 119, 110] := by decide +kernel
end Go.Proofs.YtmcfjlkjijaflaaDoor

/- Acts as values, in cells, in rows. (Made by gen_acval.py.) -/
namespace Go.Proofs.YtmcfjlkjijaflaaDoor
open Go.RowKit

/-- An act as a value; its cells; those of many. -/
def acC (o : Ac) : List Value := [.int .i64 o.1, .int .i64 o.2.1, .int .i64 o.2.2.1, .int .i64 o.2.2.2.1, .int .i64 o.2.2.2.2]
def acV (o : Ac) : Value := .agg #[.int .i64 o.1, .int .i64 o.2.1, .int .i64 o.2.2.1, .int .i64 o.2.2.2.1, .int .i64 o.2.2.2.2]
abbrev acsC (L : List Ac) : List Value := L.flatMap acC
theorem acC_len (x : Ac) : (acC x).length = 5 := rfl
theorem acsC_len : ∀ L : List Ac, (acsC L).length = L.length * 5
  | [] => rfl
  | x :: L => by
    have := acsC_len L
    simp only [acsC, List.flatMap_cons, List.length_append, acC_len, List.length_cons] at this ⊢
    omega
theorem acsC_get : ∀ (L : List Ac) (j i : Nat) (hj : j < L.length), i < 5 → (acsC L)[j * 5 + i]? = (acC L[j])[i]?
  | x :: L, 0, i, _, hi => by
    simp only [acsC, List.flatMap_cons, Nat.zero_mul, Nat.zero_add, List.getElem_cons_zero]
    rw [List.getElem?_append_left (by rw [acC_len]; exact hi)]
  | x :: L, j + 1, i, hj, hi => by
    have ih := acsC_get L j i (by simpa using hj) hi
    have e : (j + 1) * 5 + i = (acC x).length + (j * 5 + i) := by rw [acC_len]; omega
    simp only [acsC, List.flatMap_cons, List.getElem_cons_succ] at ih ⊢
    rw [e, List.getElem?_append_right (by omega), Nat.add_sub_cancel_left]
    exact ih
theorem acsC_snoc (L : List Ac) (x : Ac) : acsC (L ++ [x]) = acsC L ++ acC x := by simp [acsC]
theorem acsC_app (L M : List Ac) : acsC (L ++ M) = acsC L ++ acsC M := by simp [acsC]
theorem acsC_one (L : List Ac) : ∀ u ∈ acsC L, u.oneCell' = true := by
  intro u hu
  obtain ⟨x, _, hx⟩ := List.mem_flatMap.1 hu
  simp [acC] at hx
  rcases hx with rfl | rfl | rfl | rfl | rfl <;> rfl
theorem acC_one (x : Ac) : ∀ u ∈ acC x, u.oneCell' = true := by
  intro u hx
  simp [acC] at hx
  rcases hx with rfl | rfl | rfl | rfl | rfl <;> rfl
/-- A row of acts. -/
abbrev ARow (base : Nat) (w : World) (v : Value) (L : List Ac) : Prop := w.ownsRow base 69 5 v L.length (acsC L)
theorem row_ac {base : Nat} {w : World} {g n cap : Nat} {L : List Ac} (h : ARow base w (.slice (some ⟨g, 0, none⟩) n cap) L) (j : Nat) (hj : j < L.length) :
    w.cell? ⟨g, j * 5, none⟩ = some (.int .i64 L[j].1) ∧ w.cell? ⟨g, j * 5 + 1, none⟩ = some (.int .i64 L[j].2.1) ∧ w.cell? ⟨g, j * 5 + 2, none⟩ = some (.int .i64 L[j].2.2.1) ∧ w.cell? ⟨g, j * 5 + 3, none⟩ = some (.int .i64 L[j].2.2.2.1) ∧ w.cell? ⟨g, j * 5 + 4, none⟩ = some (.int .i64 L[j].2.2.2.2) := by
  obtain ⟨_, _, h1, _⟩ := ownsRow_shape h
  simp only [Value.slice.injEq] at h1
  obtain ⟨_, rfl, _⟩ := h1
  refine ⟨?_, ?_, ?_, ?_, ?_⟩
  · rw [h.cellAt _ (by omega)]; exact acsC_get L j 0 hj (by omega)
  · rw [h.cellAt _ (by omega)]; exact acsC_get L j 1 hj (by omega)
  · rw [h.cellAt _ (by omega)]; exact acsC_get L j 2 hj (by omega)
  · rw [h.cellAt _ (by omega)]; exact acsC_get L j 3 hj (by omega)
  · rw [h.cellAt _ (by omega)]; exact acsC_get L j 4 hj (by omega)
theorem act_info : (Tryd.prog.info? 69).map (fun i => (i.zero, i.size, i.bytes)) = some (some (.agg #[.int .i64 0, .int .i64 0, .int .i64 0, .int .i64 0, .int .i64 0]), 5, 40) := by kernel_rfl
/-- A slice of acts, as it is read. -/
structure AArg (w : World) (ao : Option Addr) (b off : Nat) (L : List Ac) : Prop where
  at_ : 0 < L.length → ao = some ⟨b, off, none⟩ ∧ b < w.heap.size
  cells : ∀ i (hi : i < L.length), w.cell? ⟨b, off + i * 5, none⟩ = some (.int .i64 L[i].1) ∧ w.cell? ⟨b, off + i * 5 + 1, none⟩ = some (.int .i64 L[i].2.1) ∧ w.cell? ⟨b, off + i * 5 + 2, none⟩ = some (.int .i64 L[i].2.2.1) ∧ w.cell? ⟨b, off + i * 5 + 3, none⟩ = some (.int .i64 L[i].2.2.2.1) ∧ w.cell? ⟨b, off + i * 5 + 4, none⟩ = some (.int .i64 L[i].2.2.2.2)
theorem AArg.below {w w' : World} {ao : Option Addr} {b off : Nat} {L : List Ac} (h : AArg w ao b off L) (hb : Below w.heap.size w w') : AArg w' ao b off L := by
  refine ⟨fun h0 => ⟨(h.at_ h0).1, Nat.lt_of_lt_of_le (h.at_ h0).2 hb.size⟩, fun i hi => ?_⟩
  have hl := (h.at_ (by omega)).2
  obtain ⟨h0, h1, h2, h3, h4⟩ := h.cells i hi
  exact ⟨(hb.cell (p := ⟨b, off + i * 5, none⟩) hl).trans h0, (hb.cell (p := ⟨b, off + i * 5 + 1, none⟩) hl).trans h1, (hb.cell (p := ⟨b, off + i * 5 + 2, none⟩) hl).trans h2, (hb.cell (p := ⟨b, off + i * 5 + 3, none⟩) hl).trans h3, (hb.cell (p := ⟨b, off + i * 5 + 4, none⟩) hl).trans h4⟩
theorem AArg.of_row {base : Nat} {w : World} {v : Value} {L : List Ac} (h : ARow base w v L) : ∃ ao b cap, v = .slice ao L.length cap ∧ AArg w ao b 0 L := by
  by_cases h0 : 0 < L.length
  · obtain ⟨g, cap, rfl, _, _⟩ := ownsRow_pos h h0
    refine ⟨_, g, cap, rfl, fun _ => ⟨rfl, (h.lt g (by simp [Value.ownBlock])).2⟩, fun i hi => ?_⟩
    have hr := row_ac h i hi
    simpa using hr
  · obtain ⟨a, cap, rfl, _, _⟩ := ownsRow_shape h
    exact ⟨a, 0, cap, rfl, fun h => absurd h h0, fun i hi => by omega⟩
/-- A row that the call owns, and any row that is read, at a known place. -/
theorem AArg.at_row {base : Nat} {w : World} {g n cap : Nat} {L : List Ac} (h : ARow base w (.slice (some ⟨g, 0, none⟩) n cap) L) : AArg w (some ⟨g, 0, none⟩) g 0 L :=
  ⟨fun _ => ⟨rfl, (h.lt g (by simp [Value.ownBlock])).2⟩, fun i hi => by simpa using row_ac h i hi⟩
theorem aarg_cells {w : World} {ao : Option Addr} {b off : Nat} {L : List Ac} (h : AArg w ao b off L) : ∀ j u, (acsC L)[j]? = some u → w.cell? ((⟨b, off, none⟩ : Addr).add j) = some u := by
  intro j u hu
  have hj := (List.getElem?_eq_some_iff.1 hu).1
  rw [acsC_len] at hj
  have hd : j / 5 < L.length := by omega
  obtain ⟨x0, x1, x2, x3, x4⟩ := h.cells (j / 5) hd
  have he : j = j / 5 * 5 + j % 5 := by omega
  have hm : j % 5 < 5 := by omega
  rw [he, acsC_get L (j / 5) (j % 5) hd hm] at hu
  rw [Addr.add_lit, show off + j = off + j / 5 * 5 + j % 5 by omega]
  have h3 : j % 5 = 0 ∨ j % 5 = 1 ∨ j % 5 = 2 ∨ j % 5 = 3 ∨ j % 5 = 4 := by omega
  rcases h3 with h | h | h | h | h <;> rw [h] at hu ⊢ <;> simp [acC] at hu <;> subst hu
  · exact x0
  · exact x1
  · exact x2
  · exact x3
  · exact x4
/-- An act in its box. -/
theorem act_cells {w : World} {B : Nat} {a b c d e : Value} {t : TypeId} (h : w.heap[B]? = some (.cells #[a, b, c, d, e] t (0, 0))) :
    w.cell? ⟨B, 0, none⟩ = some a ∧ w.cell? ⟨B, 1, none⟩ = some b ∧ w.cell? ⟨B, 2, none⟩ = some c ∧ w.cell? ⟨B, 3, none⟩ = some d ∧ w.cell? ⟨B, 4, none⟩ = some e := by
  refine ⟨?_, ?_, ?_, ?_, ?_⟩ <;> simp [World.cell?, h]
end Go.Proofs.YtmcfjlkjijaflaaDoor
