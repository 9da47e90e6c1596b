/-
  Programs of tasks: the plain functions; a program's words are parsed to it; what is parsed may be. No program.
-/
import Derived.Test.YtmcfjlkjijaflaaTkBack
namespace Go.Proofs.Ytmcfjlkjijaflaa

/-- An op: its kind, A, B; a program: forever?, its ops. -/
abbrev Opn := Int × Int × Int
abbrev Prg := Bool × List Opn
def namesR : List (List By) := [[], [99, 111, 109, 112, 117, 116, 101], [108, 111, 99, 107], [114, 101, 97, 100], [116, 114, 121], [116, 105, 109, 101, 100], [117, 110, 108, 111, 99, 107],
  [115, 108, 101, 101, 112], [121, 105, 101, 108, 100], [115, 112, 97, 119, 110], [119, 101, 105, 103, 104, 116], [101, 120, 105, 116]]
def nameR (k : Int) : List By := if 0 ≤ k ∧ k ≤ 11 then namesR.getD k.toNat [] else []
def limR (k : Int) : Int × Int :=
  if k = 1 then (1, 16) else if (2 ≤ k ∧ k ≤ 6) ∨ k = 9 then (0, 7) else if k = 7 then (1, 64) else if k = 10 then (1, 16) else (-1, -1)
def aMay (o : Opn) : Bool := if 0 ≤ (limR o.1).1 then decide ((limR o.1).1 ≤ o.2.1) && decide (o.2.1 ≤ (limR o.1).2) else decide (o.2.1 = 0)
def bMay (o : Opn) : Bool := if o.1 = 5 then decide (1 ≤ o.2.2) && decide (o.2.2 ≤ 64) else decide (o.2.2 = 0)
def opMay (o : Opn) : Bool := !decide (nameR o.1 = []) && (aMay o && bMay o)
def mayR (p : Prg) : Bool := decide (0 < p.2.length) && (decide (p.2.length ≤ 12) && p.2.all opMay)
abbrev progB : List By := [112, 114, 111, 103]
abbrev foreverB : List By := [102, 111, 114, 101, 118, 101, 114]
def opW (o : Opn) : List Wd := (1, nameR o.1, 0, 0) :: ((if 0 ≤ (limR o.1).1 then [(2, [], o.2.1, 0)] else []) ++ ((if o.1 = 5 then [(2, [], o.2.2, 0)] else []) ++ [(3, [59], 0, 0)]))
def wordsR (p : Prg) : List Wd := (1, progB, 0, 0) :: ((if p.1 then [(1, foreverB, 0, 0)] else []) ++ ((3, [123], 0, 0) :: (p.2.flatMap opW ++ [(3, [125], 0, 0)])))
/-- Is that word at a place? -/
def isR (L : List Wd) (a : Nat) (k : Int) (t : List By) : Bool := match L[a]? with
  | some x => decide (x.1 = k) && decide (x.2.1 = t)
  | none => false
/-- The greatest kind up to n whose name is at a place. -/
def kindUp (L : List Wd) (a : Nat) : Nat → Nat
  | 0 => 0
  | n + 1 => if isR L a 1 (nameR ((n + 1 : Nat) : Int)) then n + 1 else kindUp L a n
def kindR (L : List Wd) (a : Nat) : Nat := kindUp L a 11
abbrev Bad := Nat × Int
def argR (L : List Wd) (a : Nat) (lo hi : Int) : Except Bad (Int × Nat) := match L[a]? with
  | some x => if x.1 = 2 then (if x.2.2.1 < lo ∨ hi < x.2.2.1 then .error (a, 1) else .ok (x.2.2.1, a + 1)) else .error (a, 5)
  | none => .error (a, 5)
def arg1R (L : List Wd) (a : Nat) (k : Int) : Except Bad (Int × Nat) := if (limR k).1 < 0 then .ok (0, a) else argR L a (limR k).1 (limR k).2
def arg2R (L : List Wd) (a : Nat) (k : Int) : Except Bad (Int × Nat) := if k = 5 then argR L a 1 64 else .ok (0, a)
/-- An op of kind k, its words behind its name. -/
def opR (L : List Wd) (a : Nat) (k : Int) : Except Bad (Opn × Nat) := match arg1R L a k with
  | .error e => .error e
  | .ok (x, a1) => match arg2R L a1 k with
    | .error e => .error e
    | .ok (y, a2) => if isR L a2 3 [59] then .ok ((k, x, y), a2 + 1) else .error (a2, 5)
def opsR (L : List Wd) : Nat → Nat → List Opn → Except Bad (List Opn × Nat)
  | 0, a, _ => .error (a, 6)
  | n + 1, a, ops =>
    if isR L a 3 [125] then (if ops = [] then .error (a, 4) else .ok (ops, a + 1))
    else if kindR L a = 0 then .error (a, 5)
    else if ops.length = 12 then .error (a, 6)
    else match opR L (a + 1) (kindR L a) with
      | .error e => .error e
      | .ok (o, a2) => opsR L n a2 (ops ++ [o])
def openR (L : List Wd) (a : Nat) : Bool × Nat := if isR L a 1 foreverB then (true, a + 1) else (false, a)
def parseR (L : List Wd) (at_ : Int) : Prg × Int × Int :=
  if at_ < 0 ∨ (L.length : Int) < at_ then ((false, []), 0, 5)
  else if !isR L at_.toNat 1 progB then ((false, []), at_, 5)
  else if !isR L (openR L (at_.toNat + 1)).2 3 [123] then ((false, []), (openR L (at_.toNat + 1)).2, 5)
  else match opsR L 13 ((openR L (at_.toNat + 1)).2 + 1) [] with
    | .error e => ((false, []), e.1, e.2)
    | .ok (ops, n) => (((openR L (at_.toNat + 1)).1, ops), n, 0)

theorem is_at {L : List Wd} {a : Nat} {x : Wd} {r : List Wd} (h : L.drop a = x :: r) (k : Int) (t : List By) : isR L a k t = (decide (x.1 = k) && decide (x.2.1 = t)) := by
  have e : L[a]? = some x := by rw [← List.head?_drop, h]; rfl
  unfold isR; rw [e]
theorem at_next {L : List Wd} {a : Nat} {x : Wd} {r : List Wd} (h : L.drop a = x :: r) : L.drop (a + 1) = r := by
  rw [← List.drop_drop, h]; rfl
theorem at_more {L : List Wd} {a : Nat} {x r : List Wd} (h : L.drop a = x ++ r) : L.drop (a + x.length) = r := by
  rw [← List.drop_drop, h, List.drop_left]
/-- The greatest kind up to n of that name. -/
def kindT (t : List By) : Nat → Nat
  | 0 => 0
  | n + 1 => if t = nameR ((n + 1 : Nat) : Int) then n + 1 else kindT t n
theorem kind_at {L : List Wd} {a : Nat} {x : Wd} {r : List Wd} (h : L.drop a = x :: r) (hx : x.1 = 1) : ∀ n, kindUp L a n = kindT x.2.1 n
  | 0 => rfl
  | n + 1 => by rw [kindUp, kindT, is_at h, hx, kind_at h hx n]; simp
theorem name_kinds {k : Int} (h : nameR k ≠ []) : k = 1 ∨ k = 2 ∨ k = 3 ∨ k = 4 ∨ k = 5 ∨ k = 6 ∨ k = 7 ∨ k = 8 ∨ k = 9 ∨ k = 10 ∨ k = 11 := by
  by_cases h1 : 1 ≤ k ∧ k ≤ 11
  · omega
  · exfalso
    apply h
    unfold nameR
    split
    · next hk =>
      have : k = 0 := by omega
      subst this
      rfl
    · rfl
theorem kind_name {k : Int} (h : nameR k ≠ []) : ((kindT (nameR k) 11 : Nat) : Int) = k ∧ kindT (nameR k) 11 ≠ 0 := by
  rcases name_kinds h with h | h | h | h | h | h | h | h | h | h | h <;> subst h <;> decide
theorem kind_le (L : List Wd) (a : Nat) : ∀ n, kindUp L a n ≤ n
  | 0 => Nat.le_refl _
  | n + 1 => by
    rw [kindUp]
    split
    · exact Nat.le_refl _
    · exact Nat.le_succ_of_le (kind_le L a n)
theorem names_all {k : Nat} (h0 : k ≠ 0) (h : k ≤ 11) : nameR (k : Int) ≠ [] := by
  have : k = 1 ∨ k = 2 ∨ k = 3 ∨ k = 4 ∨ k = 5 ∨ k = 6 ∨ k = 7 ∨ k = 8 ∨ k = 9 ∨ k = 10 ∨ k = 11 := by omega
  rcases this with h | h | h | h | h | h | h | h | h | h | h <;> subst h <;> decide

theorem same_cons {ws l : List Wd} {x : Wd} (h : sameL ws (x :: l)) : ∃ y ws', ws = y :: ws' ∧ sameR y x ∧ sameL ws' l := by
  cases ws with
  | nil => simp [sameL] at h
  | cons y ws' => exact ⟨y, ws', rfl, h⟩
theorem same_app : ∀ {a b ws : List Wd}, sameL ws (a ++ b) → ∃ u v, ws = u ++ v ∧ sameL u a ∧ sameL v b
  | [], b, ws, h => ⟨[], ws, rfl, by simp [sameL], h⟩
  | x :: a, b, ws, h => by
    obtain ⟨y, ws', rfl, h1, h2⟩ := same_cons h
    obtain ⟨u, v, rfl, h3, h4⟩ := same_app h2
    exact ⟨y :: u, v, rfl, ⟨h1, h3⟩, h4⟩
theorem arg_back {L : List Wd} {a : Nat} {lo hi n p : Int} {y : Wd} {r : List Wd} (h : L.drop a = y :: r) (hy : sameR y (2, [], n, p)) (h1 : lo ≤ n) (h2 : n ≤ hi) : argR L a lo hi = .ok (n, a + 1) := by
  have e : L[a]? = some y := by rw [← List.head?_drop, h]; rfl
  obtain ⟨y1, _, y3⟩ := hy
  unfold argR
  rw [e]
  simp only at y1 y3 ⊢
  rw [if_pos y1, y3, if_neg (by omega)]
theorem op_back {o : Opn} (ho : opMay o = true) {L : List Wd} {a : Nat} {ws r : List Wd} (hd : L.drop a = ws ++ r) (hs : sameL ws (opW o)) :
    kindR L a ≠ 0 ∧ ((kindR L a : Nat) : Int) = o.1 ∧ isR L a 3 [125] = false ∧ opR L (a + 1) o.1 = .ok (o, a + ws.length) := by
  obtain ⟨k, x, y⟩ := o
  simp only [opMay, Bool.and_eq_true, Bool.not_eq_true', decide_eq_false_iff_not] at ho
  obtain ⟨hk, ha, hb⟩ := ho
  obtain ⟨w0, ws1, rfl, s0, hs1⟩ := same_cons hs
  obtain ⟨u1, ws2, rfl, hu1, hs2⟩ := same_app hs1
  obtain ⟨u2, ws3, rfl, hu2, hs3⟩ := same_app hs2
  obtain ⟨w3, ws4, rfl, s3, hs4⟩ := same_cons hs3
  have : ws4 = [] := by cases ws4 with | nil => rfl | cons _ _ => simp [sameL] at hs4
  subst this
  obtain ⟨s01, s02, _⟩ := s0
  obtain ⟨s31, s32, _⟩ := s3
  simp only at s01 s02 s31 s32 hk
  obtain ⟨hk1, hk2⟩ := kind_name hk
  have hd0 : L.drop a = w0 :: (u1 ++ (u2 ++ (w3 :: r))) := by rw [hd]; simp
  have hd1 := at_next hd0
  have hd2 := at_more hd1
  have hd3 := at_more hd2
  have hkr : kindR L a = kindT (nameR k) 11 := by unfold kindR; rw [kind_at hd0 s01, s02]
  refine ⟨by rw [hkr]; exact hk2, by rw [hkr]; exact hk1, ?_, ?_⟩
  · rw [is_at hd0, s01]; rfl
  have e1 : arg1R L (a + 1) k = .ok (x, a + 1 + u1.length) := by
    unfold arg1R
    unfold aMay at ha
    simp only at ha hu1
    by_cases hl : 0 ≤ (limR k).1
    · rw [if_pos hl] at ha hu1
      simp only [Bool.and_eq_true, decide_eq_true_eq] at ha
      obtain ⟨z, u', rfl, hz, hu'⟩ := same_cons hu1
      have : u' = [] := by cases u' with | nil => rfl | cons _ _ => simp [sameL] at hu'
      subst this
      rw [if_neg (by omega), arg_back hd1 hz ha.1 ha.2]; rfl
    · rw [if_neg hl] at ha hu1
      simp only [decide_eq_true_eq] at ha
      have : u1 = [] := by cases u1 with | nil => rfl | cons _ _ => simp [sameL] at hu1
      subst this
      rw [if_pos (by omega), ha]; rfl
  have e2 : arg2R L (a + 1 + u1.length) k = .ok (y, a + 1 + u1.length + u2.length) := by
    unfold arg2R
    unfold bMay at hb
    simp only at hb hu2
    by_cases hl : k = 5
    · rw [if_pos hl] at hb hu2
      simp only [Bool.and_eq_true, decide_eq_true_eq] at hb
      obtain ⟨z, u', rfl, hz, hu'⟩ := same_cons hu2
      have : u' = [] := by cases u' with | nil => rfl | cons _ _ => simp [sameL] at hu'
      subst this
      rw [if_pos hl, arg_back hd2 hz hb.1 hb.2]; rfl
    · rw [if_neg hl] at hb hu2
      simp only [decide_eq_true_eq] at hb
      have : u2 = [] := by cases u2 with | nil => rfl | cons _ _ => simp [sameL] at hu2
      subst this
      rw [if_neg hl, hb]; rfl
  unfold opR
  simp only [e1, e2]
  rw [is_at hd3, s31, s32]
  simp only [decide_true, Bool.and_self, if_true, List.length_cons, List.length_append, List.length_nil]
  rw [show a + 1 + u1.length + u2.length + 1 = a + (u1.length + (u2.length + (0 + 1)) + 1) by omega]
theorem ops_back : ∀ (ops : List Opn) (n : Nat) (a : Nat) (done : List Opn) (L ws r : List Wd), ops.all opMay = true → L.drop a = ws ++ r → sameL ws (ops.flatMap opW ++ [(3, [125], 0, 0)]) → done.length + ops.length ≤ 12 → 0 < done.length + ops.length → ops.length < n →
    opsR L n a done = .ok (done ++ ops, a + ws.length)
  | [], n + 1, a, done, L, ws, r, _, hd, hs, _, h0, _ => by
    obtain ⟨w, ws', rfl, hw, hs'⟩ := same_cons hs
    have : ws' = [] := by cases ws' with | nil => rfl | cons _ _ => simp [sameL] at hs'
    subst this
    obtain ⟨w1, w2, _⟩ := hw
    simp only at w1 w2
    have hne : done ≠ [] := by rintro rfl; simp at h0
    rw [opsR, is_at (r := r) (by simpa using hd), w1, w2]
    simp [hne]
  | o :: ops, n + 1, a, done, L, ws, r, ha, hd, hs, hl, h0, hn => by
    simp only [List.all_cons, Bool.and_eq_true] at ha
    rw [List.flatMap_cons, List.append_assoc] at hs
    obtain ⟨u, v, rfl, hu, hv⟩ := same_app hs
    rw [List.append_assoc] at hd
    obtain ⟨k0, k1, k2, k3⟩ := op_back ha.1 hd hu
    simp only [List.length_cons] at hl h0 hn
    rw [opsR, k2, if_neg (by simp), if_neg k0, if_neg (by omega), k1, k3]
    simp only
    rw [ops_back ops n _ (done ++ [o]) L v r ha.2 (at_more hd) hv (by simp; omega) (by simp; omega) (by omega)]
    simp [Nat.add_assoc]
/-- A program's words are parsed to it, wherever they lie. -/
theorem parse_back {p : Prg} (hp : mayR p = true) {L ws r : List Wd} {a : Nat} (hd : L.drop a = ws ++ r) (hs : sameL ws (wordsR p)) (hL : a ≤ L.length) : parseR L a = (p, ((a + ws.length : Nat) : Int), 0) := by
  obtain ⟨f, ops⟩ := p
  simp only [mayR, Bool.and_eq_true, decide_eq_true_eq] at hp
  obtain ⟨h0, h12, hall⟩ := hp
  obtain ⟨w0, ws1, rfl, s0, hs1⟩ := same_cons hs
  obtain ⟨u, ws2, rfl, hu, hs2⟩ := same_app hs1
  obtain ⟨w1, v, rfl, s1, hs3⟩ := same_cons hs2
  obtain ⟨s01, s02, _⟩ := s0
  obtain ⟨s11, s12, _⟩ := s1
  simp only at s01 s02 s11 s12
  have hd0 : L.drop a = w0 :: (u ++ (w1 :: (v ++ r))) := by rw [hd]; simp
  have hd1 := at_next hd0
  have hd2 := at_more hd1
  have hd3 := at_next hd2
  have eo : openR L (a + 1) = (f, a + 1 + u.length) := by
    unfold openR
    simp only at hu
    cases f with
    | true =>
      obtain ⟨z, u', rfl, ⟨z1, z2, _⟩, hu'⟩ := same_cons hu
      have : u' = [] := by cases u' with | nil => rfl | cons _ _ => simp [sameL] at hu'
      subst this
      simp only at z1 z2
      rw [is_at hd1, z1, z2]
      simp
    | false =>
      have : u = [] := by cases u with | nil => rfl | cons _ _ => simp [sameL] at hu
      subst this
      rw [is_at (by simpa using hd1), s11]
      rfl
  unfold parseR
  rw [if_neg (by omega), Int.toNat_natCast, is_at hd0, s01, s02, eo]
  simp only [is_at hd2, s11, s12]
  rw [ops_back ops 13 (a + 1 + u.length + 1) [] L v r hall hd3 hs3 (by simpa using h12) (by simpa using h0) (by omega)]
  simp
  omega
theorem arg1_may {L : List Wd} {a a1 : Nat} {k x y : Int} (h : arg1R L a k = .ok (x, a1)) : aMay (k, x, y) = true := by
  unfold arg1R at h
  unfold aMay
  simp only
  split at h
  · next hl =>
    simp only [Except.ok.injEq, Prod.mk.injEq] at h
    rw [if_neg (by omega), ← h.1]; rfl
  · next hl =>
    rw [if_pos (by omega)]
    unfold argR at h
    split at h
    · split at h
      · split at h
        · cases h
        · simp only [Except.ok.injEq, Prod.mk.injEq] at h
          simp only [Bool.and_eq_true, decide_eq_true_eq]
          omega
      · cases h
    · cases h
theorem arg2_may {L : List Wd} {a a1 : Nat} {k x y : Int} (h : arg2R L a k = .ok (y, a1)) : bMay (k, x, y) = true := by
  unfold arg2R at h
  unfold bMay
  simp only
  split at h
  · next hl =>
    rw [if_pos hl]
    unfold argR at h
    split at h
    · split at h
      · split at h
        · cases h
        · simp only [Except.ok.injEq, Prod.mk.injEq] at h
          simp only [Bool.and_eq_true, decide_eq_true_eq]
          omega
      · cases h
    · cases h
  · next hl =>
    simp only [Except.ok.injEq, Prod.mk.injEq] at h
    rw [if_neg hl, ← h.1]; rfl
theorem op_may {L : List Wd} {a a2 : Nat} {k : Int} {o : Opn} (hk : nameR k ≠ []) (h : opR L a k = .ok (o, a2)) : opMay o = true := by
  unfold opR at h
  cases h1 : arg1R L a k with
  | error e => rw [h1] at h; cases h
  | ok x1 =>
    obtain ⟨x, a1⟩ := x1
    rw [h1] at h
    simp only at h
    cases h2 : arg2R L a1 k with
    | error e => rw [h2] at h; cases h
    | ok y1 =>
      obtain ⟨y, a3⟩ := y1
      rw [h2] at h
      simp only at h
      split at h
      · simp only [Except.ok.injEq, Prod.mk.injEq] at h
        rw [← h.1]
        unfold opMay
        rw [arg1_may h1, arg2_may h2]
        simp [hk]
      · cases h
theorem ops_may : ∀ (n a : Nat) (done : List Opn) (L : List Wd) (ops : List Opn) (b : Nat), done.all opMay = true → done.length ≤ 12 → opsR L n a done = .ok (ops, b) → ops.all opMay = true ∧ ops.length ≤ 12 ∧ 0 < ops.length
  | 0, a, done, L, ops, b, _, _, h => by cases h
  | n + 1, a, done, L, ops, b, hd, hl, h => by
    rw [opsR] at h
    split at h
    · split at h
      · cases h
      · next hne =>
        simp only [Except.ok.injEq, Prod.mk.injEq] at h
        rw [← h.1]
        exact ⟨hd, hl, by cases done with | nil => exact absurd rfl hne | cons _ _ => simp⟩
    · split at h
      · cases h
      · next hk =>
        split at h
        · cases h
        · next h12 =>
          cases ho : opR L (a + 1) (kindR L a) with
          | error e => rw [ho] at h; cases h
          | ok x =>
            obtain ⟨o, a2⟩ := x
            rw [ho] at h
            simp only at h
            exact ops_may n a2 (done ++ [o]) L ops b (by simp [hd, op_may (names_all hk (kind_le L a 11)) ho]) (by simp; omega) h
theorem arg_bad {L : List Wd} {a : Nat} {lo hi : Int} {e : Bad} (h : argR L a lo hi = .error e) : e.2 = 1 ∨ e.2 = 5 := by
  unfold argR at h
  split at h
  · split at h
    · split at h
      · cases h; exact Or.inl rfl
      · cases h
    · cases h; exact Or.inr rfl
  · cases h; exact Or.inr rfl
theorem op_bad {L : List Wd} {a : Nat} {k : Int} {e : Bad} (h : opR L a k = .error e) : e.2 = 1 ∨ e.2 = 5 := by
  unfold opR at h
  cases h1 : arg1R L a k with
  | error e1 =>
    rw [h1] at h; cases h
    unfold arg1R at h1
    split at h1
    · cases h1
    · exact arg_bad h1
  | ok x1 =>
    obtain ⟨x, a1⟩ := x1
    rw [h1] at h
    simp only at h
    cases h2 : arg2R L a1 k with
    | error e2 =>
      rw [h2] at h; cases h
      unfold arg2R at h2
      split at h2
      · exact arg_bad h2
      · cases h2
    | ok y1 =>
      obtain ⟨y, a3⟩ := y1
      rw [h2] at h
      simp only at h
      split at h
      · cases h
      · cases h; exact Or.inr rfl
theorem ops_bad : ∀ (n a : Nat) (done : List Opn) (L : List Wd) (e : Bad), opsR L n a done = .error e → e.2 ≠ 0
  | 0, a, done, L, e, h => by cases h; simp
  | n + 1, a, done, L, e, h => by
    rw [opsR] at h
    split at h
    · split at h
      · cases h; simp
      · cases h
    · split at h
      · cases h; simp
      · split at h
        · cases h; simp
        · cases ho : opR L (a + 1) (kindR L a) with
          | error e1 =>
            rw [ho] at h
            cases h
            rcases op_bad ho with h | h <;> rw [h] <;> decide
          | ok x =>
            obtain ⟨o, a2⟩ := x
            rw [ho] at h
            exact ops_bad n a2 (done ++ [o]) L e h
/-- What is parsed may be. -/
theorem parse_may {L : List Wd} {a : Int} (h : (parseR L a).2.2 = 0) : mayR (parseR L a).1 = true := by
  unfold parseR at h ⊢
  split at h
  · cases h
  · next h1 =>
    rw [if_neg h1]
    split at h
    · cases h
    · next h2 =>
      rw [if_neg h2]
      split at h
      · cases h
      · next h3 =>
        rw [if_neg h3]
        cases ho : opsR L 13 ((openR L (a.toNat + 1)).2 + 1) [] with
        | error e =>
          rw [ho] at h
          exact absurd h (ops_bad _ _ _ _ _ ho)
        | ok x =>
          obtain ⟨ops, n⟩ := x
          obtain ⟨k1, k2, k3⟩ := ops_may 13 _ [] L ops n (by rfl) (by simp) ho
          simp [mayR, k1, k2, k3]
end Go.Proofs.Ytmcfjlkjijaflaa
