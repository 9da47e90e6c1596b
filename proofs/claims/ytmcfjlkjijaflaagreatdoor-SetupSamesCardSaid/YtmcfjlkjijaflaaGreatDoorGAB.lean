/-
  Programs of tasks: the plain functions; a program's words are parsed to it; what is parsed may be. No program.
  Critical sections and what fits some locks, plainly. No program.
  Setups, plainly: their words, how they are read, which may be. No program.
  What layer 12's awake asks, plainly. No program. (Made by gen_suawake.py.)
  The word that a text begins with, as the program finds it, is the document's. No program.
  What lies between words, and what may stand beside a word; plainly. No program.
  The document's Scan, plainly: what holds at each place. No program of its own.
  Texts in memory; what a call leaves as it was.
  Small letters, for the program.
  What the library's Itoa answers; its table.
  Text in memory of its own.
-/
import Derived.Test.YtmcfjlkjijaflaaGreatDoorGAA
import Derived.Lib.Atoi
import Derived.Test.YtmcfjlkjijaflaaGreatDoorChecked
import Derived.Lib.Hide
import Derived.Lib.Strings
import Derived.Lib.ConvBytes
import Derived.Laws.IdiomStrings
import Derived.Sort.Grow
import Derived.WalkKit
import Derived.LoopTactic
import Derived.OwnWalk
import Derived.Laws.AppendOwn
import Derived.Laws.OwnMore
import Derived.Laws.ResultCell
import Derived.IntWalk
import Derived.Lib.AppendIntMem

/- Programs of tasks: the plain functions; a program's words are parsed to it; what is parsed may be. No program. -/
namespace Go.Proofs.YtmcfjlkjijaflaaGreatDoor

/-- An op: its kind, A, B; a program: forever?, its ops. -/
abbrev Opn := Int × Int × Int
abbrev Prg := Bool × List Opn
def namesR : List (List By) := [[], [99, 111, 109, 112, 117, 116, 101], [108, 111, 99, 107], [114, 101, 97, 100], [116, 114, 121], [116, 105, 109, 101, 100], [117, 110, 108, 111, 99, 107],
  [115, 108, 101, 101, 112], [121, 105, 101, 108, 100], [115, 112, 97, 119, 110], [119, 101, 105, 103, 104, 116], [101, 120, 105, 116]]
def nameR (k : Int) : List By := if 0 ≤ k ∧ k ≤ 11 then namesR.getD k.toNat [] else []
def limR (k : Int) : Int × Int :=
  if k = 1 then (1, 16) else if (2 ≤ k ∧ k ≤ 6) ∨ k = 9 then (0, 7) else if k = 7 then (1, 64) else if k = 10 then (1, 16) else (-1, -1)
def aMay (o : Opn) : Bool := if 0 ≤ (limR o.1).1 then decide ((limR o.1).1 ≤ o.2.1) && decide (o.2.1 ≤ (limR o.1).2) else decide (o.2.1 = 0)
def bMay (o : Opn) : Bool := if o.1 = 5 then decide (1 ≤ o.2.2) && decide (o.2.2 ≤ 64) else decide (o.2.2 = 0)
def opMay (o : Opn) : Bool := !decide (nameR o.1 = []) && (aMay o && bMay o)
def mayR (p : Prg) : Bool := decide (0 < p.2.length) && (decide (p.2.length ≤ 12) && p.2.all opMay)
abbrev progB : List By := [112, 114, 111, 103]
abbrev foreverB : List By := [102, 111, 114, 101, 118, 101, 114]
def opW (o : Opn) : List Wd := (1, nameR o.1, 0, 0) :: ((if 0 ≤ (limR o.1).1 then [(2, [], o.2.1, 0)] else []) ++ ((if o.1 = 5 then [(2, [], o.2.2, 0)] else []) ++ [(3, [59], 0, 0)]))
def wordsR (p : Prg) : List Wd := (1, progB, 0, 0) :: ((if p.1 then [(1, foreverB, 0, 0)] else []) ++ ((3, [123], 0, 0) :: (p.2.flatMap opW ++ [(3, [125], 0, 0)])))
/-- Is that word at a place? -/
def isR (L : List Wd) (a : Nat) (k : Int) (t : List By) : Bool := match L[a]? with
  | some x => decide (x.1 = k) && decide (x.2.1 = t)
  | none => false
/-- The greatest kind up to n whose name is at a place. -/
def kindUp (L : List Wd) (a : Nat) : Nat → Nat
  | 0 => 0
  | n + 1 => if isR L a 1 (nameR ((n + 1 : Nat) : Int)) then n + 1 else kindUp L a n
def kindR (L : List Wd) (a : Nat) : Nat := kindUp L a 11
abbrev Bad := Nat × Int
def argR (L : List Wd) (a : Nat) (lo hi : Int) : Except Bad (Int × Nat) := match L[a]? with
  | some x => if x.1 = 2 then (if x.2.2.1 < lo ∨ hi < x.2.2.1 then .error (a, 1) else .ok (x.2.2.1, a + 1)) else .error (a, 5)
  | none => .error (a, 5)
def arg1R (L : List Wd) (a : Nat) (k : Int) : Except Bad (Int × Nat) := if (limR k).1 < 0 then .ok (0, a) else argR L a (limR k).1 (limR k).2
def arg2R (L : List Wd) (a : Nat) (k : Int) : Except Bad (Int × Nat) := if k = 5 then argR L a 1 64 else .ok (0, a)
/-- An op of kind k, its words behind its name. -/
def opR (L : List Wd) (a : Nat) (k : Int) : Except Bad (Opn × Nat) := match arg1R L a k with
  | .error e => .error e
  | .ok (x, a1) => match arg2R L a1 k with
    | .error e => .error e
    | .ok (y, a2) => if isR L a2 3 [59] then .ok ((k, x, y), a2 + 1) else .error (a2, 5)
def opsR (L : List Wd) : Nat → Nat → List Opn → Except Bad (List Opn × Nat)
  | 0, a, _ => .error (a, 6)
  | n + 1, a, ops =>
    if isR L a 3 [125] then (if ops = [] then .error (a, 4) else .ok (ops, a + 1))
    else if kindR L a = 0 then .error (a, 5)
    else if ops.length = 12 then .error (a, 6)
    else match opR L (a + 1) (kindR L a) with
      | .error e => .error e
      | .ok (o, a2) => opsR L n a2 (ops ++ [o])
def openR (L : List Wd) (a : Nat) : Bool × Nat := if isR L a 1 foreverB then (true, a + 1) else (false, a)
def parseR (L : List Wd) (at_ : Int) : Prg × Int × Int :=
  if at_ < 0 ∨ (L.length : Int) < at_ then ((false, []), 0, 5)
  else if !isR L at_.toNat 1 progB then ((false, []), at_, 5)
  else if !isR L (openR L (at_.toNat + 1)).2 3 [123] then ((false, []), (openR L (at_.toNat + 1)).2, 5)
  else match opsR L 13 ((openR L (at_.toNat + 1)).2 + 1) [] with
    | .error e => ((false, []), e.1, e.2)
    | .ok (ops, n) => (((openR L (at_.toNat + 1)).1, ops), n, 0)

theorem is_at {L : List Wd} {a : Nat} {x : Wd} {r : List Wd} (h : L.drop a = x :: r) (k : Int) (t : List By) : isR L a k t = (decide (x.1 = k) && decide (x.2.1 = t)) := by
  have e : L[a]? = some x := by rw [← List.head?_drop, h]; rfl
  unfold isR; rw [e]
theorem at_next {L : List Wd} {a : Nat} {x : Wd} {r : List Wd} (h : L.drop a = x :: r) : L.drop (a + 1) = r := by
  rw [← List.drop_drop, h]; rfl
theorem at_more {L : List Wd} {a : Nat} {x r : List Wd} (h : L.drop a = x ++ r) : L.drop (a + x.length) = r := by
  rw [← List.drop_drop, h, List.drop_left]
/-- The greatest kind up to n of that name. -/
def kindT (t : List By) : Nat → Nat
  | 0 => 0
  | n + 1 => if t = nameR ((n + 1 : Nat) : Int) then n + 1 else kindT t n
theorem kind_at {L : List Wd} {a : Nat} {x : Wd} {r : List Wd} (h : L.drop a = x :: r) (hx : x.1 = 1) : ∀ n, kindUp L a n = kindT x.2.1 n
  | 0 => rfl
  | n + 1 => by rw [kindUp, kindT, is_at h, hx, kind_at h hx n]; simp
theorem name_kinds {k : Int} (h : nameR k ≠ []) : k = 1 ∨ k = 2 ∨ k = 3 ∨ k = 4 ∨ k = 5 ∨ k = 6 ∨ k = 7 ∨ k = 8 ∨ k = 9 ∨ k = 10 ∨ k = 11 := by
  by_cases h1 : 1 ≤ k ∧ k ≤ 11
  · omega
  · exfalso
    apply h
    unfold nameR
    split
    · next hk =>
      have : k = 0 := by omega
      subst this
      rfl
    · rfl
theorem kind_name {k : Int} (h : nameR k ≠ []) : ((kindT (nameR k) 11 : Nat) : Int) = k ∧ kindT (nameR k) 11 ≠ 0 := by
  rcases name_kinds h with h | h | h | h | h | h | h | h | h | h | h <;> subst h <;> decide
theorem kind_le (L : List Wd) (a : Nat) : ∀ n, kindUp L a n ≤ n
  | 0 => Nat.le_refl _
  | n + 1 => by
    rw [kindUp]
    split
    · exact Nat.le_refl _
    · exact Nat.le_succ_of_le (kind_le L a n)
theorem names_all {k : Nat} (h0 : k ≠ 0) (h : k ≤ 11) : nameR (k : Int) ≠ [] := by
  have : k = 1 ∨ k = 2 ∨ k = 3 ∨ k = 4 ∨ k = 5 ∨ k = 6 ∨ k = 7 ∨ k = 8 ∨ k = 9 ∨ k = 10 ∨ k = 11 := by omega
  rcases this with h | h | h | h | h | h | h | h | h | h | h <;> subst h <;> decide

theorem same_cons {ws l : List Wd} {x : Wd} (h : sameL ws (x :: l)) : ∃ y ws', ws = y :: ws' ∧ sameR y x ∧ sameL ws' l := by
  cases ws with
  | nil => simp [sameL] at h
  | cons y ws' => exact ⟨y, ws', rfl, h⟩
theorem same_app : ∀ {a b ws : List Wd}, sameL ws (a ++ b) → ∃ u v, ws = u ++ v ∧ sameL u a ∧ sameL v b
  | [], b, ws, h => ⟨[], ws, rfl, by simp [sameL], h⟩
  | x :: a, b, ws, h => by
    obtain ⟨y, ws', rfl, h1, h2⟩ := same_cons h
    obtain ⟨u, v, rfl, h3, h4⟩ := same_app h2
    exact ⟨y :: u, v, rfl, ⟨h1, h3⟩, h4⟩
theorem arg_back {L : List Wd} {a : Nat} {lo hi n p : Int} {y : Wd} {r : List Wd} (h : L.drop a = y :: r) (hy : sameR y (2, [], n, p)) (h1 : lo ≤ n) (h2 : n ≤ hi) : argR L a lo hi = .ok (n, a + 1) := by
  have e : L[a]? = some y := by rw [← List.head?_drop, h]; rfl
  obtain ⟨y1, _, y3⟩ := hy
  unfold argR
  rw [e]
  simp only at y1 y3 ⊢
  rw [if_pos y1, y3, if_neg (by omega)]
theorem op_back {o : Opn} (ho : opMay o = true) {L : List Wd} {a : Nat} {ws r : List Wd} (hd : L.drop a = ws ++ r) (hs : sameL ws (opW o)) :
    kindR L a ≠ 0 ∧ ((kindR L a : Nat) : Int) = o.1 ∧ isR L a 3 [125] = false ∧ opR L (a + 1) o.1 = .ok (o, a + ws.length) := by
  obtain ⟨k, x, y⟩ := o
  simp only [opMay, Bool.and_eq_true, Bool.not_eq_true', decide_eq_false_iff_not] at ho
  obtain ⟨hk, ha, hb⟩ := ho
  obtain ⟨w0, ws1, rfl, s0, hs1⟩ := same_cons hs
  obtain ⟨u1, ws2, rfl, hu1, hs2⟩ := same_app hs1
  obtain ⟨u2, ws3, rfl, hu2, hs3⟩ := same_app hs2
  obtain ⟨w3, ws4, rfl, s3, hs4⟩ := same_cons hs3
  have : ws4 = [] := by cases ws4 with | nil => rfl | cons _ _ => simp [sameL] at hs4
  subst this
  obtain ⟨s01, s02, _⟩ := s0
  obtain ⟨s31, s32, _⟩ := s3
  simp only at s01 s02 s31 s32 hk
  obtain ⟨hk1, hk2⟩ := kind_name hk
  have hd0 : L.drop a = w0 :: (u1 ++ (u2 ++ (w3 :: r))) := by rw [hd]; simp
  have hd1 := at_next hd0
  have hd2 := at_more hd1
  have hd3 := at_more hd2
  have hkr : kindR L a = kindT (nameR k) 11 := by unfold kindR; rw [kind_at hd0 s01, s02]
  refine ⟨by rw [hkr]; exact hk2, by rw [hkr]; exact hk1, ?_, ?_⟩
  · rw [is_at hd0, s01]; rfl
  have e1 : arg1R L (a + 1) k = .ok (x, a + 1 + u1.length) := by
    unfold arg1R
    unfold aMay at ha
    simp only at ha hu1
    by_cases hl : 0 ≤ (limR k).1
    · rw [if_pos hl] at ha hu1
      simp only [Bool.and_eq_true, decide_eq_true_eq] at ha
      obtain ⟨z, u', rfl, hz, hu'⟩ := same_cons hu1
      have : u' = [] := by cases u' with | nil => rfl | cons _ _ => simp [sameL] at hu'
      subst this
      rw [if_neg (by omega), arg_back hd1 hz ha.1 ha.2]; rfl
    · rw [if_neg hl] at ha hu1
      simp only [decide_eq_true_eq] at ha
      have : u1 = [] := by cases u1 with | nil => rfl | cons _ _ => simp [sameL] at hu1
      subst this
      rw [if_pos (by omega), ha]; rfl
  have e2 : arg2R L (a + 1 + u1.length) k = .ok (y, a + 1 + u1.length + u2.length) := by
    unfold arg2R
    unfold bMay at hb
    simp only at hb hu2
    by_cases hl : k = 5
    · rw [if_pos hl] at hb hu2
      simp only [Bool.and_eq_true, decide_eq_true_eq] at hb
      obtain ⟨z, u', rfl, hz, hu'⟩ := same_cons hu2
      have : u' = [] := by cases u' with | nil => rfl | cons _ _ => simp [sameL] at hu'
      subst this
      rw [if_pos hl, arg_back hd2 hz hb.1 hb.2]; rfl
    · rw [if_neg hl] at hb hu2
      simp only [decide_eq_true_eq] at hb
      have : u2 = [] := by cases u2 with | nil => rfl | cons _ _ => simp [sameL] at hu2
      subst this
      rw [if_neg hl, hb]; rfl
  unfold opR
  simp only [e1, e2]
  rw [is_at hd3, s31, s32]
  simp only [decide_true, Bool.and_self, if_true, List.length_cons, List.length_append, List.length_nil]
  rw [show a + 1 + u1.length + u2.length + 1 = a + (u1.length + (u2.length + (0 + 1)) + 1) by omega]
theorem ops_back : ∀ (ops : List Opn) (n : Nat) (a : Nat) (done : List Opn) (L ws r : List Wd), ops.all opMay = true → L.drop a = ws ++ r → sameL ws (ops.flatMap opW ++ [(3, [125], 0, 0)]) → done.length + ops.length ≤ 12 → 0 < done.length + ops.length → ops.length < n →
    opsR L n a done = .ok (done ++ ops, a + ws.length)
  | [], n + 1, a, done, L, ws, r, _, hd, hs, _, h0, _ => by
    obtain ⟨w, ws', rfl, hw, hs'⟩ := same_cons hs
    have : ws' = [] := by cases ws' with | nil => rfl | cons _ _ => simp [sameL] at hs'
    subst this
    obtain ⟨w1, w2, _⟩ := hw
    simp only at w1 w2
    have hne : done ≠ [] := by rintro rfl; simp at h0
    rw [opsR, is_at (r := r) (by simpa using hd), w1, w2]
    simp [hne]
  | o :: ops, n + 1, a, done, L, ws, r, ha, hd, hs, hl, h0, hn => by
    simp only [List.all_cons, Bool.and_eq_true] at ha
    rw [List.flatMap_cons, List.append_assoc] at hs
    obtain ⟨u, v, rfl, hu, hv⟩ := same_app hs
    rw [List.append_assoc] at hd
    obtain ⟨k0, k1, k2, k3⟩ := op_back ha.1 hd hu
    simp only [List.length_cons] at hl h0 hn
    rw [opsR, k2, if_neg (by simp), if_neg k0, if_neg (by omega), k1, k3]
    simp only
    rw [ops_back ops n _ (done ++ [o]) L v r ha.2 (at_more hd) hv (by simp; omega) (by simp; omega) (by omega)]
    simp [Nat.add_assoc]
/-- A program's words are parsed to it, wherever they lie. -/
theorem parse_back {p : Prg} (hp : mayR p = true) {L ws r : List Wd} {a : Nat} (hd : L.drop a = ws ++ r) (hs : sameL ws (wordsR p)) (hL : a ≤ L.length) : parseR L a = (p, ((a + ws.length : Nat) : Int), 0) := by
  obtain ⟨f, ops⟩ := p
  simp only [mayR, Bool.and_eq_true, decide_eq_true_eq] at hp
  obtain ⟨h0, h12, hall⟩ := hp
  obtain ⟨w0, ws1, rfl, s0, hs1⟩ := same_cons hs
  obtain ⟨u, ws2, rfl, hu, hs2⟩ := same_app hs1
  obtain ⟨w1, v, rfl, s1, hs3⟩ := same_cons hs2
  obtain ⟨s01, s02, _⟩ := s0
  obtain ⟨s11, s12, _⟩ := s1
  simp only at s01 s02 s11 s12
  have hd0 : L.drop a = w0 :: (u ++ (w1 :: (v ++ r))) := by rw [hd]; simp
  have hd1 := at_next hd0
  have hd2 := at_more hd1
  have hd3 := at_next hd2
  have eo : openR L (a + 1) = (f, a + 1 + u.length) := by
    unfold openR
    simp only at hu
    cases f with
    | true =>
      obtain ⟨z, u', rfl, ⟨z1, z2, _⟩, hu'⟩ := same_cons hu
      have : u' = [] := by cases u' with | nil => rfl | cons _ _ => simp [sameL] at hu'
      subst this
      simp only at z1 z2
      rw [is_at hd1, z1, z2]
      simp
    | false =>
      have : u = [] := by cases u with | nil => rfl | cons _ _ => simp [sameL] at hu
      subst this
      rw [is_at (by simpa using hd1), s11]
      rfl
  unfold parseR
  rw [if_neg (by omega), Int.toNat_natCast, is_at hd0, s01, s02, eo]
  simp only [is_at hd2, s11, s12]
  rw [ops_back ops 13 (a + 1 + u.length + 1) [] L v r hall hd3 hs3 (by simpa using h12) (by simpa using h0) (by omega)]
  simp
  omega
theorem arg1_may {L : List Wd} {a a1 : Nat} {k x y : Int} (h : arg1R L a k = .ok (x, a1)) : aMay (k, x, y) = true := by
  unfold arg1R at h
  unfold aMay
  simp only
  split at h
  · next hl =>
    simp only [Except.ok.injEq, Prod.mk.injEq] at h
    rw [if_neg (by omega), ← h.1]; rfl
  · next hl =>
    rw [if_pos (by omega)]
    unfold argR at h
    split at h
    · split at h
      · split at h
        · cases h
        · simp only [Except.ok.injEq, Prod.mk.injEq] at h
          simp only [Bool.and_eq_true, decide_eq_true_eq]
          omega
      · cases h
    · cases h
theorem arg2_may {L : List Wd} {a a1 : Nat} {k x y : Int} (h : arg2R L a k = .ok (y, a1)) : bMay (k, x, y) = true := by
  unfold arg2R at h
  unfold bMay
  simp only
  split at h
  · next hl =>
    rw [if_pos hl]
    unfold argR at h
    split at h
    · split at h
      · split at h
        · cases h
        · simp only [Except.ok.injEq, Prod.mk.injEq] at h
          simp only [Bool.and_eq_true, decide_eq_true_eq]
          omega
      · cases h
    · cases h
  · next hl =>
    simp only [Except.ok.injEq, Prod.mk.injEq] at h
    rw [if_neg hl, ← h.1]; rfl
theorem op_may {L : List Wd} {a a2 : Nat} {k : Int} {o : Opn} (hk : nameR k ≠ []) (h : opR L a k = .ok (o, a2)) : opMay o = true := by
  unfold opR at h
  cases h1 : arg1R L a k with
  | error e => rw [h1] at h; cases h
  | ok x1 =>
    obtain ⟨x, a1⟩ := x1
    rw [h1] at h
    simp only at h
    cases h2 : arg2R L a1 k with
    | error e => rw [h2] at h; cases h
    | ok y1 =>
      obtain ⟨y, a3⟩ := y1
      rw [h2] at h
      simp only at h
      split at h
      · simp only [Except.ok.injEq, Prod.mk.injEq] at h
        rw [← h.1]
        unfold opMay
        rw [arg1_may h1, arg2_may h2]
        simp [hk]
      · cases h
theorem ops_may : ∀ (n a : Nat) (done : List Opn) (L : List Wd) (ops : List Opn) (b : Nat), done.all opMay = true → done.length ≤ 12 → opsR L n a done = .ok (ops, b) → ops.all opMay = true ∧ ops.length ≤ 12 ∧ 0 < ops.length
  | 0, a, done, L, ops, b, _, _, h => by cases h
  | n + 1, a, done, L, ops, b, hd, hl, h => by
    rw [opsR] at h
    split at h
    · split at h
      · cases h
      · next hne =>
        simp only [Except.ok.injEq, Prod.mk.injEq] at h
        rw [← h.1]
        exact ⟨hd, hl, by cases done with | nil => exact absurd rfl hne | cons _ _ => simp⟩
    · split at h
      · cases h
      · next hk =>
        split at h
        · cases h
        · next h12 =>
          cases ho : opR L (a + 1) (kindR L a) with
          | error e => rw [ho] at h; cases h
          | ok x =>
            obtain ⟨o, a2⟩ := x
            rw [ho] at h
            simp only at h
            exact ops_may n a2 (done ++ [o]) L ops b (by simp [hd, op_may (names_all hk (kind_le L a 11)) ho]) (by simp; omega) h
theorem arg_bad {L : List Wd} {a : Nat} {lo hi : Int} {e : Bad} (h : argR L a lo hi = .error e) : e.2 = 1 ∨ e.2 = 5 := by
  unfold argR at h
  split at h
  · split at h
    · split at h
      · cases h; exact Or.inl rfl
      · cases h
    · cases h; exact Or.inr rfl
  · cases h; exact Or.inr rfl
theorem op_bad {L : List Wd} {a : Nat} {k : Int} {e : Bad} (h : opR L a k = .error e) : e.2 = 1 ∨ e.2 = 5 := by
  unfold opR at h
  cases h1 : arg1R L a k with
  | error e1 =>
    rw [h1] at h; cases h
    unfold arg1R at h1
    split at h1
    · cases h1
    · exact arg_bad h1
  | ok x1 =>
    obtain ⟨x, a1⟩ := x1
    rw [h1] at h
    simp only at h
    cases h2 : arg2R L a1 k with
    | error e2 =>
      rw [h2] at h; cases h
      unfold arg2R at h2
      split at h2
      · exact arg_bad h2
      · cases h2
    | ok y1 =>
      obtain ⟨y, a3⟩ := y1
      rw [h2] at h
      simp only at h
      split at h
      · cases h
      · cases h; exact Or.inr rfl
theorem ops_bad : ∀ (n a : Nat) (done : List Opn) (L : List Wd) (e : Bad), opsR L n a done = .error e → e.2 ≠ 0
  | 0, a, done, L, e, h => by cases h; simp
  | n + 1, a, done, L, e, h => by
    rw [opsR] at h
    split at h
    · split at h
      · cases h; simp
      · cases h
    · split at h
      · cases h; simp
      · split at h
        · cases h; simp
        · cases ho : opR L (a + 1) (kindR L a) with
          | error e1 =>
            rw [ho] at h
            cases h
            rcases op_bad ho with h | h <;> rw [h] <;> decide
          | ok x =>
            obtain ⟨o, a2⟩ := x
            rw [ho] at h
            exact ops_bad n a2 (done ++ [o]) L e h
/-- What is parsed may be. -/
theorem parse_may {L : List Wd} {a : Int} (h : (parseR L a).2.2 = 0) : mayR (parseR L a).1 = true := by
  unfold parseR at h ⊢
  split at h
  · cases h
  · next h1 =>
    rw [if_neg h1]
    split at h
    · cases h
    · next h2 =>
      rw [if_neg h2]
      split at h
      · cases h
      · next h3 =>
        rw [if_neg h3]
        cases ho : opsR L 13 ((openR L (a.toNat + 1)).2 + 1) [] with
        | error e =>
          rw [ho] at h
          exact absurd h (ops_bad _ _ _ _ _ ho)
        | ok x =>
          obtain ⟨ops, n⟩ := x
          obtain ⟨k1, k2, k3⟩ := ops_may 13 _ [] L ops n (by rfl) (by simp) ho
          simp [mayR, k1, k2, k3]
end Go.Proofs.YtmcfjlkjijaflaaGreatDoor

/- Critical sections and what fits some locks, plainly. No program. -/
namespace Go.Proofs.YtmcfjlkjijaflaaGreatDoor

/-- A lock: Shared, Slice, Crit, Read, Write. -/
abbrev Lk := Bool × Int × Int × Int × Int
def takesR (o : Opn) : Bool := decide (2 ≤ o.1) && decide (o.1 ≤ 5)
def timeR (o : Opn) : Bool := decide (o.1 = 1) || (decide (o.1 = 7) || (decide (o.1 = 8) || decide (o.1 = 11)))
def endCr (lock : Int) (o : Opn) : Bool := decide (o.1 = 11) || (decide (o.1 = 6) && decide (o.2.1 = lock))
/-- From place j on, t ticks so far: where a section ends, its ticks. -/
def secR (lock : Int) : List Opn → Nat → Int → Nat × Int
  | [], j, t => (j, t)
  | o :: L, j, t => if endCr lock o then (j, t) else secR lock L (j + 1) (if o.1 = 1 then t + o.2.1 else t)
def lockR (locks : List Lk) (a : Int) : Lk := (locks[a.toNat]?).getD (false, 0, 0, 0, 0)
/-- What is met of an op; rest: the ops behind it; n: how many there are; i: its place. -/
def metR (f : Bool) (n : Nat) (locks : List Lk) (progs : Int) (o : Opn) (rest : List Opn) (i : Nat) : Int :=
  if ((takesR o || decide (o.1 = 6)) && decide ((locks.length : Int) ≤ o.2.1)) || (decide (o.1 = 9) && decide (progs ≤ o.2.1)) then 4
  else if o.1 = 3 ∧ (lockR locks o.2.1).1 = false then 1
  else if takesR o = true ∧ ((secR o.2.1 rest (i + 1) 0).2 < 1 ∨ (lockR locks o.2.1).2.2.1 < (secR o.2.1 rest (i + 1) 0).2 ∨ (f = true ∧ (secR o.2.1 rest (i + 1) 0).1 = n)) then 13
  else 0
/-- From place i on; time: an op ahead takes time. -/
def goR (f : Bool) (n : Nat) (locks : List Lk) (progs : Int) : List Opn → Nat → Bool → Nat × Int
  | [], _, time => if f = true ∧ time = false then (0, 1) else (0, 0)
  | o :: L, i, time => if metR f n locks progs o L i = 0 then goR f n locks progs L (i + 1) (time || timeR o) else (i, metR f n locks progs o L i)
def checkR (p : Prg) (locks : List Lk) (progs : Int) : Nat × Int := if mayR p then goR p.1 p.2.length locks progs p.2 0 false else (0, 1)

/-- The ticks of a section of a program that may be. -/
theorem sec_bound (lock : Int) : ∀ (L : List Opn) (j : Nat) (t : Int), (∀ o ∈ L, opMay o = true) → t ≤ (secR lock L j t).2 ∧ (secR lock L j t).2 ≤ t + 16 * L.length ∧ j ≤ (secR lock L j t).1 ∧ (secR lock L j t).1 ≤ j + L.length
  | [], j, t, _ => by simp [secR]
  | o :: L, j, t, h => by
    unfold secR
    split
    · simp
      omega
    · have ho := h o (by simp)
      have hb : o.1 = 1 → 1 ≤ o.2.1 ∧ o.2.1 ≤ 16 := by
        intro h1
        simp only [opMay, Bool.and_eq_true] at ho
        have ha := ho.2.1
        unfold aMay limR at ha
        rw [if_pos h1] at ha
        simpa using ha
      have ih := sec_bound lock L (j + 1) (if o.1 = 1 then t + o.2.1 else t) (fun x hx => h x (by simp [hx]))
      simp only [List.length_cons]
      split at ih
      · next h1 =>
        have := hb h1
        rw [if_pos h1]
        refine ⟨?_, ?_, ?_, ?_⟩ <;> omega
      · next h1 =>
        rw [if_neg h1]
        refine ⟨?_, ?_, ?_, ?_⟩ <;> omega
end Go.Proofs.YtmcfjlkjijaflaaGreatDoor

/- Setups, plainly: their words, how they are read, which may be. No program. -/
namespace Go.Proofs.YtmcfjlkjijaflaaGreatDoor

/-- A setup: Cores, Grain, Groups, Locks, Progs. -/
abbrev Stp := Int × Int × List Int × List Lk × List Prg
abbrev coresB : List By := [99, 111, 114, 101, 115]
abbrev grainB : List By := [103, 114, 97, 105, 110]
abbrev groupB : List By := [103, 114, 111, 117, 112]
abbrev sliceB : List By := [115, 108, 105, 99, 101]
abbrev critB : List By := [99, 114, 105, 116]
abbrev readB : List By := [114, 101, 97, 100]
abbrev writeB : List By := [119, 114, 105, 116, 101]
abbrev lockB : List By := [108, 111, 99, 107]
abbrev sharedB : List By := [115, 104, 97, 114, 101, 100]
abbrev semiW : Wd := (3, [59], 0, 0)
def fieldW (name : List By) (n : Int) : List Wd := [(1, name, 0, 0), (2, [], n, 0)]
def groupW (n : Int) : List Wd := fieldW groupB n ++ [semiW]
def lockW (x : Lk) : List Wd := (1, if x.1 then sharedB else lockB, 0, 0) :: (fieldW sliceB x.2.1 ++ (fieldW critB x.2.2.1 ++ ((if x.1 then fieldW readB x.2.2.2.1 ++ fieldW writeB x.2.2.2.2 else []) ++ [semiW])))
def wordsS (s : Stp) : List Wd := fieldW coresB s.1 ++ [semiW] ++ (fieldW grainB s.2.1 ++ [semiW]) ++ s.2.2.1.flatMap groupW ++ s.2.2.2.1.flatMap lockW ++ s.2.2.2.2.flatMap wordsR
def inS (n most : Int) : Bool := decide (1 ≤ n) && decide (n ≤ most)
def lkMay (x : Lk) : Bool := inS x.2.1 16 && inS x.2.2.1 32 && (if x.1 then inS x.2.2.2.1 16 && inS x.2.2.2.2 16 else decide (x.2.2.2.1 = 0) && decide (x.2.2.2.2 = 0))
def fitS (locks : List Lk) (n : Int) (p : Prg) : Bool := decide ((checkR p locks n).2 = 0)
def mayS (s : Stp) : Bool := inS s.1 4 && inS s.2.1 8 && inS s.2.2.1.length 4 && decide (s.2.2.2.1.length ≤ 8) && inS s.2.2.2.2.length 8 && s.2.2.1.all (inS · 16) && s.2.2.2.1.all lkMay && s.2.2.2.2.all (fitS s.2.2.2.1 s.2.2.2.2.length)

/-- Where a reader is, and its error. -/
abbrev Rd := Nat × Int
def isS (L : List Wd) (s : Rd) (k : Int) (t : List By) : Bool := decide (s.2 = 0) && isR L s.1 k t
def needS (L : List Wd) (s : Rd) (k : Int) (t : List By) : Rd := if isS L s k t then (s.1 + 1, s.2) else if s.2 = 0 then (s.1, 5) else s
def numS (L : List Wd) (s : Rd) (most : Int) : Int × Rd :=
  if s.2 ≠ 0 then (0, s) else match L[s.1]? with
  | none => (0, (s.1, 5))
  | some x => if x.1 = 2 then (if x.2.2.1 < 1 ∨ most < x.2.2.1 then (0, (s.1, 1)) else (x.2.2.1, (s.1 + 1, s.2))) else (0, (s.1, 5))
def fieldS (L : List Wd) (s : Rd) (name : List By) (most : Int) : Int × Rd := numS L (needS L s 1 name) most
def lockS (L : List Wd) (s : Rd) (sh : Bool) : Lk × Rd :=
  let a := fieldS L s sliceB 16
  let b := fieldS L a.2 critB 32
  let c := if sh then fieldS L b.2 readB 16 else (0, b.2)
  let d := if sh then fieldS L c.2 writeB 16 else (0, c.2)
  ((sh, a.1, b.1, c.1, d.1), needS L d.2 3 [59])
def groupsS (L : List Wd) : Nat → Rd → List Int → List Int × Rd
  | 0, s, gs => (gs, s)
  | n + 1, s, gs =>
    if isS L s 1 groupB = true ∨ (gs.length = 0 ∧ s.2 = 0) then
      if isS L s 1 groupB = true ∧ 4 ≤ gs.length then (gs, (s.1, 6))
      else groupsS L n (needS L (fieldS L s groupB 16).2 3 [59]) (gs ++ [(fieldS L s groupB 16).1])
    else (gs, s)
def locksS (L : List Wd) : Nat → Rd → List Lk → List Lk × Rd
  | 0, s, ls => (ls, s)
  | n + 1, s, ls =>
    if isS L s 1 lockB = true ∨ isS L s 1 sharedB = true then
      if 8 ≤ ls.length then (ls, (s.1, 6))
      else locksS L n (lockS L (s.1 + 1, s.2) (isS L s 1 sharedB)).2 (ls ++ [(lockS L (s.1 + 1, s.2) (isS L s 1 sharedB)).1])
    else (ls, s)
def progsS (L : List Wd) : Nat → Rd → List (Prg × Nat) → List (Prg × Nat) × Rd
  | 0, s, ps => (ps, s)
  | n + 1, s, ps =>
    if isS L s 1 progB = true ∨ (ps.length = 0 ∧ s.2 = 0) then
      if 8 ≤ ps.length then (ps, (s.1, 6))
      else progsS L n ((parseR L s.1).2.1.toNat, (parseR L s.1).2.2) (ps ++ [((parseR L s.1).1, s.1)])
    else (ps, s)
/-- The first one that doesn't fit. -/
def unfitS (locks : List Lk) (n : Int) : List (Prg × Nat) → Option Rd
  | [] => none
  | x :: ps => if (checkR x.1 locks n).2 = 0 then unfitS locks n ps else some (x.2, (checkR x.1 locks n).2)
def noneS : Stp := (0, 0, [], [], [])
def headS (L : List Wd) (a : Nat) : Int × Int × Rd :=
  let x := fieldS L (a, 0) coresB 4
  let y := fieldS L (needS L x.2 3 [59]) grainB 8
  (x.1, y.1, needS L y.2 3 [59])
def restS (L : List Wd) (s : Rd) : List Int × List Lk × List (Prg × Nat) × Rd :=
  let g := groupsS L 6 s []
  let l := locksS L 10 g.2 []
  let p := progsS L 10 l.2 []
  (g.1, l.1, p.1, p.2)
def parseS (L : List Wd) (at_ : Int) : Stp × Int × Int :=
  if at_ < 0 ∨ (L.length : Int) < at_ then (noneS, 0, 5)
  else
    let h := headS L at_.toNat
    let r := restS L h.2.2
    if r.2.2.2.2 ≠ 0 then (noneS, r.2.2.2.1, r.2.2.2.2)
    else match unfitS r.2.1 r.2.2.1.length r.2.2.1 with
      | some e => (noneS, e.1, e.2)
      | none => ((h.1, h.2.1, r.1, r.2.1, r.2.2.1.map (·.1)), r.2.2.2.1, 0)

theorem is_back {L : List Wd} {c : Nat} {y : Wd} {r : List Wd} (h : L.drop c = y :: r) (k : Int) (t t' : List By) (n p : Int) (hy : sameR y (k, t, n, p)) (k' : Int) : isS L (c, 0) k' t' = (decide (k = k') && decide (t = t')) := by
  unfold isS
  rw [is_at h, hy.1, hy.2.1]
  simp
theorem need_back {L : List Wd} {c : Nat} {y : Wd} {r : List Wd} (h : L.drop c = y :: r) {k : Int} {t : List By} {n p : Int} (hy : sameR y (k, t, n, p)) : needS L (c, 0) k t = (c + 1, 0) := by
  unfold needS
  rw [is_back h k t t n p hy k]
  simp
theorem num_back {L : List Wd} {c : Nat} {y : Wd} {r : List Wd} (h : L.drop c = y :: r) {n p most : Int} (hy : sameR y (2, [], n, p)) (hn : inS n most = true) : numS L (c, 0) most = (n, (c + 1, 0)) := by
  have e : L[c]? = some y := by rw [← List.head?_drop, h]; rfl
  simp only [inS, Bool.and_eq_true, decide_eq_true_eq] at hn
  unfold numS
  rw [if_neg (by simp)]
  simp only [e]
  have e3 : y.2.2.1 = n := hy.2.2
  rw [if_pos (show y.1 = 2 from hy.1), if_neg (by rw [e3]; omega), e3]
theorem field_back {L : List Wd} {c : Nat} {ws r : List Wd} {name : List By} {n most : Int} (h : L.drop c = ws ++ r) (hs : sameL ws (fieldW name n)) (hn : inS n most = true) : fieldS L (c, 0) name most = (n, (c + ws.length, 0)) ∧ L.drop (c + ws.length) = r := by
  refine ⟨?_, at_more h⟩
  obtain ⟨y, ws1, rfl, hy, h1⟩ := same_cons hs
  obtain ⟨z, ws2, rfl, hz, h2⟩ := same_cons h1
  have hw : ws2 = [] := by
    cases ws2 with
    | nil => rfl
    | cons a b => exact absurd h2 (by simp [sameL])
  subst hw
  have h3 : L.drop c = y :: (z :: r) := h
  unfold fieldS
  rw [need_back h3 hy, num_back (at_next h3) hz hn]
  rfl
theorem semi_back {L : List Wd} {c : Nat} {ws r : List Wd} (h : L.drop c = ws ++ r) (hs : sameL ws [semiW]) : needS L (c, 0) 3 [59] = (c + ws.length, 0) ∧ L.drop (c + ws.length) = r := by
  refine ⟨?_, at_more h⟩
  obtain ⟨y, ws1, rfl, hy, h1⟩ := same_cons hs
  have hw : ws1 = [] := by
    cases ws1 with
    | nil => rfl
    | cons a b => exact absurd h1 (by simp [sameL])
  subst hw
  exact need_back h hy
theorem same_nil {ws : List Wd} (h : sameL ws []) : ws = [] := by
  cases ws with
  | nil => rfl
  | cons a b => exact absurd h (by simp [sameL])
theorem groups_back : ∀ (gs : List Int) (n c : Nat) (done : List Int) (L ws r : List Wd), gs.all (inS · 16) = true → L.drop c = ws ++ r → sameL ws (gs.flatMap groupW) → done.length + gs.length ≤ 4 → 0 < done.length + gs.length → gs.length < n → isR L (c + ws.length) 1 groupB = false →
    groupsS L n (c, 0) done = (done ++ gs, (c + ws.length, 0)) ∧ L.drop (c + ws.length) = r
  | [], n, c, done, L, ws, r, _, hd, hs, _, h0, hn, hg => by
    have hw := same_nil hs
    subst hw
    obtain ⟨m, rfl⟩ : ∃ m, n = m + 1 := ⟨n - 1, by simp at hn; omega⟩
    refine ⟨?_, at_more hd⟩
    simp only [List.length_nil, Nat.add_zero] at h0 hg ⊢
    unfold groupsS
    rw [if_neg (by
      rintro (h | ⟨h, _⟩)
      · unfold isS at h
        rw [hg] at h
        simp at h
      · omega), List.append_nil]
  | g :: gs, n, c, done, L, ws, r, ha, hd, hs, h4, h0, hn, hg => by
    simp only [List.all_cons, Bool.and_eq_true] at ha
    simp only [List.length_cons] at h4 h0 hn
    obtain ⟨m, rfl⟩ : ∃ m, n = m + 1 := ⟨n - 1, by omega⟩
    rw [List.flatMap_cons] at hs
    obtain ⟨u, v, rfl, hu, hv⟩ := same_app hs
    obtain ⟨u1, u2, rfl, hu1, hu2⟩ := same_app (show sameL u (fieldW groupB g ++ [semiW]) from hu)
    have hd1 : L.drop c = u1 ++ (u2 ++ (v ++ r)) := by rw [hd]; simp
    obtain ⟨f1, d1⟩ := field_back hd1 hu1 ha.1
    obtain ⟨f2, d2⟩ := semi_back d1 hu2
    have hi : isS L (c, 0) 1 groupB = true := by
      obtain ⟨y, ws1, rfl, hy, _⟩ := same_cons (show sameL u1 ((1, groupB, 0, 0) :: [(2, [], g, 0)]) from hu1)
      rw [is_back (r := ws1 ++ (u2 ++ (v ++ r))) (by rw [hd1]; rfl) 1 groupB groupB 0 0 hy 1]
      simp
    have hlen : c + (u1 ++ u2 ++ v).length = c + u1.length + u2.length + v.length := by simp; omega
    rw [hlen] at hg ⊢
    obtain ⟨i1, i2⟩ := groups_back gs m (c + u1.length + u2.length) (done ++ [g]) L v r ha.2 d2 hv (by rw [List.length_append, List.length_singleton]; omega) (by rw [List.length_append, List.length_singleton]; omega) (by omega) hg
    refine ⟨?_, i2⟩
    unfold groupsS
    rw [if_pos (.inl hi), if_neg (by rintro ⟨_, h⟩; omega), f1]
    simp only
    rw [f2, i1, List.append_assoc, List.singleton_append]
theorem lock_back {x : Lk} (hx : lkMay x = true) {L : List Wd} {c : Nat} {ws r : List Wd} (h : L.drop c = ws ++ r) (hs : sameL ws (fieldW sliceB x.2.1 ++ (fieldW critB x.2.2.1 ++ ((if x.1 then fieldW readB x.2.2.2.1 ++ fieldW writeB x.2.2.2.2 else []) ++ [semiW])))) :
    lockS L (c, 0) x.1 = (x, (c + ws.length, 0)) ∧ L.drop (c + ws.length) = r := by
  obtain ⟨sh, sl, cr, rd, wr⟩ := x
  simp only [lkMay, Bool.and_eq_true] at hx
  obtain ⟨⟨h1, h2⟩, h3⟩ := hx
  simp only at hs h1 h2 h3 ⊢
  obtain ⟨u1, v1, rfl, hu1, hv1⟩ := same_app hs
  obtain ⟨u2, v2, rfl, hu2, hv2⟩ := same_app hv1
  obtain ⟨u3, u4, rfl, hu3, hu4⟩ := same_app hv2
  have hd1 : L.drop c = u1 ++ (u2 ++ (u3 ++ (u4 ++ r))) := by rw [h]; simp
  obtain ⟨f1, d1⟩ := field_back hd1 hu1 h1
  obtain ⟨f2, d2⟩ := field_back d1 hu2 h2
  cases sh with
  | true =>
    simp only [if_pos, Bool.and_eq_true] at hu3 h3
    obtain ⟨w1, w2, rfl, hw1, hw2⟩ := same_app hu3
    have d2' : L.drop (c + u1.length + u2.length) = w1 ++ (w2 ++ (u4 ++ r)) := by rw [d2]; simp
    obtain ⟨f3, d3⟩ := field_back d2' hw1 h3.1
    obtain ⟨f4, d4⟩ := field_back d3 hw2 h3.2
    obtain ⟨f5, d5⟩ := semi_back d4 hu4
    have hlen : c + (u1 ++ (u2 ++ (w1 ++ w2 ++ u4))).length = c + u1.length + u2.length + w1.length + w2.length + u4.length := by simp; omega
    rw [hlen]
    refine ⟨?_, d5⟩
    unfold lockS
    simp only [f1, f2, if_pos, f3, f4, f5]
  | false =>
    simp only [Bool.false_eq_true, if_false, Bool.and_eq_true, decide_eq_true_eq] at hu3 h3
    have hw := same_nil hu3
    subst hw
    simp only [List.nil_append] at d2
    obtain ⟨f5, d5⟩ := semi_back d2 hu4
    have hlen : c + (u1 ++ (u2 ++ ([] ++ u4))).length = c + u1.length + u2.length + u4.length := by simp; omega
    rw [hlen]
    refine ⟨?_, d5⟩
    unfold lockS
    simp only [f1, f2, Bool.false_eq_true, if_false, f5]
    rw [h3.1, h3.2]
theorem locks_back : ∀ (ls : List Lk) (n c : Nat) (done : List Lk) (L ws r : List Wd), ls.all lkMay = true → L.drop c = ws ++ r → sameL ws (ls.flatMap lockW) → done.length + ls.length ≤ 8 → ls.length < n → isR L (c + ws.length) 1 lockB = false → isR L (c + ws.length) 1 sharedB = false →
    locksS L n (c, 0) done = (done ++ ls, (c + ws.length, 0)) ∧ L.drop (c + ws.length) = r
  | [], n, c, done, L, ws, r, _, hd, hs, _, hn, hg1, hg2 => by
    have hw := same_nil hs
    subst hw
    obtain ⟨m, rfl⟩ : ∃ m, n = m + 1 := ⟨n - 1, by simp at hn; omega⟩
    refine ⟨?_, at_more hd⟩
    simp only [List.length_nil, Nat.add_zero] at hg1 hg2 ⊢
    unfold locksS
    rw [if_neg (by
      unfold isS
      rw [hg1, hg2]
      simp), List.append_nil]
  | x :: ls, n, c, done, L, ws, r, ha, hd, hs, h8, hn, hg1, hg2 => by
    simp only [List.all_cons, Bool.and_eq_true] at ha
    simp only [List.length_cons] at h8 hn
    obtain ⟨m, rfl⟩ : ∃ m, n = m + 1 := ⟨n - 1, by omega⟩
    rw [List.flatMap_cons] at hs
    obtain ⟨u, v, rfl, hu, hv⟩ := same_app hs
    obtain ⟨y, u2, rfl, hy, hu2⟩ := same_cons hu
    have hd1 : L.drop c = y :: (u2 ++ (v ++ r)) := by rw [hd]; simp
    obtain ⟨f1, d1⟩ := lock_back ha.1 (at_next hd1) hu2
    have i1 := is_back hd1 1 (if x.1 then sharedB else lockB) lockB 0 0 hy 1
    have i2 := is_back hd1 1 (if x.1 then sharedB else lockB) sharedB 0 0 hy 1
    have hor : isS L (c, 0) 1 lockB = true ∨ isS L (c, 0) 1 sharedB = true := by
      rw [i1, i2]
      cases x.1 <;> simp
    have hsh : isS L (c, 0) 1 sharedB = x.1 := by
      rw [i2]
      cases x.1 <;> decide
    have hlen : c + (y :: u2 ++ v).length = c + 1 + u2.length + v.length := by simp; omega
    rw [hlen] at hg1 hg2 ⊢
    obtain ⟨j1, j2⟩ := locks_back ls m (c + 1 + u2.length) (done ++ [x]) L v r ha.2 d1 hv (by rw [List.length_append, List.length_singleton]; omega) (by omega) hg1 hg2
    refine ⟨?_, j2⟩
    unfold locksS
    rw [if_pos hor, if_neg (by omega), hsh]
    simp only
    rw [f1]
    simp only
    rw [j1, List.append_assoc, List.singleton_append]
theorem drop_le {L ws r : List Wd} {c : Nat} (hd : L.drop c = ws ++ r) (h : 0 < ws.length) : c ≤ L.length := by
  by_cases h1 : c ≤ L.length
  · exact h1
  · rw [List.drop_of_length_le (by omega)] at hd
    have h2 := congrArg List.length hd
    simp at h2
    omega
theorem words_pos (p : Prg) : ∃ l, wordsR p = (1, progB, 0, 0) :: l := ⟨_, rfl⟩
theorem progs_back : ∀ (ps : List Prg) (n c : Nat) (done : List (Prg × Nat)) (L ws r : List Wd), (∀ p ∈ ps, mayR p = true) → L.drop c = ws ++ r → sameL ws (ps.flatMap wordsR) → done.length + ps.length ≤ 8 → 0 < done.length + ps.length → ps.length < n → isR L (c + ws.length) 1 progB = false →
    ∃ pl : List (Prg × Nat), pl.map (·.1) = ps ∧ progsS L n (c, 0) done = (done ++ pl, (c + ws.length, 0)) ∧ L.drop (c + ws.length) = r
  | [], n, c, done, L, ws, r, _, hd, hs, _, h0, hn, hg => by
    have hw := same_nil hs
    subst hw
    obtain ⟨m, rfl⟩ : ∃ m, n = m + 1 := ⟨n - 1, by simp at hn; omega⟩
    refine ⟨[], rfl, ?_, at_more hd⟩
    simp only [List.length_nil, Nat.add_zero] at h0 hg ⊢
    unfold progsS
    rw [if_neg (by
      rintro (h | ⟨h, _⟩)
      · unfold isS at h
        rw [hg] at h
        simp at h
      · omega), List.append_nil]
  | p :: ps, n, c, done, L, ws, r, ha, hd, hs, h8, h0, hn, hg => by
    simp only [List.length_cons] at h8 h0 hn
    obtain ⟨m, rfl⟩ : ∃ m, n = m + 1 := ⟨n - 1, by omega⟩
    rw [List.flatMap_cons] at hs
    obtain ⟨u, v, rfl, hu, hv⟩ := same_app hs
    have hd1 : L.drop c = u ++ (v ++ r) := by rw [hd]; simp
    obtain ⟨l, hl⟩ := words_pos p
    have hu' := hu
    rw [hl] at hu'
    obtain ⟨y, u2, rfl, hy, _⟩ := same_cons hu'
    have hc : c ≤ L.length := drop_le hd1 (by simp)
    have hp := parse_back (ha p (by simp)) hd1 hu hc
    have hi : isS L (c, 0) 1 progB = true := by
      rw [is_back (r := u2 ++ (v ++ r)) (by rw [hd1]; rfl) 1 progB progB 0 0 hy 1]
      simp
    have hlen : c + (y :: u2 ++ v).length = c + (y :: u2).length + v.length := by simp; omega
    rw [hlen] at hg ⊢
    obtain ⟨pl, k1, k2, k3⟩ := progs_back ps m (c + (y :: u2).length) (done ++ [(p, c)]) L v r (fun q hq => ha q (by simp [hq])) (at_more hd1) hv (by rw [List.length_append, List.length_singleton]; omega) (by rw [List.length_append, List.length_singleton]; omega) (by omega) hg
    refine ⟨(p, c) :: pl, by simp [k1], ?_, k3⟩
    unfold progsS
    rw [if_pos (.inl hi), if_neg (by omega), hp]
    simp only [Int.toNat_natCast]
    rw [k2, List.append_assoc, List.singleton_append]
theorem unfit_none {locks : List Lk} {n : Int} : ∀ {ps : List (Prg × Nat)}, (∀ x ∈ ps, (checkR x.1 locks n).2 = 0) → unfitS locks n ps = none
  | [], _ => rfl
  | x :: ps, h => by
    unfold unfitS
    rw [if_pos (h x (by simp))]
    exact unfit_none fun y hy => h y (by simp [hy])
theorem check_may {p : Prg} {locks : List Lk} {n : Int} (h : (checkR p locks n).2 = 0) : mayR p = true := by
  unfold checkR at h
  cases hq : mayR p with
  | true => rfl
  | false =>
    rw [hq] at h
    simp at h
/-- The words of a setup that may be are parsed to it, wherever they lie, if no program follows. -/
theorem setup_back {s : Stp} (hs : mayS s = true) {L ws r : List Wd} {a : Nat} (hd : L.drop a = ws ++ r) (hw : sameL ws (wordsS s)) (hL : a ≤ L.length) (hr : isR L (a + ws.length) 1 progB = false) : parseS L a = (s, ((a + ws.length : Nat) : Int), 0) := by
  obtain ⟨cores, grain, groups, locks, progs⟩ := s
  simp only [mayS, Bool.and_eq_true] at hs
  obtain ⟨⟨⟨⟨⟨⟨⟨m1, m2⟩, m3⟩, m4⟩, m5⟩, m6⟩, m7⟩, m8⟩ := hs
  simp only [inS, Bool.and_eq_true, decide_eq_true_eq] at m3 m4 m5
  unfold wordsS at hw
  simp only at hw m1 m2 m3 m4 m5 m6 m7 m8
  obtain ⟨w14, w5, rfl, h14, h5⟩ := same_app hw
  obtain ⟨w13, w4, rfl, h13, h4⟩ := same_app h14
  obtain ⟨w12, w3, rfl, h12, h3⟩ := same_app h13
  obtain ⟨w1, w2, rfl, h1, h2⟩ := same_app h12
  obtain ⟨w1a, w1b, rfl, h1a, h1b⟩ := same_app h1
  obtain ⟨w2a, w2b, rfl, h2a, h2b⟩ := same_app h2
  have hd1 : L.drop a = w1a ++ (w1b ++ (w2a ++ (w2b ++ (w3 ++ (w4 ++ (w5 ++ r)))))) := by rw [hd]; simp
  obtain ⟨f1, d1⟩ := field_back hd1 h1a m1
  obtain ⟨f2, d2⟩ := semi_back d1 h1b
  obtain ⟨f3, d3⟩ := field_back d2 h2a m2
  obtain ⟨f4, d4⟩ := semi_back d3 h2b
  obtain ⟨c0, hc0⟩ : ∃ c, a + w1a.length + w1b.length + w2a.length + w2b.length = c := ⟨_, rfl⟩
  rw [hc0] at f4 d4
  have hlen : a + (w1a ++ w1b ++ (w2a ++ w2b) ++ w3 ++ w4 ++ w5).length = c0 + w3.length + w4.length + w5.length := by simp; omega
  rw [hlen] at hr ⊢
  -- what stands behind each row begins none of it
  have hfirst : ∀ {c : Nat} {u v : List Wd} {t t' : List By} {l : List Wd}, L.drop c = u ++ v → sameL u ((1, t, 0, 0) :: l) → t ≠ t' → isR L c 1 t' = false := by
    intro c u v t t' l hdc hsu hne
    obtain ⟨y, u2, rfl, hy, _⟩ := same_cons hsu
    rw [is_at (r := u2 ++ v) (by rw [hdc]; rfl), hy.1, hy.2.1]
    simp [hne]
  have hp5 : ∃ l, progs.flatMap wordsR = (1, progB, 0, 0) :: l := by
    cases progs with
    | nil => simp at m5
    | cons p ps => exact ⟨_, rfl⟩
  obtain ⟨l5, hl5⟩ := hp5
  have d3' : L.drop (c0 + w3.length) = w4 ++ (w5 ++ r) := at_more d4
  have d4' : L.drop (c0 + w3.length + w4.length) = w5 ++ r := at_more d3'
  have n5 : ∀ t', progB ≠ t' → isR L (c0 + w3.length + w4.length) 1 t' = false := fun t' ht => hfirst (t := progB) d4' (by rw [← hl5]; exact h5) ht
  have n4 : isR L (c0 + w3.length) 1 groupB = false := by
    cases locks with
    | nil =>
      have hw4 := same_nil (show sameL w4 [] from h4)
      subst hw4
      simpa using n5 groupB (by decide)
    | cons x ls =>
      obtain ⟨u, v, rfl, hu, hv⟩ := same_app (show sameL w4 (lockW x ++ ls.flatMap lockW) from h4)
      refine hfirst (t := if x.1 then sharedB else lockB) (u := u) (v := v ++ (w5 ++ r)) (by rw [d3']; simp) hu ?_
      cases x.1 <;> decide
  obtain ⟨g1, g2⟩ := groups_back groups 6 c0 [] L w3 (w4 ++ (w5 ++ r)) m6 d4 h3 (by simp; omega) (by simp; omega) (by omega) n4
  obtain ⟨k1, k2⟩ := locks_back locks 10 (c0 + w3.length) [] L w4 (w5 ++ r) m7 g2 h4 (by simp; omega) (by omega) (n5 lockB (by decide)) (n5 sharedB (by decide))
  have hmay : ∀ p ∈ progs, mayR p = true := by
    intro p hp
    have h8 := List.all_eq_true.1 m8 p hp
    exact check_may (of_decide_eq_true h8)
  obtain ⟨pl, q1, q2, q3⟩ := progs_back progs 10 (c0 + w3.length + w4.length) [] L w5 r hmay k2 h5 (by simp; omega) (by simp; omega) (by omega) hr
  have hun : unfitS locks pl.length pl = none := by
    apply unfit_none
    intro x hx
    have hxp : x.1 ∈ progs := by rw [← q1]; exact List.mem_map_of_mem hx
    have h8 := List.all_eq_true.1 m8 x.1 hxp
    have hl : pl.length = progs.length := by rw [← q1, List.length_map]
    rw [hl]
    exact of_decide_eq_true h8
  have hhead : headS L a = (cores, grain, (c0, 0)) := by
    unfold headS
    simp only [f1, f2, f3, f4]
  have hrest : restS L (c0, 0) = (groups, locks, pl, (c0 + w3.length + w4.length + w5.length, 0)) := by
    unfold restS
    simp only [g1, k1, q2, List.nil_append]
  unfold parseS
  rw [if_neg (by omega)]
  simp only [Int.toNat_natCast, hhead, hrest]
  rw [if_neg (by simp), hun]
  simp only [q1]
/-! What is read may be. -/
theorem need_ok {L : List Wd} {s : Rd} {k : Int} {t : List By} (h : (needS L s k t).2 = 0) : s.2 = 0 := by
  unfold needS at h
  split at h
  · exact h
  · split at h
    · simp at h
    · exact h
theorem snum_ok {L : List Wd} {s : Rd} {most : Int} (h : (numS L s most).2.2 = 0) : s.2 = 0 ∧ inS (numS L s most).1 most = true := by
  unfold numS at h ⊢
  split at h
  · next h0 => exact absurd h h0
  · next h0 =>
    have h1 : s.2 = 0 := by simpa using h0
    rw [if_neg h0]
    split at h
    · simp at h
    · next x hx =>
      (try simp only [hx])
      split at h
      · next h2 =>
        split at h
        · simp at h
        · next h3 =>
          rw [if_pos h2, if_neg h3]
          refine ⟨h1, ?_⟩
          simp only [inS, Bool.and_eq_true, decide_eq_true_eq]
          omega
      · simp at h
theorem field_ok {L : List Wd} {s : Rd} {name : List By} {most : Int} (h : (fieldS L s name most).2.2 = 0) : s.2 = 0 ∧ inS (fieldS L s name most).1 most = true := by
  unfold fieldS at h ⊢
  obtain ⟨h1, h2⟩ := snum_ok h
  exact ⟨need_ok h1, h2⟩
theorem lock_ok {L : List Wd} {s : Rd} {sh : Bool} (h : (lockS L s sh).2.2 = 0) : s.2 = 0 ∧ lkMay (lockS L s sh).1 = true := by
  unfold lockS at h ⊢
  simp only at h ⊢
  have h1 := need_ok h
  cases sh with
  | true =>
    simp only [if_pos] at h1 ⊢
    obtain ⟨a1, a2⟩ := field_ok h1
    obtain ⟨b1, b2⟩ := field_ok a1
    obtain ⟨c1, c2⟩ := field_ok b1
    obtain ⟨d1, d2⟩ := field_ok c1
    exact ⟨d1, by simp only [lkMay, if_pos, Bool.and_eq_true]; exact ⟨⟨d2, c2⟩, b2, a2⟩⟩
  | false =>
    simp only [Bool.false_eq_true, if_false] at h1 ⊢
    obtain ⟨c1, c2⟩ := field_ok h1
    obtain ⟨d1, d2⟩ := field_ok c1
    exact ⟨d1, by simp only [lkMay, Bool.false_eq_true, if_false, Bool.and_eq_true, decide_eq_true_eq]; exact ⟨⟨d2, c2⟩, trivial, trivial⟩⟩
theorem groups_ok {L : List Wd} : ∀ (n : Nat) (s : Rd) (gs : List Int), gs.length ≤ 4 → 6 ≤ n + gs.length → gs.all (inS · 16) = true → (groupsS L n s gs).2.2 = 0 → s.2 = 0 ∧ 1 ≤ (groupsS L n s gs).1.length ∧ (groupsS L n s gs).1.length ≤ 4 ∧ (groupsS L n s gs).1.all (inS · 16) = true
  | 0, s, gs, h4, h6, _, _ => by omega
  | n + 1, s, gs, h4, h6, ha, h => by
    unfold groupsS at h ⊢
    by_cases hc : isS L s 1 groupB = true ∨ (gs.length = 0 ∧ s.2 = 0)
    · rw [if_pos hc] at h ⊢
      by_cases hl : isS L s 1 groupB = true ∧ 4 ≤ gs.length
      · rw [if_pos hl] at h
        simp at h
      · rw [if_neg hl] at h ⊢
        have hlt : gs.length < 4 := by
          rcases hc with hc | hc
          · have : ¬ 4 ≤ gs.length := fun h => hl ⟨hc, h⟩
            omega
          · omega
        -- the number read is told once the rest is read
        have key : (needS L (fieldS L s groupB 16).2 3 [59]).2 = 0 := by
          cases hn : (needS L (fieldS L s groupB 16).2 3 [59]).2 == 0 with
          | true => simpa using hn
          | false =>
            exfalso
            have hne : (needS L (fieldS L s groupB 16).2 3 [59]).2 ≠ 0 := by simpa using hn
            obtain ⟨m, rfl⟩ : ∃ m, n = m + 1 := ⟨n - 1, by omega⟩
            unfold groupsS at h
            rw [if_neg (by
              rintro (h1 | ⟨h1, _⟩)
              · unfold isS at h1
                simp only [Bool.and_eq_true, decide_eq_true_eq] at h1
                exact hne h1.1
              · simp at h1)] at h
            exact hne h
        obtain ⟨f1, f2⟩ := field_ok (need_ok key)
        obtain ⟨_, i2, i3, i4⟩ := groups_ok n _ (gs ++ [(fieldS L s groupB 16).1]) (by simp; omega) (by simp; omega) (by rw [List.all_append, ha]; simp [f2]) h
        exact ⟨f1, i2, i3, i4⟩
    · rw [if_neg hc] at h ⊢
      simp only at h ⊢
      refine ⟨h, ?_, h4, ha⟩
      have : ¬ gs.length = 0 := fun h1 => hc (.inr ⟨h1, h⟩)
      omega
theorem locks_ok {L : List Wd} : ∀ (n : Nat) (s : Rd) (ls : List Lk), ls.length ≤ 8 → 10 ≤ n + ls.length → ls.all lkMay = true → (locksS L n s ls).2.2 = 0 → s.2 = 0 ∧ (locksS L n s ls).1.length ≤ 8 ∧ (locksS L n s ls).1.all lkMay = true
  | 0, s, ls, h4, h6, _, _ => by omega
  | n + 1, s, ls, h4, h6, ha, h => by
    unfold locksS at h ⊢
    by_cases hc : isS L s 1 lockB = true ∨ isS L s 1 sharedB = true
    · rw [if_pos hc] at h ⊢
      by_cases hl : 8 ≤ ls.length
      · rw [if_pos hl] at h
        simp at h
      · rw [if_neg hl] at h ⊢
        have key : (lockS L (s.1 + 1, s.2) (isS L s 1 sharedB)).2.2 = 0 := by
          cases hn : (lockS L (s.1 + 1, s.2) (isS L s 1 sharedB)).2.2 == 0 with
          | true => simpa using hn
          | false =>
            exfalso
            have hne : (lockS L (s.1 + 1, s.2) (isS L s 1 sharedB)).2.2 ≠ 0 := by simpa using hn
            obtain ⟨m, rfl⟩ : ∃ m, n = m + 1 := ⟨n - 1, by omega⟩
            unfold locksS at h
            rw [if_neg (by
              rintro (h1 | h1) <;>
              · unfold isS at h1
                simp only [Bool.and_eq_true, decide_eq_true_eq] at h1
                exact hne h1.1)] at h
            exact hne h
        obtain ⟨f1, f2⟩ := lock_ok key
        obtain ⟨_, i3, i4⟩ := locks_ok n _ (ls ++ [(lockS L (s.1 + 1, s.2) (isS L s 1 sharedB)).1]) (by simp; omega) (by simp; omega) (by rw [List.all_append, ha]; simp [f2]) h
        exact ⟨f1, i3, i4⟩
    · rw [if_neg hc] at h ⊢
      exact ⟨h, h4, ha⟩
theorem progs_ok {L : List Wd} : ∀ (n : Nat) (s : Rd) (ps : List (Prg × Nat)), ps.length ≤ 8 → 10 ≤ n + ps.length → (progsS L n s ps).2.2 = 0 → (s.2 = 0 ∨ 0 < ps.length) ∧ 1 ≤ (progsS L n s ps).1.length ∧ (progsS L n s ps).1.length ≤ 8
  | 0, s, ps, h4, h6, _ => by omega
  | n + 1, s, ps, h4, h6, h => by
    unfold progsS at h ⊢
    by_cases hc : isS L s 1 progB = true ∨ (ps.length = 0 ∧ s.2 = 0)
    · rw [if_pos hc] at h ⊢
      have h0 : s.2 = 0 := by
        rcases hc with hc | hc
        · unfold isS at hc
          simp only [Bool.and_eq_true, decide_eq_true_eq] at hc
          exact hc.1
        · exact hc.2
      by_cases hl : 8 ≤ ps.length
      · rw [if_pos hl] at h
        simp at h
      · rw [if_neg hl] at h ⊢
        obtain ⟨_, i2, i3⟩ := progs_ok n _ (ps ++ [((parseR L s.1).1, s.1)]) (by simp; omega) (by simp; omega) h
        exact ⟨.inl h0, i2, i3⟩
    · rw [if_neg hc] at h ⊢
      simp only at h ⊢
      have : ¬ ps.length = 0 := fun h1 => hc (.inr ⟨h1, h⟩)
      exact ⟨.inl h, by omega, h4⟩
theorem unfit_ok {locks : List Lk} {n : Int} : ∀ {ps : List (Prg × Nat)}, unfitS locks n ps = none → ∀ x ∈ ps, (checkR x.1 locks n).2 = 0
  | [], _, x, hx => by cases hx
  | y :: ps, h, x, hx => by
    unfold unfitS at h
    split at h
    · next h0 =>
      rcases List.mem_cons.1 hx with rfl | hx
      · exact h0
      · exact unfit_ok h x hx
    · simp at h
theorem unfit_bad {locks : List Lk} {n : Int} {e : Rd} : ∀ {ps : List (Prg × Nat)}, unfitS locks n ps = some e → e.2 ≠ 0
  | [], h => by simp [unfitS] at h
  | y :: ps, h => by
    unfold unfitS at h
    split at h
    · exact unfit_bad h
    · next h0 =>
      simp only [Option.some.injEq] at h
      rw [← h]
      exact h0
/-- What is parsed may be. -/
theorem setup_may {L : List Wd} {a : Int} (h : (parseS L a).2.2 = 0) : mayS (parseS L a).1 = true := by
  unfold parseS at h ⊢
  by_cases ho : a < 0 ∨ (L.length : Int) < a
  · rw [if_pos ho] at h
    simp at h
  · rw [if_neg ho] at h ⊢
    simp only at h ⊢
    by_cases he : (restS L (headS L a.toNat).2.2).2.2.2.2 ≠ 0
    · rw [if_pos he] at h
      exact absurd h he
    · rw [if_neg he] at h ⊢
      have he0 : (restS L (headS L a.toNat).2.2).2.2.2.2 = 0 := by simpa using he
      cases hu : unfitS (restS L (headS L a.toNat).2.2).2.1 (restS L (headS L a.toNat).2.2).2.2.1.length (restS L (headS L a.toNat).2.2).2.2.1 with
      | some e =>
        rw [hu] at h
        exact absurd h (unfit_bad hu)
      | none =>
        rw [hu] at h
        simp only at h ⊢
        have hfit := unfit_ok hu
        obtain ⟨s0, hs0⟩ : ∃ s, headS L a.toNat = s := ⟨_, rfl⟩
        rw [hs0] at he0 hfit ⊢
        unfold restS at he0 hfit ⊢
        simp only at he0 hfit ⊢
        obtain ⟨p1, p2, p3⟩ := progs_ok 10 _ [] (by simp) (by simp) he0
        have q0 : (locksS L 10 (groupsS L 6 s0.2.2 []).2 []).2.2 = 0 := by
          rcases p1 with p1 | p1
          · exact p1
          · simp at p1
        obtain ⟨l1, l2, l3⟩ := locks_ok 10 _ [] (by simp) (by simp) rfl q0
        obtain ⟨g1, g2, g3, g4⟩ := groups_ok 6 _ [] (by simp) (by simp) rfl l1
        have hh : s0.2.2.2 = 0 ∧ inS s0.1 4 = true ∧ inS s0.2.1 8 = true := by
          refine ⟨g1, ?_⟩
          rw [← hs0] at g1 ⊢
          unfold headS at g1 ⊢
          simp only at g1 ⊢
          obtain ⟨y1, y2⟩ := field_ok (need_ok g1)
          obtain ⟨x1, x2⟩ := field_ok (need_ok y1)
          exact ⟨x2, y2⟩
        unfold mayS
        simp only [Bool.and_eq_true, decide_eq_true_eq, List.length_map]
        refine ⟨⟨⟨⟨⟨⟨⟨hh.2.1, hh.2.2⟩, ?_⟩, l2⟩, ?_⟩, g4⟩, l3⟩, ?_⟩
        · simp only [inS, Bool.and_eq_true, decide_eq_true_eq]
          omega
        · simp only [inS, Bool.and_eq_true, decide_eq_true_eq]
          omega
        · rw [List.all_eq_true]
          intro p hp
          obtain ⟨x, hx, rfl⟩ := List.mem_map.1 hp
          unfold fitS
          exact decide_eq_true (hfit x hx)
end Go.Proofs.YtmcfjlkjijaflaaGreatDoor

/- What layer 12's awake asks, plainly. No program. (Made by gen_suawake.py.) -/
namespace Go.Proofs.YtmcfjlkjijaflaaGreatDoor

instance : DecidableEq Lk := inferInstanceAs (DecidableEq (Bool × Int × Int × Int × Int))
instance : DecidableEq Prg := inferInstanceAs (DecidableEq (Bool × List (Int × Int × Int)))
instance : DecidableEq (List Lk × List Prg) := instDecidableEqProd
instance : DecidableEq (List Int × List Lk × List Prg) := instDecidableEqProd
instance : DecidableEq (Int × List Int × List Lk × List Prg) := instDecidableEqProd
instance : DecidableEq Stp := instDecidableEqProd
def sw1 : List Wd := [(1, [99, 111, 114, 101, 115], 0, 0), (2, [], 1, 6), (3, [59], 0, 7), (1, [103, 114, 97, 105, 110], 0, 9), (2, [], 2, 15), (3, [59], 0, 16), (1, [103, 114, 111, 117, 112], 0, 18), (2, [], 4, 24), (3, [59], 0, 25), (1, [108, 111, 99, 107], 0, 27), (1, [115, 108, 105, 99, 101], 0, 32), (2, [], 3, 38), (1, [99, 114, 105, 116], 0, 40), (2, [], 5, 45), (3, [59], 0, 46), (1, [115, 104, 97, 114, 101, 100], 0, 48), (1, [115, 108, 105, 99, 101], 0, 55), (2, [], 1, 61), (1, [99, 114, 105, 116], 0, 63), (2, [], 2, 68), (1, [114, 101, 97, 100], 0, 70), (2, [], 3, 75), (1, [119, 114, 105, 116, 101], 0, 77), (2, [], 4, 83), (3, [59], 0, 84), (1, [112, 114, 111, 103], 0, 86), (3, [123], 0, 91), (1, [101, 120, 105, 116], 0, 93), (3, [59], 0, 97), (3, [125], 0, 99)]
def ss1 : Stp := (1, 2, [4], [(false, 3, 5, 0, 0), (true, 1, 2, 3, 4)], [(false, [(11, 0, 0)])])
abbrev st1 : List By := [99, 111, 114, 101, 115, 32, 49, 59, 32, 103, 114, 97, 105, 110, 32, 50, 59, 32, 103, 114, 111, 117, 112, 32, 52, 59, 32, 108, 111, 99, 107, 32, 115, 108, 105, 99, 101, 32, 51, 32, 99, 114, 105, 116, 32, 53, 59, 32, 115, 104, 97, 114, 101, 100, 32, 115, 108, 105, 99, 101, 32, 49, 32, 99, 114, 105, 116, 32, 50, 32, 114, 101, 97, 100, 32, 51, 32, 119, 114, 105, 116, 101, 32, 52, 59, 32, 112, 114, 111, 103, 32, 123, 32, 101, 120, 105, 116, 59, 32, 125]
theorem sw_scan : scanA [99, 111, 114, 101, 115, 32, 49, 59, 32, 103, 114, 97, 105, 110, 32, 50, 59, 32, 103, 114, 111, 117, 112, 32, 52, 59, 32, 108, 111, 99, 107, 32, 115, 108, 105, 99, 101, 32, 51, 32, 99, 114, 105, 116, 32, 53, 59, 32, 115, 104, 97, 114, 101, 100, 32, 115, 108, 105, 99, 101, 32, 49, 32, 99, 114, 105, 116, 32, 50, 32, 114, 101, 97, 100, 32, 51, 32, 119, 114, 105, 116, 101, 32, 52, 59, 32, 112, 114, 111, 103, 32, 123, 32, 101, 120, 105, 116, 59, 32, 125] = (sw1, 0, 0) := by
  have e1 : oneR 99 [111, 114, 101, 115, 32, 49, 59, 32, 103, 114, 97, 105, 110, 32, 50, 59, 32, 103, 114, 111, 117, 112, 32, 52, 59, 32, 108, 111, 99, 107, 32, 115, 108, 105, 99, 101, 32, 51, 32, 99, 114, 105, 116, 32, 53, 59, 32, 115, 104, 97, 114, 101, 100, 32, 115, 108, 105, 99, 101, 32, 49, 32, 99, 114, 105, 116, 32, 50, 32, 114, 101, 97, 100, 32, 51, 32, 119, 114, 105, 116, 101, 32, 52, 59, 32, 112, 114, 111, 103, 32, 123, 32, 101, 120, 105, 116, 59, 32, 125] 0 = ((1, [99, 111, 114, 101, 115], 0, 0), 4, true) := by decide +kernel
  have e2 : oneR 49 [59, 32, 103, 114, 97, 105, 110, 32, 50, 59, 32, 103, 114, 111, 117, 112, 32, 52, 59, 32, 108, 111, 99, 107, 32, 115, 108, 105, 99, 101, 32, 51, 32, 99, 114, 105, 116, 32, 53, 59, 32, 115, 104, 97, 114, 101, 100, 32, 115, 108, 105, 99, 101, 32, 49, 32, 99, 114, 105, 116, 32, 50, 32, 114, 101, 97, 100, 32, 51, 32, 119, 114, 105, 116, 101, 32, 52, 59, 32, 112, 114, 111, 103, 32, 123, 32, 101, 120, 105, 116, 59, 32, 125] 6 = ((2, [], 1, 6), 0, true) := by decide +kernel
  have e3 : oneR 59 [32, 103, 114, 97, 105, 110, 32, 50, 59, 32, 103, 114, 111, 117, 112, 32, 52, 59, 32, 108, 111, 99, 107, 32, 115, 108, 105, 99, 101, 32, 51, 32, 99, 114, 105, 116, 32, 53, 59, 32, 115, 104, 97, 114, 101, 100, 32, 115, 108, 105, 99, 101, 32, 49, 32, 99, 114, 105, 116, 32, 50, 32, 114, 101, 97, 100, 32, 51, 32, 119, 114, 105, 116, 101, 32, 52, 59, 32, 112, 114, 111, 103, 32, 123, 32, 101, 120, 105, 116, 59, 32, 125] 7 = ((3, [59], 0, 7), 0, true) := by decide +kernel
  have e4 : oneR 103 [114, 97, 105, 110, 32, 50, 59, 32, 103, 114, 111, 117, 112, 32, 52, 59, 32, 108, 111, 99, 107, 32, 115, 108, 105, 99, 101, 32, 51, 32, 99, 114, 105, 116, 32, 53, 59, 32, 115, 104, 97, 114, 101, 100, 32, 115, 108, 105, 99, 101, 32, 49, 32, 99, 114, 105, 116, 32, 50, 32, 114, 101, 97, 100, 32, 51, 32, 119, 114, 105, 116, 101, 32, 52, 59, 32, 112, 114, 111, 103, 32, 123, 32, 101, 120, 105, 116, 59, 32, 125] 9 = ((1, [103, 114, 97, 105, 110], 0, 9), 4, true) := by decide +kernel
  have e5 : oneR 50 [59, 32, 103, 114, 111, 117, 112, 32, 52, 59, 32, 108, 111, 99, 107, 32, 115, 108, 105, 99, 101, 32, 51, 32, 99, 114, 105, 116, 32, 53, 59, 32, 115, 104, 97, 114, 101, 100, 32, 115, 108, 105, 99, 101, 32, 49, 32, 99, 114, 105, 116, 32, 50, 32, 114, 101, 97, 100, 32, 51, 32, 119, 114, 105, 116, 101, 32, 52, 59, 32, 112, 114, 111, 103, 32, 123, 32, 101, 120, 105, 116, 59, 32, 125] 15 = ((2, [], 2, 15), 0, true) := by decide +kernel
  have e6 : oneR 59 [32, 103, 114, 111, 117, 112, 32, 52, 59, 32, 108, 111, 99, 107, 32, 115, 108, 105, 99, 101, 32, 51, 32, 99, 114, 105, 116, 32, 53, 59, 32, 115, 104, 97, 114, 101, 100, 32, 115, 108, 105, 99, 101, 32, 49, 32, 99, 114, 105, 116, 32, 50, 32, 114, 101, 97, 100, 32, 51, 32, 119, 114, 105, 116, 101, 32, 52, 59, 32, 112, 114, 111, 103, 32, 123, 32, 101, 120, 105, 116, 59, 32, 125] 16 = ((3, [59], 0, 16), 0, true) := by decide +kernel
  have e7 : oneR 103 [114, 111, 117, 112, 32, 52, 59, 32, 108, 111, 99, 107, 32, 115, 108, 105, 99, 101, 32, 51, 32, 99, 114, 105, 116, 32, 53, 59, 32, 115, 104, 97, 114, 101, 100, 32, 115, 108, 105, 99, 101, 32, 49, 32, 99, 114, 105, 116, 32, 50, 32, 114, 101, 97, 100, 32, 51, 32, 119, 114, 105, 116, 101, 32, 52, 59, 32, 112, 114, 111, 103, 32, 123, 32, 101, 120, 105, 116, 59, 32, 125] 18 = ((1, [103, 114, 111, 117, 112], 0, 18), 4, true) := by decide +kernel
  have e8 : oneR 52 [59, 32, 108, 111, 99, 107, 32, 115, 108, 105, 99, 101, 32, 51, 32, 99, 114, 105, 116, 32, 53, 59, 32, 115, 104, 97, 114, 101, 100, 32, 115, 108, 105, 99, 101, 32, 49, 32, 99, 114, 105, 116, 32, 50, 32, 114, 101, 97, 100, 32, 51, 32, 119, 114, 105, 116, 101, 32, 52, 59, 32, 112, 114, 111, 103, 32, 123, 32, 101, 120, 105, 116, 59, 32, 125] 24 = ((2, [], 4, 24), 0, true) := by decide +kernel
  have e9 : oneR 59 [32, 108, 111, 99, 107, 32, 115, 108, 105, 99, 101, 32, 51, 32, 99, 114, 105, 116, 32, 53, 59, 32, 115, 104, 97, 114, 101, 100, 32, 115, 108, 105, 99, 101, 32, 49, 32, 99, 114, 105, 116, 32, 50, 32, 114, 101, 97, 100, 32, 51, 32, 119, 114, 105, 116, 101, 32, 52, 59, 32, 112, 114, 111, 103, 32, 123, 32, 101, 120, 105, 116, 59, 32, 125] 25 = ((3, [59], 0, 25), 0, true) := by decide +kernel
  have e10 : oneR 108 [111, 99, 107, 32, 115, 108, 105, 99, 101, 32, 51, 32, 99, 114, 105, 116, 32, 53, 59, 32, 115, 104, 97, 114, 101, 100, 32, 115, 108, 105, 99, 101, 32, 49, 32, 99, 114, 105, 116, 32, 50, 32, 114, 101, 97, 100, 32, 51, 32, 119, 114, 105, 116, 101, 32, 52, 59, 32, 112, 114, 111, 103, 32, 123, 32, 101, 120, 105, 116, 59, 32, 125] 27 = ((1, [108, 111, 99, 107], 0, 27), 3, true) := by decide +kernel
  have e11 : oneR 115 [108, 105, 99, 101, 32, 51, 32, 99, 114, 105, 116, 32, 53, 59, 32, 115, 104, 97, 114, 101, 100, 32, 115, 108, 105, 99, 101, 32, 49, 32, 99, 114, 105, 116, 32, 50, 32, 114, 101, 97, 100, 32, 51, 32, 119, 114, 105, 116, 101, 32, 52, 59, 32, 112, 114, 111, 103, 32, 123, 32, 101, 120, 105, 116, 59, 32, 125] 32 = ((1, [115, 108, 105, 99, 101], 0, 32), 4, true) := by decide +kernel
  have e12 : oneR 51 [32, 99, 114, 105, 116, 32, 53, 59, 32, 115, 104, 97, 114, 101, 100, 32, 115, 108, 105, 99, 101, 32, 49, 32, 99, 114, 105, 116, 32, 50, 32, 114, 101, 97, 100, 32, 51, 32, 119, 114, 105, 116, 101, 32, 52, 59, 32, 112, 114, 111, 103, 32, 123, 32, 101, 120, 105, 116, 59, 32, 125] 38 = ((2, [], 3, 38), 0, true) := by decide +kernel
  have e13 : oneR 99 [114, 105, 116, 32, 53, 59, 32, 115, 104, 97, 114, 101, 100, 32, 115, 108, 105, 99, 101, 32, 49, 32, 99, 114, 105, 116, 32, 50, 32, 114, 101, 97, 100, 32, 51, 32, 119, 114, 105, 116, 101, 32, 52, 59, 32, 112, 114, 111, 103, 32, 123, 32, 101, 120, 105, 116, 59, 32, 125] 40 = ((1, [99, 114, 105, 116], 0, 40), 3, true) := by decide +kernel
  have e14 : oneR 53 [59, 32, 115, 104, 97, 114, 101, 100, 32, 115, 108, 105, 99, 101, 32, 49, 32, 99, 114, 105, 116, 32, 50, 32, 114, 101, 97, 100, 32, 51, 32, 119, 114, 105, 116, 101, 32, 52, 59, 32, 112, 114, 111, 103, 32, 123, 32, 101, 120, 105, 116, 59, 32, 125] 45 = ((2, [], 5, 45), 0, true) := by decide +kernel
  have e15 : oneR 59 [32, 115, 104, 97, 114, 101, 100, 32, 115, 108, 105, 99, 101, 32, 49, 32, 99, 114, 105, 116, 32, 50, 32, 114, 101, 97, 100, 32, 51, 32, 119, 114, 105, 116, 101, 32, 52, 59, 32, 112, 114, 111, 103, 32, 123, 32, 101, 120, 105, 116, 59, 32, 125] 46 = ((3, [59], 0, 46), 0, true) := by decide +kernel
  have e16 : oneR 115 [104, 97, 114, 101, 100, 32, 115, 108, 105, 99, 101, 32, 49, 32, 99, 114, 105, 116, 32, 50, 32, 114, 101, 97, 100, 32, 51, 32, 119, 114, 105, 116, 101, 32, 52, 59, 32, 112, 114, 111, 103, 32, 123, 32, 101, 120, 105, 116, 59, 32, 125] 48 = ((1, [115, 104, 97, 114, 101, 100], 0, 48), 5, true) := by decide +kernel
  have e17 : oneR 115 [108, 105, 99, 101, 32, 49, 32, 99, 114, 105, 116, 32, 50, 32, 114, 101, 97, 100, 32, 51, 32, 119, 114, 105, 116, 101, 32, 52, 59, 32, 112, 114, 111, 103, 32, 123, 32, 101, 120, 105, 116, 59, 32, 125] 55 = ((1, [115, 108, 105, 99, 101], 0, 55), 4, true) := by decide +kernel
  have e18 : oneR 49 [32, 99, 114, 105, 116, 32, 50, 32, 114, 101, 97, 100, 32, 51, 32, 119, 114, 105, 116, 101, 32, 52, 59, 32, 112, 114, 111, 103, 32, 123, 32, 101, 120, 105, 116, 59, 32, 125] 61 = ((2, [], 1, 61), 0, true) := by decide +kernel
  have e19 : oneR 99 [114, 105, 116, 32, 50, 32, 114, 101, 97, 100, 32, 51, 32, 119, 114, 105, 116, 101, 32, 52, 59, 32, 112, 114, 111, 103, 32, 123, 32, 101, 120, 105, 116, 59, 32, 125] 63 = ((1, [99, 114, 105, 116], 0, 63), 3, true) := by decide +kernel
  have e20 : oneR 50 [32, 114, 101, 97, 100, 32, 51, 32, 119, 114, 105, 116, 101, 32, 52, 59, 32, 112, 114, 111, 103, 32, 123, 32, 101, 120, 105, 116, 59, 32, 125] 68 = ((2, [], 2, 68), 0, true) := by decide +kernel
  have e21 : oneR 114 [101, 97, 100, 32, 51, 32, 119, 114, 105, 116, 101, 32, 52, 59, 32, 112, 114, 111, 103, 32, 123, 32, 101, 120, 105, 116, 59, 32, 125] 70 = ((1, [114, 101, 97, 100], 0, 70), 3, true) := by decide +kernel
  have e22 : oneR 51 [32, 119, 114, 105, 116, 101, 32, 52, 59, 32, 112, 114, 111, 103, 32, 123, 32, 101, 120, 105, 116, 59, 32, 125] 75 = ((2, [], 3, 75), 0, true) := by decide +kernel
  have e23 : oneR 119 [114, 105, 116, 101, 32, 52, 59, 32, 112, 114, 111, 103, 32, 123, 32, 101, 120, 105, 116, 59, 32, 125] 77 = ((1, [119, 114, 105, 116, 101], 0, 77), 4, true) := by decide +kernel
  have e24 : oneR 52 [59, 32, 112, 114, 111, 103, 32, 123, 32, 101, 120, 105, 116, 59, 32, 125] 83 = ((2, [], 4, 83), 0, true) := by decide +kernel
  have e25 : oneR 59 [32, 112, 114, 111, 103, 32, 123, 32, 101, 120, 105, 116, 59, 32, 125] 84 = ((3, [59], 0, 84), 0, true) := by decide +kernel
  have e26 : oneR 112 [114, 111, 103, 32, 123, 32, 101, 120, 105, 116, 59, 32, 125] 86 = ((1, [112, 114, 111, 103], 0, 86), 3, true) := by decide +kernel
  have e27 : oneR 123 [32, 101, 120, 105, 116, 59, 32, 125] 91 = ((3, [123], 0, 91), 0, true) := by decide +kernel
  have e28 : oneR 101 [120, 105, 116, 59, 32, 125] 93 = ((1, [101, 120, 105, 116], 0, 93), 3, true) := by decide +kernel
  have e29 : oneR 59 [32, 125] 97 = ((3, [59], 0, 97), 0, true) := by decide +kernel
  have e30 : oneR 125 [] 99 = ((3, [125], 0, 99), 0, true) := by decide +kernel
  have h : scanR [99, 111, 114, 101, 115, 32, 49, 59, 32, 103, 114, 97, 105, 110, 32, 50, 59, 32, 103, 114, 111, 117, 112, 32, 52, 59, 32, 108, 111, 99, 107, 32, 115, 108, 105, 99, 101, 32, 51, 32, 99, 114, 105, 116, 32, 53, 59, 32, 115, 104, 97, 114, 101, 100, 32, 115, 108, 105, 99, 101, 32, 49, 32, 99, 114, 105, 116, 32, 50, 32, 114, 101, 97, 100, 32, 51, 32, 119, 114, 105, 116, 101, 32, 52, 59, 32, 112, 114, 111, 103, 32, 123, 32, 101, 120, 105, 116, 59, 32, 125] 0 false = .ok sw1 := by
    rw [scan_word (by decide) (by decide) _ _ _ (by rw [e1]; decide), e1]
    simp only [List.drop_succ_cons, List.drop_zero]
    rw [scan_blank (by decide)]
    rw [scan_word (by decide) (by decide) _ _ _ (by rw [e2]; decide), e2]
    simp only [List.drop_zero]
    rw [scan_word (by decide) (by decide) _ _ _ (by rw [e3]; decide), e3]
    simp only [List.drop_zero]
    rw [scan_blank (by decide)]
    rw [scan_word (by decide) (by decide) _ _ _ (by rw [e4]; decide), e4]
    simp only [List.drop_succ_cons, List.drop_zero]
    rw [scan_blank (by decide)]
    rw [scan_word (by decide) (by decide) _ _ _ (by rw [e5]; decide), e5]
    simp only [List.drop_zero]
    rw [scan_word (by decide) (by decide) _ _ _ (by rw [e6]; decide), e6]
    simp only [List.drop_zero]
    rw [scan_blank (by decide)]
    rw [scan_word (by decide) (by decide) _ _ _ (by rw [e7]; decide), e7]
    simp only [List.drop_succ_cons, List.drop_zero]
    rw [scan_blank (by decide)]
    rw [scan_word (by decide) (by decide) _ _ _ (by rw [e8]; decide), e8]
    simp only [List.drop_zero]
    rw [scan_word (by decide) (by decide) _ _ _ (by rw [e9]; decide), e9]
    simp only [List.drop_zero]
    rw [scan_blank (by decide)]
    rw [scan_word (by decide) (by decide) _ _ _ (by rw [e10]; decide), e10]
    simp only [List.drop_succ_cons, List.drop_zero]
    rw [scan_blank (by decide)]
    rw [scan_word (by decide) (by decide) _ _ _ (by rw [e11]; decide), e11]
    simp only [List.drop_succ_cons, List.drop_zero]
    rw [scan_blank (by decide)]
    rw [scan_word (by decide) (by decide) _ _ _ (by rw [e12]; decide), e12]
    simp only [List.drop_zero]
    rw [scan_blank (by decide)]
    rw [scan_word (by decide) (by decide) _ _ _ (by rw [e13]; decide), e13]
    simp only [List.drop_succ_cons, List.drop_zero]
    rw [scan_blank (by decide)]
    rw [scan_word (by decide) (by decide) _ _ _ (by rw [e14]; decide), e14]
    simp only [List.drop_zero]
    rw [scan_word (by decide) (by decide) _ _ _ (by rw [e15]; decide), e15]
    simp only [List.drop_zero]
    rw [scan_blank (by decide)]
    rw [scan_word (by decide) (by decide) _ _ _ (by rw [e16]; decide), e16]
    simp only [List.drop_succ_cons, List.drop_zero]
    rw [scan_blank (by decide)]
    rw [scan_word (by decide) (by decide) _ _ _ (by rw [e17]; decide), e17]
    simp only [List.drop_succ_cons, List.drop_zero]
    rw [scan_blank (by decide)]
    rw [scan_word (by decide) (by decide) _ _ _ (by rw [e18]; decide), e18]
    simp only [List.drop_zero]
    rw [scan_blank (by decide)]
    rw [scan_word (by decide) (by decide) _ _ _ (by rw [e19]; decide), e19]
    simp only [List.drop_succ_cons, List.drop_zero]
    rw [scan_blank (by decide)]
    rw [scan_word (by decide) (by decide) _ _ _ (by rw [e20]; decide), e20]
    simp only [List.drop_zero]
    rw [scan_blank (by decide)]
    rw [scan_word (by decide) (by decide) _ _ _ (by rw [e21]; decide), e21]
    simp only [List.drop_succ_cons, List.drop_zero]
    rw [scan_blank (by decide)]
    rw [scan_word (by decide) (by decide) _ _ _ (by rw [e22]; decide), e22]
    simp only [List.drop_zero]
    rw [scan_blank (by decide)]
    rw [scan_word (by decide) (by decide) _ _ _ (by rw [e23]; decide), e23]
    simp only [List.drop_succ_cons, List.drop_zero]
    rw [scan_blank (by decide)]
    rw [scan_word (by decide) (by decide) _ _ _ (by rw [e24]; decide), e24]
    simp only [List.drop_zero]
    rw [scan_word (by decide) (by decide) _ _ _ (by rw [e25]; decide), e25]
    simp only [List.drop_zero]
    rw [scan_blank (by decide)]
    rw [scan_word (by decide) (by decide) _ _ _ (by rw [e26]; decide), e26]
    simp only [List.drop_succ_cons, List.drop_zero]
    rw [scan_blank (by decide)]
    rw [scan_word (by decide) (by decide) _ _ _ (by rw [e27]; decide), e27]
    simp only [List.drop_zero]
    rw [scan_blank (by decide)]
    rw [scan_word (by decide) (by decide) _ _ _ (by rw [e28]; decide), e28]
    simp only [List.drop_succ_cons, List.drop_zero]
    rw [scan_word (by decide) (by decide) _ _ _ (by rw [e29]; decide), e29]
    simp only [List.drop_zero]
    rw [scan_blank (by decide)]
    rw [scan_word (by decide) (by decide) _ _ _ (by rw [e30]; decide), e30]
    simp only [List.drop_zero]
    rw [scan_nil]
    rfl
  unfold scanA
  rw [if_neg (by decide), h]
theorem ss_parse : parseS sw1 0 = (ss1, 30, 0) := by decide +kernel
theorem ss_parse1 : parseS sw1 1 = (noneS, 1, 5) := by decide +kernel
theorem ss_may : mayS ss1 = true := by decide +kernel
theorem ss_words : wordsS ss1 = [(1, [99, 111, 114, 101, 115], 0, 0), (2, [], 1, 0), (3, [59], 0, 0), (1, [103, 114, 97, 105, 110], 0, 0), (2, [], 2, 0), (3, [59], 0, 0), (1, [103, 114, 111, 117, 112], 0, 0), (2, [], 4, 0), (3, [59], 0, 0), (1, [108, 111, 99, 107], 0, 0), (1, [115, 108, 105, 99, 101], 0, 0), (2, [], 3, 0), (1, [99, 114, 105, 116], 0, 0), (2, [], 5, 0), (3, [59], 0, 0), (1, [115, 104, 97, 114, 101, 100], 0, 0), (1, [115, 108, 105, 99, 101], 0, 0), (2, [], 1, 0), (1, [99, 114, 105, 116], 0, 0), (2, [], 2, 0), (1, [114, 101, 97, 100], 0, 0), (2, [], 3, 0), (1, [119, 114, 105, 116, 101], 0, 0), (2, [], 4, 0), (3, [59], 0, 0), (1, [112, 114, 111, 103], 0, 0), (3, [123], 0, 0), (1, [101, 120, 105, 116], 0, 0), (3, [59], 0, 0), (3, [125], 0, 0)] := by decide +kernel
theorem ss_join : joinA (wordsS ss1) = (st1, 0) := by
  have t0 : textR (1, [99, 111, 114, 101, 115], 0, 0) = some [99, 111, 114, 101, 115] := by decide +kernel
  have t1 : textR (2, [], 1, 0) = some [49] := by
    unfold textR
    rw [if_pos rfl, if_pos (by decide), show (1 : Int).toNat = 1 from rfl, digits_small (by decide)]
    rfl
  have t2 : textR (3, [59], 0, 0) = some [59] := by decide +kernel
  have t3 : textR (1, [103, 114, 97, 105, 110], 0, 0) = some [103, 114, 97, 105, 110] := by decide +kernel
  have t4 : textR (2, [], 2, 0) = some [50] := by
    unfold textR
    rw [if_pos rfl, if_pos (by decide), show (2 : Int).toNat = 2 from rfl, digits_small (by decide)]
    rfl
  have t6 : textR (1, [103, 114, 111, 117, 112], 0, 0) = some [103, 114, 111, 117, 112] := by decide +kernel
  have t7 : textR (2, [], 4, 0) = some [52] := by
    unfold textR
    rw [if_pos rfl, if_pos (by decide), show (4 : Int).toNat = 4 from rfl, digits_small (by decide)]
    rfl
  have t9 : textR (1, [108, 111, 99, 107], 0, 0) = some [108, 111, 99, 107] := by decide +kernel
  have t10 : textR (1, [115, 108, 105, 99, 101], 0, 0) = some [115, 108, 105, 99, 101] := by decide +kernel
  have t11 : textR (2, [], 3, 0) = some [51] := by
    unfold textR
    rw [if_pos rfl, if_pos (by decide), show (3 : Int).toNat = 3 from rfl, digits_small (by decide)]
    rfl
  have t12 : textR (1, [99, 114, 105, 116], 0, 0) = some [99, 114, 105, 116] := by decide +kernel
  have t13 : textR (2, [], 5, 0) = some [53] := by
    unfold textR
    rw [if_pos rfl, if_pos (by decide), show (5 : Int).toNat = 5 from rfl, digits_small (by decide)]
    rfl
  have t15 : textR (1, [115, 104, 97, 114, 101, 100], 0, 0) = some [115, 104, 97, 114, 101, 100] := by decide +kernel
  have t20 : textR (1, [114, 101, 97, 100], 0, 0) = some [114, 101, 97, 100] := by decide +kernel
  have t22 : textR (1, [119, 114, 105, 116, 101], 0, 0) = some [119, 114, 105, 116, 101] := by decide +kernel
  have t25 : textR (1, [112, 114, 111, 103], 0, 0) = some [112, 114, 111, 103] := by decide +kernel
  have t26 : textR (3, [123], 0, 0) = some [123] := by decide +kernel
  have t27 : textR (1, [101, 120, 105, 116], 0, 0) = some [101, 120, 105, 116] := by decide +kernel
  have t29 : textR (3, [125], 0, 0) = some [125] := by decide +kernel
  have h : joinF (wordsS ss1) [] = some st1 := by
    rw [ss_words]
    simp only [joinF, t0, t1, t2, t3, t4, t6, t7, t9, t10, t11, t12, t13, t15, t20, t22, t25, t26, t27, t29]
    decide +kernel
  unfold joinA
  rw [h]
  decide
theorem sw_clean : ∀ x ∈ sw1, (x.1 ≠ 2 → x.2.2.1 = 0) ∧ (x.1 = 2 → x.2.1 = []) := by decide +kernel
end Go.Proofs.YtmcfjlkjijaflaaGreatDoor

/- The word that a text begins with, as the program finds it, is the document's. No program. -/
namespace Go.Proofs.YtmcfjlkjijaflaaGreatDoor

def nameB (l : List By) : Bool := decide (1 ≤ l.length) && decide (l.length ≤ 12) && decide ((l.takeWhile isLet).length = l.length)
def markB (l : List By) : Bool := l == [123] || (l == [125] || (l == [59] || (l == [46] || l == [61])))

theorem take_takeWhile {q : By → Bool} (l : List By) : l.take (l.takeWhile q).length = l.takeWhile q := by
  have e : l.takeWhile q ++ l.dropWhile q = l := List.takeWhile_append_dropWhile
  have h := List.take_left (l₁ := l.takeWhile q) (l₂ := l.dropWhile q)
  rw [e] at h
  exact h
theorem mark_one (c : By) : markB [c] = isMk c := by
  unfold markB isMk
  have e : ∀ k : By, ([c] == [k]) = decide (c.toNat = k.toNat) := fun k => by
    rw [Bool.eq_iff_iff]
    simp [UInt8.toNat_inj]
  rw [e, e, e, e, e]
  rfl
theorem let_mark {c : By} (h : isLet c = true) : isMk c = false := by
  simp [isLet] at h
  simp [isMk]
  omega
theorem dig_mark {c : By} (h : isDig c = true) : isMk c = false := by
  simp [isDig] at h
  simp [isMk]
  omega
theorem name_nil : nameB [] = false := rfl
/-- What digits come to is what the library reads. -/
theorem dec_digits : ∀ (l : List By) (a : Nat), (∀ c ∈ l, isDig c = true) → Lib.decFrom a l = some (l.foldl (fun n c => n * 10 + (c.toNat - 48)) a)
  | [], a, _ => rfl
  | c :: t, a, h => by
    have hc := h c (by simp)
    simp [isDig] at hc
    have hv : Lib.digitVal c = some (c.toNat - 48) := by unfold Lib.digitVal; rw [if_pos hc]
    simp only [Lib.decFrom, hv, List.foldl_cons]
    exact dec_digits t _ (fun x hx => h x (by simp [hx]))
theorem num_bound : ∀ (l : List By), (∀ c ∈ l, isDig c = true) → numR l < 10 ^ l.length := by
  intro l h
  have := Lib.decFrom_lt l 0 _ (dec_digits l 0 h)
  simpa [numR] using this
end Go.Proofs.YtmcfjlkjijaflaaGreatDoor

/- What lies between words, and what may stand beside a word; plainly. No program. -/
namespace Go.Proofs.YtmcfjlkjijaflaaGreatDoor

theorem drop_take_len {q : By → Bool} (t : List By) : t.drop (t.takeWhile q).length = t.dropWhile q := by
  induction t with
  | nil => rfl
  | cons c t ih =>
    simp only [List.takeWhile_cons, List.dropWhile_cons]
    split
    · simpa using ih
    · rfl
/-- May the next word, side by side with the last one, be a mark alone? -/
def lastB (ws : List Wd) : Bool := match ws.getLast? with
  | none => false
  | some x => !decide (x.1 = 3)
theorem lastB_snoc (ws : List Wd) (x : Wd) : lastB (ws ++ [x]) = !decide (x.1 = 3) := by simp [lastB]
theorem lastB_nil : lastB [] = false := rfl
theorem scan_len (l : List By) (h : l.length ≤ 8000) : (scanA l).1.length ≤ 8000 := by
  have key : ∀ (n : Nat) (m : List By) (p : Nat) (adj : Bool) (ws : List Wd), m.length ≤ n → scanR m p adj = .ok ws → ws.length ≤ m.length := by
    intro n
    induction n with
    | zero =>
      intro m p adj ws hm hs
      have : m = [] := List.eq_nil_of_length_eq_zero (by omega)
      subst this
      rw [scan_nil] at hs
      cases hs
      simp
    | succ n ih =>
      intro m p adj ws hm hs
      cases m with
      | nil =>
        rw [scan_nil] at hs
        cases hs
        simp
      | cons c t =>
        simp only [List.length_cons] at hm ⊢
        cases h0 : isBl c with
        | true =>
          rw [scan_blank h0] at hs
          have := ih t _ _ ws (by omega) hs
          omega
        | false =>
          by_cases h35 : c.toNat = 35
          · rw [scan_remark h0 h35] at hs
            have hd := (List.dropWhile_sublist (l := t) not10).length_le
            have := ih _ _ _ ws (by omega) hs
            omega
          · cases hb : (!(oneR c t p).2.2 || (adj && !decide ((oneR c t p).1.1 = 3))) with
            | true =>
              rw [scan_bad h0 h35 t p adj hb] at hs
              cases hs
            | false =>
              rw [scan_word h0 h35 t p adj hb] at hs
              cases hr : scanR (t.drop (oneR c t p).2.1) (p + 1 + (oneR c t p).2.1) (!decide ((oneR c t p).1.1 = 3)) with
              | error q =>
                rw [hr] at hs
                cases hs
              | ok ws' =>
                rw [hr] at hs
                have e : ws = (oneR c t p).1 :: ws' := by
                  simp only [prepR, Except.ok.injEq, List.cons_append, List.nil_append] at hs
                  exact hs.symm
                have := ih _ _ _ ws' (by rw [List.length_drop]; omega) hr
                rw [List.length_drop] at this
                rw [e, List.length_cons]
                omega
  unfold scanA
  rw [if_neg (by omega)]
  cases hs : scanR l 0 false with
  | ok ws =>
    have := key _ l 0 false ws (Nat.le_refl _) hs
    simp only
    omega
  | error p => simp
end Go.Proofs.YtmcfjlkjijaflaaGreatDoor

/- The document's Scan, plainly: what holds at each place. No program of its own. -/
namespace Go.Proofs.YtmcfjlkjijaflaaGreatDoor

structure RefSt (L : List By) (k : Nat) (q : Int) (ws : List Wd) : Prop where
  le : k ≤ L.length
  qk : q ≤ k
  has : 0 ≤ q → ws ≠ []
  len : ws.length ≤ k
  eq : scanR L 0 false = prepR ws (scanR (L.drop k) k (decide (q = (k : Int)) && lastB ws))
theorem RefSt.start (L : List By) : RefSt L 0 (-1) [] := ⟨Nat.zero_le _, by omega, fun h => by omega, Nat.le_refl _, by rw [prepR_nil, List.drop_zero, lastB_nil, Bool.and_false]⟩
theorem drop_more {L : List By} {k : Nat} {c : By} {t : List By} (e : L.drop k = c :: t) (m : Nat) : L.drop (k + 1 + m) = t.drop m := by
  rw [Nat.add_assoc, ← List.drop_drop, e, Nat.add_comm 1 m, List.drop_succ_cons]
theorem drop_lt {L : List By} {k : Nat} {c : By} {t : List By} (e : L.drop k = c :: t) : k + 1 + t.length = L.length := by
  have := congrArg List.length e
  rw [List.length_drop, List.length_cons] at this
  omega
theorem RefSt.blank {L : List By} {k : Nat} {q : Int} {ws : List Wd} (h : RefSt L k q ws) {c : By} {t : List By} (e : L.drop k = c :: t) (hb : isBl c = true) : RefSt L (k + 1) q ws := by
  have hl := drop_lt e
  refine ⟨by omega, by have := h.qk; omega, h.has, by have := h.len; omega, ?_⟩
  rw [h.eq, e, scan_blank hb, show L.drop (k + 1) = t by have := drop_more e 0; simpa using this]
  have : decide (q = ((k + 1 : Nat) : Int)) = false := by
    have := h.qk
    simp
    omega
  rw [this, Bool.false_and]
theorem RefSt.remark {L : List By} {k : Nat} {q : Int} {ws : List Wd} (h : RefSt L k q ws) {c : By} {t : List By} (e : L.drop k = c :: t) (hb : isBl c = false) (h35 : c.toNat = 35) {T : Nat} (hT : T = k + 1 + (t.takeWhile not10).length) : RefSt L T q ws := by
  subst hT
  have hl := drop_lt e
  have hle := (List.takeWhile_sublist (l := t) not10).length_le
  refine ⟨by omega, by have := h.qk; omega, h.has, by have := h.len; omega, ?_⟩
  rw [h.eq, e, scan_remark hb h35, drop_more e, drop_take_len]
  have : decide (q = ((k + 1 + (t.takeWhile not10).length : Nat) : Int)) = false := by
    have := h.qk
    simp
    omega
  rw [this, Bool.false_and]
theorem RefSt.bad {L : List By} {k : Nat} {q : Int} {ws : List Wd} (h : RefSt L k q ws) {c : By} {t : List By} (e : L.drop k = c :: t) (hb : isBl c = false) (h35 : ¬ c.toNat = 35) {x : Wd} {m : Nat} {ok : Bool} (ho : oneR c t k = (x, m, ok)) (hc : (!ok || (decide (q = (k : Int)) && (!decide (x.1 = 3) && lastB ws))) = true) : scanR L 0 false = .error k := by
  rw [h.eq, e, scan_bad hb h35 t k _ (by
    rw [ho]
    simp only
    rw [← hc]
    cases ok <;> cases decide (q = (k : Int)) <;> cases decide (x.1 = 3) <;> cases lastB ws <;> rfl)]
  rfl
theorem RefSt.next {L : List By} {k : Nat} {q : Int} {ws : List Wd} (h : RefSt L k q ws) {c : By} {t : List By} (e : L.drop k = c :: t) (hb : isBl c = false) (h35 : ¬ c.toNat = 35) {x : Wd} {m : Nat} (ho : oneR c t k = (x, m, true)) (hc : (decide (q = (k : Int)) && (!decide (x.1 = 3) && lastB ws)) = false) :
    k + 1 + m ≤ L.length ∧ RefSt L (k + 1 + m) ((k + 1 + m : Nat) : Int) (ws ++ [x]) := by
  have hl := drop_lt e
  have hm := one_le c t k
  rw [ho] at hm
  simp only at hm
  refine ⟨by omega, by omega, by omega, fun _ => by simp, by have := h.len; simp; omega, ?_⟩
  rw [h.eq, e, scan_word hb h35 t k _ (by
    rw [ho]
    simp only
    rw [← hc]
    cases decide (q = (k : Int)) <;> cases decide (x.1 = 3) <;> cases lastB ws <;> rfl), ho, prepR_prepR, lastB_snoc, drop_more e]
  simp
theorem RefSt.done {L : List By} {k : Nat} {q : Int} {ws : List Wd} (h : RefSt L k q ws) (hk : ¬ k < L.length) : scanR L 0 false = .ok ws := by
  rw [h.eq, List.drop_eq_nil_of_le (by omega), scan_nil]
  simp [prepR]
end Go.Proofs.YtmcfjlkjijaflaaGreatDoor

/- Texts in memory; what a call leaves as it was. -/
namespace Go.Proofs.YtmcfjlkjijaflaaGreatDoor
open Go.RowKit

theorem geb (c : By) (k : Nat) : decide ((k : Int) ≤ (c.toNat : Int)) = decide (k ≤ c.toNat) := by rw [Bool.eq_iff_iff]; simp
theorem leb (c : By) (k : Nat) : decide ((c.toNat : Int) ≤ (k : Int)) = decide (c.toNat ≤ k) := by rw [Bool.eq_iff_iff]; simp
theorem eqb (c : By) (k : Nat) : (((c.toNat : Nat) : Int) == (k : Int)) = decide (c.toNat = k) := by rw [Bool.eq_iff_iff]; simp; omega
theorem neb (c : By) (k : Nat) : (((c.toNat : Nat) : Int) != (k : Int)) = !decide (c.toNat = k) := by rw [bne, eqb]
theorem ne3 (k : Int) : (k != 3) = !decide (k = 3) := by rw [Bool.eq_iff_iff]; simp
theorem byte_drop (s : ByteArray) (k : Nat) (h : k < s.size) : s.data.toList.drop k = s[k] :: s.data.toList.drop (k + 1) := by
  rw [List.drop_eq_getElem_cons (by rw [← Lib.size_eq]; exact h)]
  rfl
theorem drop_end (s : ByteArray) (k : Nat) (h : s.size ≤ k) : s.data.toList.drop k = [] := List.drop_eq_nil_of_le (by rw [← Lib.size_eq]; exact h)
theorem bcell {W w1 : World} (hb : Below W.heap.size W w1) : (∀ b o, b < W.heap.size → w1.cell? ⟨b, o, none⟩ = W.cell? ⟨b, o, none⟩) ∧ (∀ b o, b < W.heap.size → w1.frozen? ⟨b, o, none⟩ = W.frozen? ⟨b, o, none⟩) :=
  ⟨fun b o h => hb.cell (p := ⟨b, o, none⟩) h, fun b o h => hb.frozen (p := ⟨b, o, none⟩) h⟩
theorem row_below {w W : World} {base : Nat} {e : TypeId} {size : Nat} {v : Value} {n : Nat} {xs : List Value} (h : w.ownsRow base e size v n xs) (hb : Below w.heap.size w W) : W.ownsRow base e size v n xs :=
  ownsRow_same h fun k _ hk => hb.block k hk
theorem app_below {n₀ : Nat} {wr w1 w2 : World} {base : Nat} {e : TypeId} {size : Nat} {v : Value} {k : Nat} {xs : List Value} {w : World} (hb : Below n₀ w w1) (hn : n₀ ≤ w.heap.size) (hbase : n₀ ≤ base) (hown : wr.ownsRow base e size v k xs) (hg : w1.grownBy w2 v.ownBlock) : Below n₀ w w2 :=
  hb.grown hg (Nat.le_trans hn hb.size) (fun j hj => by
    have := (hown.lt j hj).1
    omega)
theorem below_drewN {B : Nat} {a b : World} (h : Below B a b) (n : Nat) : Below B a (b.drewN n) := ⟨h.os, h.tape, h.output, h.size, h.block⟩
theorem grow_below (w : World) (k : Nat) (os : Array Obj) : Below w.heap.size w (Go.Sort.grow (w.drewN k) os) := by
  refine ⟨rfl, rfl, rfl, ?_, fun j hj => ?_⟩
  · show w.heap.size ≤ (w.heap ++ os).size
    rw [Array.size_append]; omega
  · show (w.heap ++ os)[j]? = w.heap[j]?
    rw [Array.getElem?_append_left hj]
theorem one_cell (W : World) (v : Value) (t : TypeId) : (W.alloc (Obj.cells #[v] t)).cell? ⟨W.heap.size, 0, none⟩ = some v := by simp
theorem ba_add (a b : ByteArray) : (a ++ b).data.toList = a.data.toList ++ b.data.toList ∧ (a ++ b).size = a.size + b.size := by
  constructor
  · simp [ByteArray.data_append]
  · simp
theorem str_add (x y : List By) (h : x.length + y.length ≤ 1000000) (W : World) : (Op.stringOp .add ⟨x.toArray⟩ ⟨y.toArray⟩).run Tryz.prog W = .ok (.string ⟨(x ++ y).toArray⟩) W := by
  rw [run_string_add_sum W _ _ (by simp only [ByteArray.size, List.size_toArray]; omega), ByteArray.mk_append_mk]
section
variable (s : ByteArray)
end
end Go.Proofs.YtmcfjlkjijaflaaGreatDoor

/- Small letters, for the program. -/
namespace Go.Proofs.YtmcfjlkjijaflaaGreatDoor
open Go.RowKit

theorem plet_z (z : Int) (w : World) : Calls Tryz.prog 111 #[.int .u8 z] w fun e w' => e = .returned (.bool (decide (97 ≤ z) && decide (z ≤ 122))) ∧ w' = w := by
  cases h0 : (decide (97 ≤ z))
  all_goals
    go_enter Tryz.func111, Tryz.ntmps111
    go_wp2
    go_ret
    exact ⟨rfl, rfl⟩
theorem plet_any (c : By) (w : World) : Calls Tryz.prog 111 #[.int .u8 c.toNat] w fun e w' => e = .returned (.bool (isLet c)) ∧ w' = w := by
  have h := plet_z (c.toNat : Int) w
  rw [show decide ((97 : Int) ≤ (c.toNat : Int)) = decide (97 ≤ c.toNat) from geb c 97, show decide ((c.toNat : Int) ≤ (122 : Int)) = decide (c.toNat ≤ 122) from leb c 122] at h
  exact h
end Go.Proofs.YtmcfjlkjijaflaaGreatDoor

/- What the library's Itoa answers; its table. -/
namespace Go.Proofs.YtmcfjlkjijaflaaGreatDoor
open Go.RowKit

/-- The library's table lies as its initialiser lays it. -/
def TabOk (w : World) : Prop := Lib.TabIs Tryz.prog w "internal/strconv.uint64pow10" .u64 Lib.pow10Tab
theorem TabOk.below {w w' : World} (h : TabOk w) (hb : Below w.heap.size w w') : TabOk w' := Lib.tabBelow_of_tabIs h w' hb
theorem digits_eq (n : Nat) : Lib.decDigits n = digitsR n := by
  by_cases h : n < 10
  · rw [Lib.decDigits, dif_pos h, digits_small h]
  · rw [Lib.decDigits, dif_neg h, digits_great h, digits_eq (n / 10)]
termination_by n
decreasing_by omega
theorem itoa_any (n : Nat) (hn : n ≤ 999999999) (w : World) (hT : TabOk w) :
    Calls Tryz.prog 89 #[.int .i64 n] w fun e w' => e = .returned (.string ⟨(digitsR n).toArray⟩) ∧ Below w.heap.size w w' := by
  have h := Tryz.strconv_Itoa (n : Int) (by omega) (by omega) w hT
  have e : Lib.itoa (n : Int) = digitsR n := by
    unfold Lib.itoa
    rw [if_neg (by omega), Int.toNat_natCast, digits_eq]
  rw [e] at h
  exact h.mono fun e w' ⟨he, k, os, hw⟩ => ⟨he, by rw [hw]; exact grow_below w k os⟩
end Go.Proofs.YtmcfjlkjijaflaaGreatDoor

/- Text in memory of its own. -/
namespace Go.Proofs.YtmcfjlkjijaflaaGreatDoor
open Go.RowKit

theorem conv_own (w : World) (s : ByteArray) : ∃ c, (convert 9 90 (.string s)).run Tryz.prog w = .ok (.slice (some ⟨w.heap.size, 0, none⟩) s.size c) (Lib.bytesWorld w 5 s) := by
  exact ⟨_, Lib.run_convert_string_bytes w _ _ _ s Tryz.underlying9 Tryz.underlying90 Tryz.underlying5⟩
set_option maxHeartbeats 400000 in
theorem own_any (s : ByteArray) (w : World) : Calls Tryz.prog 88 #[.string s] w fun e w' => e = .returned (.string s) ∧ Below w.heap.size w w' := by
  obtain ⟨c, h1⟩ := conv_own w s
  have hb : Below w.heap.size w (Lib.bytesWorld w 5 s) := by
    refine ⟨rfl, rfl, rfl, by rw [Lib.bytesWorld_size]; omega, fun k hk => Lib.bytesWorld_at_old w _ s k hk⟩
  have h2 := run_convert_bytes_back (P := Tryz.prog) (Lib.bytesWorld w 5 s) 90 9 5 ⟨w.heap.size, 0, none⟩ c s.data.toList Tryz.underlying90 Tryz.underlying5 Tryz.underlying9 (fun j hj => by
    rw [Addr.add_lit]
    have hj' : j < s.size := by rw [Lib.size_eq]; exact hj
    have := Lib.bytesWorld_cell w 5 s j hj'
    rw [Nat.zero_add, this]
    rw [List.getD_eq_getElem?_getD, List.getElem?_eq_getElem hj]
    rfl)
  rw [Lib.mk_data, ← Lib.size_eq] at h2
  obtain ⟨W, hW⟩ : ∃ W, Lib.bytesWorld w 5 s = W := ⟨_, rfl⟩
  rw [hW] at h1 h2 hb
  have HB := Lib.hid hb
  clear hW hb
  go_enter Tryz.func88, Tryz.ntmps88
  go_wp2
  go_ret
  exact ⟨rfl, HB.out⟩
end Go.Proofs.YtmcfjlkjijaflaaGreatDoor
