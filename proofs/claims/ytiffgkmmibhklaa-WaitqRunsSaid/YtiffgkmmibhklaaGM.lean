/-
  The table, plainly: what stands in its lines and seats, held against the list of those who wait; one taken out, one put in, a line opened. No program.
  The table with what is due; its seats turned; open, vacate.
  The table and who waits: enter, leave, leaveFirst.
  The table and who waits: leave, leaveFirst.
-/
import Derived.Test.YtiffgkmmibhklaaWlCut

/- The table, plainly: what stands in its lines and seats, held against the list of those who wait; one taken out, one put in, a line opened. No program. -/
namespace Go.Proofs.Ytiffgkmmibhklaa
open Go.RowKit

/-- Who stands in a line, in order. -/
def valsL (o : Option Ln) : List Wt := match o with | none => [] | some x => x.P.map (·.2.2)
/-- Lines and seats hold just those of L; c: how many tickets may have been given. -/
structure WlI (nB : Nat) (R : Nat → List Ln) (f : Int → Option (Nat × Int)) (c : Nat) (L : List Wt) : Prop where
  n1 : 1 ≤ nB ∧ nB ≤ 4096
  here : ∀ i, i < nB → ∀ x ∈ R i, bI nB x.key = i
  keys : ∀ i, i < nB → ∀ x ∈ R i, ∀ y ∈ R i, x.key = y.key → x = y
  blk : ∀ i, i < nB → ∀ j, j < nB → ∀ x ∈ R i, ∀ y ∈ R j, x.qb = y.qb → x.key = y.key
  vals : ∀ a, valsL (lineOf (R (bI nB a)) a) = forK L a
  tick : ∀ i, i < nB → ∀ x ∈ R i, 0 ≤ x.l ∧ x.l ≤ c
  seat : ∀ a q t, f a = some (q, t) → ∃ i, i < nB ∧ ∃ x ∈ R i, x.qb = q ∧ ∃ p ∈ x.P, p.2.1 = t ∧ p.2.2.1 = a
  free : ∀ a, f a = none → ∀ x ∈ L, x.1 ≠ a
  one : L.Pairwise fun x y => x.1 ≠ y.1
  wf : ∀ x ∈ L, wfW x
/-- No line holds nobody. -/
def Full (nB : Nat) (R : Nat → List Ln) : Prop := ∀ i, i < nB → ∀ x ∈ R i, x.P ≠ []

theorem line_some {L : List Ln} {a : Int} {x : Ln} (h : lineOf L a = some x) : x ∈ L ∧ x.key = a := ⟨List.mem_of_find?_eq_some h, by simpa using List.find?_some h⟩
theorem line_none {L : List Ln} {a : Int} (h : lineOf L a = none) : ∀ x ∈ L, x.key ≠ a := by simpa [lineOf] using h
theorem line_mem {L : List Ln} {x : Ln} (hk : ∀ y ∈ L, x.key = y.key → x = y) (hx : x ∈ L) : lineOf L x.key = some x := by
  cases h : lineOf L x.key with
  | none => exact absurd rfl (line_none h x hx)
  | some y =>
    obtain ⟨h1, h2⟩ := line_some h
    rw [hk y h1 h2.symm]
theorem uniq {L : List Wt} (h : L.Pairwise fun x y => x.1 ≠ y.1) {x y : Wt} (hx : x ∈ L) (hy : y ∈ L) (e : x.1 = y.1) : x = y := by
  obtain ⟨i, hi, rfl⟩ := List.getElem_of_mem hx
  obtain ⟨j, hj, rfl⟩ := List.getElem_of_mem hy
  have hp := List.pairwise_iff_getElem.1 h
  rcases Nat.lt_trichotomy i j with h1 | rfl | h1
  · exact absurd e (hp i j hi hj h1)
  · rfl
  · exact absurd e.symm (hp j i hj hi h1)
theorem erase_filter : ∀ {L : List Wt} {j : Nat} (_ : L.Pairwise fun x y => x.1 ≠ y.1) (hj : j < L.length), L.eraseIdx j = L.filter fun x => decide (x.1 ≠ L[j].1)
  | x :: L, 0, h, _ => by
    have h1 := (List.pairwise_cons.1 h).1
    have h2 : L.filter (fun y => decide (y.1 ≠ x.1)) = L := List.filter_eq_self.2 (fun y hy => by simpa using fun e => h1 y hy e.symm)
    simp
    exact (by simpa using h2.symm)
  | x :: L, j + 1, h, hj => by
    have hj' : j < L.length := by simpa using hj
    have h1 := (List.pairwise_cons.1 h).1 L[j] (List.getElem_mem hj')
    have ih := erase_filter (List.pairwise_cons.1 h).2 hj'
    have h2 : decide (x.1 ≠ L[j].1) = true := by simpa using h1
    rw [List.eraseIdx_cons_succ, List.getElem_cons_succ, List.filter_cons, if_pos h2, ih]
theorem forK_erase {L : List Wt} (h : L.Pairwise fun x y => x.1 ≠ y.1) {j : Nat} (hj : j < L.length) (a : Int) : forK (L.eraseIdx j) a = (forK L a).filter fun x => decide (x.1 ≠ L[j].1) := by
  rw [erase_filter h hj]
  unfold forK
  rw [List.filter_filter, List.filter_filter]
  exact List.filter_congr (fun x _ => Bool.and_comm _ _)
theorem forK_append (A B : List Wt) (a : Int) : forK (A ++ B) a = forK A a ++ forK B a := by simp [forK]
theorem mem_forK {L : List Wt} {a : Int} {x : Wt} : x ∈ forK L a ↔ x ∈ L ∧ x.2.1 = a := by simp [forK]
/-- Where one who waits is. -/
theorem who_mem {L : List Wt} (h : L.Pairwise fun x y => x.1 ≠ y.1) {v : Wt} (hv : v ∈ L) : ∃ (j : Nat) (hj : j < L.length), whoI L v.1 = j ∧ L[j] = v := by
  rcases place_cases (fun x : Wt => decide (x.1 = v.1)) L with ⟨_, h2⟩ | ⟨k, hk, h1, h2⟩
  · have := h2 v hv
    simp at this
  · exact ⟨k, hk, h1, uniq h (List.getElem_mem hk) hv (by simpa using h2)⟩
theorem who_none {L : List Wt} {a : Int} (h : ∀ x ∈ L, x.1 ≠ a) : whoI L a = -1 := place_none (fun j hj => by simpa using h _ (List.getElem_mem hj))
/-- Where the first one who waits for a key is. -/
theorem key_first {L : List Wt} {a : Int} {v : Wt} {B : List Wt} (hv : forK L a = v :: B) : ∃ (j : Nat) (hj : j < L.length), keyI L a = j ∧ L[j] = v := by
  have hm : v ∈ forK L a := by rw [hv]; simp
  have hf : L.find? (fun x => decide (x.2.1 = a)) = some v := by
    have h1 := List.head?_filter (p := fun x : Wt => decide (x.2.1 = a)) (l := L)
    unfold forK at hv
    rw [hv] at h1
    exact h1.symm
  obtain ⟨_, k, hk, h1, h2⟩ := List.find?_eq_some_iff_getElem.1 hf
  refine ⟨k, hk, place_some hk ?_ (fun q hq hqk => by simpa using h2 q hqk), h1⟩
  have := (mem_forK.1 hm).2
  simpa [h1] using this
theorem key_none {L : List Wt} {a : Int} (h : forK L a = []) : keyI L a = -1 := place_none (fun j hj => by
  have h1 := List.filter_eq_nil_iff.1 h L[j] (List.getElem_mem hj)
  simpa using h1)

section
variable {nB c : Nat} {R : Nat → List Ln} {f : Int → Option (Nat × Int)} {L : List Wt}
theorem WlI.of_line (h : WlI nB R f c L) {i : Nat} (hi : i < nB) {x : Ln} (hx : x ∈ R i) : x.P.map (·.2.2) = forK L x.key := by
  have h1 := h.vals x.key
  rw [h.here i hi x hx, line_mem (h.keys i hi x hx) hx] at h1
  exact h1
theorem WlI.of_seat (h : WlI nB R f c L) {a : Int} {q : Nat} {t : Int} (hf : f a = some (q, t)) :
    ∃ i, i < nB ∧ ∃ x ∈ R i, x.qb = q ∧ ∃ A p B, x.P = A ++ p :: B ∧ p.2.1 = t ∧ p.2.2.1 = a ∧ p.2.2 ∈ L ∧ p.2.2.2.1 = x.key := by
  obtain ⟨i, hi, x, hx, hq, p, hp, ht, ha⟩ := h.seat a q t hf
  obtain ⟨A, B, hAB⟩ := List.append_of_mem hp
  have hm : p.2.2 ∈ forK L x.key := by
    rw [← h.of_line hi hx]
    exact List.mem_map_of_mem hp
  exact ⟨i, hi, x, hx, hq, A, p, B, hAB, ht, ha, (mem_forK.1 hm).1, (mem_forK.1 hm).2⟩
theorem WlI.same_blk (h : WlI nB R f c L) {i j : Nat} (hi : i < nB) (hj : j < nB) {x y : Ln} (hx : x ∈ R i) (hy : y ∈ R j) (e : x.qb = y.qb) : i = j ∧ x = y := by
  have hk := h.blk i hi j hj x hx y hy e
  have h1 := h.here i hi x hx
  have h2 := h.here j hj y hy
  rw [hk, h2] at h1
  subst h1
  exact ⟨rfl, h.keys _ hi x hx y hy hk⟩
theorem updQ_in {q : Nat} {x' : Ln} {i : Nat} {x : Ln} (hx : x ∈ R i) : (x.qb = q → x' ∈ updQ R q x' i) ∧ (x.qb ≠ q → x ∈ updQ R q x' i) := by
  constructor
  · intro e
    exact List.mem_map.2 ⟨x, hx, by rw [if_pos e]⟩
  · intro e
    exact List.mem_map.2 ⟨x, hx, by rw [if_neg e]⟩
theorem WlI.updQ_off (h : WlI nB R f c L) {i k : Nat} (hi : i < nB) (hk : k < nB) (hki : k ≠ i) {x x' : Ln} (hx : x ∈ R i) : updQ R x.qb x' k = R k := by
  unfold updQ
  have : ∀ y ∈ R k, (if y.qb = x.qb then x' else y) = y := fun y hy => if_neg (fun e => hki (h.same_blk hk hi hy hx e).1)
  rw [List.map_congr_left this, List.map_id']

/-- ONE TAKEN OUT; a line that holds nobody any more is gone. -/
theorem WlI.out (h : WlI nB R f c L) (hf : Full nB R) {i : Nat} (hi : i < nB) {x : Ln} (hx : x ∈ R i) {A B : List (Pl Wt)} {p : Pl Wt} (hP : x.P = A ++ p :: B) {j : Nat} (hj : j < L.length) (hL : L[j] = p.2.2) (X' : List Nat) :
    WlI nB (updR (updQ R x.qb ⟨x.key, x.qb, X', x.l, A ++ B⟩) i ((updQ R x.qb ⟨x.key, x.qb, X', x.l, A ++ B⟩ i).filter liveL)) (updV f p.2.2.1 none) c (L.eraseIdx j) ∧
      Full nB (updR (updQ R x.qb ⟨x.key, x.qb, X', x.l, A ++ B⟩) i ((updQ R x.qb ⟨x.key, x.qb, X', x.l, A ++ B⟩ i).filter liveL)) := by
  obtain ⟨x', hx'⟩ : ∃ x' : Ln, x' = ⟨x.key, x.qb, X', x.l, A ++ B⟩ := ⟨_, rfl⟩
  rw [← hx']
  have e1 : x'.key = x.key := by rw [hx']
  have e2 : x'.qb = x.qb := by rw [hx']
  have e3 : x'.l = x.l := by rw [hx']
  have e4 : x'.P = A ++ B := by rw [hx']
  obtain ⟨R2, hR2⟩ : ∃ R2, updR (updQ R x.qb x') i ((updQ R x.qb x' i).filter liveL) = R2 := ⟨_, rfl⟩
  rw [hR2]
  have live : ∀ y : Ln, liveL y = true ↔ y.P ≠ [] := fun y => by
    unfold liveL
    cases y.P <;> simp
  -- who is in a bucket now
  have r1 : ∀ k, k < nB → ∀ y ∈ R2 k, (k = i ∧ y = x' ∧ y.P ≠ []) ∨ (y ∈ R k ∧ y.qb ≠ x.qb) := by
    intro k hk y hy
    rw [← hR2] at hy
    by_cases e : k = i
    · subst e
      rw [updR_same] at hy
      obtain ⟨hy, hl⟩ := List.mem_filter.1 hy
      rcases updQ_mem hy with ⟨rfl, _⟩ | hy
      · exact .inl ⟨rfl, rfl, (live _).1 hl⟩
      · exact .inr hy
    · rw [updR_other e, h.updQ_off hi hk e hx] at hy
      exact .inr ⟨hy, fun e' => e (h.same_blk hk hi hy hx e').1⟩
  have r2 : ∀ k, k < nB → ∀ y ∈ R k, y.qb ≠ x.qb → y ∈ R2 k := by
    intro k hk y hy hne
    rw [← hR2]
    by_cases e : k = i
    · subst e
      rw [updR_same]
      exact List.mem_filter.2 ⟨(updQ_in hy).2 hne, (live _).2 (hf k hk y hy)⟩
    · rw [updR_other e, h.updQ_off hi hk e hx]
      exact hy
  have r3 : A ++ B ≠ [] → x' ∈ R2 i := by
    intro hne
    rw [← hR2, updR_same]
    exact List.mem_filter.2 ⟨(updQ_in hx).1 rfl, (live _).2 (by rw [e4]; exact hne)⟩
  -- who waits for what
  have hvx := h.of_line hi hx
  rw [hP, List.map_append, List.map_cons] at hvx
  have hpk : p.2.2.2.1 = x.key := (mem_forK.1 (by rw [← hvx]; simp : p.2.2 ∈ forK L x.key)).2
  have hpw : (forK L x.key).Pairwise fun x y => x.1 ≠ y.1 := h.one.filter _
  have k1 : forK (L.eraseIdx j) x.key = (A ++ B).map (·.2.2) := by
    rw [forK_erase h.one hj, hL, ← hvx, List.filter_append, List.filter_cons, if_neg (by simp), List.map_append]
    rw [← hvx] at hpw
    obtain ⟨_, q2, q3⟩ := List.pairwise_append.1 hpw
    congr 1
    · exact List.filter_eq_self.2 (fun y hy => by simpa using q3 y hy p.2.2 (by simp))
    · exact List.filter_eq_self.2 (fun y hy => by simpa using fun e => (List.pairwise_cons.1 q2).1 y hy e.symm)
  have k2 : ∀ a, a ≠ x.key → forK (L.eraseIdx j) a = forK L a := by
    intro a ha
    rw [forK_erase h.one hj]
    refine List.filter_eq_self.2 (fun y hy => ?_)
    obtain ⟨y1, y2⟩ := mem_forK.1 hy
    simp only [ne_eq, decide_eq_true_eq]
    intro e
    have := uniq h.one y1 (List.getElem_mem hj) e
    rw [this, hL, hpk] at y2
    exact ha y2.symm
  have hsub : ∀ y ∈ L.eraseIdx j, y ∈ L := fun y hy => (List.eraseIdx_sublist L j).subset hy
  have keq : ∀ k, k < nB → ∀ y ∈ R k, y.qb ≠ x.qb → y.key ≠ x.key := by
    intro k hk y hy hne e
    have h1 := h.here k hk y hy
    rw [e, h.here i hi x hx] at h1
    subst h1
    exact hne (by rw [h.keys _ hi y hy x hx e])
  have keys2 : ∀ k, k < nB → ∀ y ∈ R2 k, ∀ z ∈ R2 k, y.key = z.key → y = z := by
    intro k hk y hy z hz e
    rcases r1 k hk y hy with ⟨_, rfl, _⟩ | ⟨hy1, hy2⟩ <;> rcases r1 k hk z hz with ⟨_, rfl, _⟩ | ⟨hz1, hz2⟩
    · rfl
    · exact absurd (e.symm.trans e1) (keq k hk z hz1 hz2)
    · exact absurd (e.trans e1) (keq k hk y hy1 hy2)
    · exact h.keys k hk y hy1 z hz1 e
  refine ⟨⟨h.n1, ?_, keys2, ?_, ?_, ?_, ?_, ?_, h.one.sublist (List.eraseIdx_sublist L j), fun y hy => h.wf y (hsub y hy)⟩, ?_⟩
  · intro k hk y hy
    rcases r1 k hk y hy with ⟨rfl, rfl, _⟩ | ⟨hy1, _⟩
    · rw [e1]; exact h.here _ hi x hx
    · exact h.here k hk y hy1
  · intro k hk k' hk' y hy z hz e
    rcases r1 k hk y hy with ⟨_, rfl, _⟩ | ⟨hy1, hy2⟩ <;> rcases r1 k' hk' z hz with ⟨_, rfl, _⟩ | ⟨hz1, hz2⟩
    · rfl
    · exact absurd (e.symm.trans e2) hz2
    · exact absurd (e.trans e2) hy2
    · exact h.blk k hk k' hk' y hy1 z hz1 e
  · intro a
    have hb := bI_lt h.n1.1 a
    cases hl : lineOf (R2 (bI nB a)) a with
    | some y =>
      obtain ⟨hy, hya⟩ := line_some hl
      rcases r1 _ hb y hy with ⟨_, rfl, _⟩ | ⟨hy1, hy2⟩
      · rw [← hya, e1, k1]
        show y.P.map _ = _
        rw [e4]
      · rw [k2 a (by rw [← hya]; exact keq _ hb y hy1 hy2), ← hya, ← h.of_line hb hy1]
        rfl
    | none =>
      have hn := line_none hl
      show [] = _
      by_cases e : a = x.key
      · subst e
        rw [k1]
        rw [h.here i hi x hx] at hn
        by_cases hAB : A ++ B = []
        · rw [hAB]; rfl
        · exact absurd e1 (hn x' (r3 hAB))
      · rw [k2 a e, ← h.vals a]
        cases hl2 : lineOf (R (bI nB a)) a with
        | none => rfl
        | some y =>
          obtain ⟨hy, hya⟩ := line_some hl2
          exact absurd hya (hn y (r2 _ hb y hy (fun e' => e (by
            have := h.blk _ hb _ hi y hy x hx e'
            rw [← hya, this]))))
  · intro k hk y hy
    rcases r1 k hk y hy with ⟨_, rfl, _⟩ | ⟨hy1, _⟩
    · rw [e3]; exact h.tick i hi x hx
    · exact h.tick k hk y hy1
  · intro a q t hft
    have hne : a ≠ p.2.2.1 := by
      rintro rfl
      rw [updV_same] at hft
      cases hft
    rw [updV_other hne] at hft
    obtain ⟨k, hk, y, hy, hq, p', hp', ht, ha⟩ := h.seat a q t hft
    by_cases e : y.qb = x.qb
    · obtain ⟨rfl, rfl⟩ := h.same_blk hk hi hy hx e
      rw [hP] at hp'
      have hp2 : p' ∈ A ++ B := by
        rcases List.mem_append.1 hp' with h1 | h1
        · exact List.mem_append_left _ h1
        · rcases List.mem_cons.1 h1 with rfl | h1
          · exact absurd ha.symm hne
          · exact List.mem_append_right _ h1
      exact ⟨k, hk, x', r3 (List.ne_nil_of_mem hp2), e2.trans hq, p', by rw [e4]; exact hp2, ht, ha⟩
    · exact ⟨k, hk, y, r2 k hk y hy e, hq, p', hp', ht, ha⟩
  · intro a hfa y hy
    by_cases e : a = p.2.2.1
    · subst e
      rw [erase_filter h.one hj, hL] at hy
      simpa using (List.mem_filter.1 hy).2
    · rw [updV_other e] at hfa
      exact h.free a hfa y (hsub y hy)
  · intro k hk y hy
    rcases r1 k hk y hy with ⟨_, _, h1⟩ | ⟨hy1, _⟩
    · exact h1
    · exact hf k hk y hy1

/-- ONE PUT IN, behind the others of its line. -/
theorem WlI.put (h : WlI nB R f c L) {i : Nat} (hi : i < nB) {x : Ln} (hx : x ∈ R i) (v : Wt) (hk : v.2.1 = x.key) (hw : wfW v) (hn : ∀ y ∈ L, y.1 ≠ v.1) (X' : List Nat) (pl : Nat) :
    WlI nB (updQ R x.qb ⟨x.key, x.qb, X', x.l + 1, x.P ++ [(pl, x.l + 1, v)]⟩) (updV f v.1 (some (x.qb, x.l + 1))) (c + 1) (L ++ [v]) ∧
      ((∀ k, k < nB → ∀ y ∈ R k, y ≠ x → y.P ≠ []) → Full nB (updQ R x.qb ⟨x.key, x.qb, X', x.l + 1, x.P ++ [(pl, x.l + 1, v)]⟩)) := by
  obtain ⟨x', hx'⟩ : ∃ x' : Ln, x' = ⟨x.key, x.qb, X', x.l + 1, x.P ++ [(pl, x.l + 1, v)]⟩ := ⟨_, rfl⟩
  rw [← hx']
  have e1 : x'.key = x.key := by rw [hx']
  have e2 : x'.qb = x.qb := by rw [hx']
  have e3 : x'.l = x.l + 1 := by rw [hx']
  have e4 : x'.P = x.P ++ [(pl, x.l + 1, v)] := by rw [hx']
  obtain ⟨R2, hR2⟩ : ∃ R2, updQ R x.qb x' = R2 := ⟨_, rfl⟩
  rw [hR2]
  have r1 : ∀ k, k < nB → ∀ y ∈ R2 k, (k = i ∧ y = x') ∨ (y ∈ R k ∧ y.qb ≠ x.qb) := by
    intro k hkn y hy
    rw [← hR2] at hy
    rcases updQ_mem hy with ⟨rfl, z, hz, hzq⟩ | hy
    · exact .inl ⟨(h.same_blk hkn hi hz hx hzq).1, rfl⟩
    · exact .inr hy
  have r2 : ∀ k, k < nB → ∀ y ∈ R k, y.qb ≠ x.qb → y ∈ R2 k := fun k _ y hy hne => by rw [← hR2]; exact (updQ_in hy).2 hne
  have r3 : x' ∈ R2 i := by rw [← hR2]; exact (updQ_in hx).1 rfl
  have keq : ∀ k, k < nB → ∀ y ∈ R k, y.qb ≠ x.qb → y.key ≠ x.key := by
    intro k hkn y hy hne e
    have h1 := h.here k hkn y hy
    rw [e, h.here i hi x hx] at h1
    subst h1
    exact hne (by rw [h.keys _ hi y hy x hx e])
  have keys2 : ∀ k, k < nB → ∀ y ∈ R2 k, ∀ z ∈ R2 k, y.key = z.key → y = z := by
    intro k hkn y hy z hz e
    rcases r1 k hkn y hy with ⟨_, rfl⟩ | ⟨hy1, hy2⟩ <;> rcases r1 k hkn z hz with ⟨_, rfl⟩ | ⟨hz1, hz2⟩
    · rfl
    · exact absurd (e.symm.trans e1) (keq k hkn z hz1 hz2)
    · exact absurd (e.trans e1) (keq k hkn y hy1 hy2)
    · exact h.keys k hkn y hy1 z hz1 e
  have hvx := h.of_line hi hx
  have k1 : forK (L ++ [v]) x.key = (x.P ++ [(pl, x.l + 1, v)]).map (·.2.2) := by
    rw [forK_append, List.map_append, hvx]
    simp [forK, hk]
  have k2 : ∀ a, a ≠ x.key → forK (L ++ [v]) a = forK L a := by
    intro a ha
    rw [forK_append]
    have : ¬ x.key = a := fun e => ha e.symm
    simp [forK, hk, this]
  refine ⟨⟨h.n1, ?_, keys2, ?_, ?_, ?_, ?_, ?_, ?_, ?_⟩, ?_⟩
  · intro k hkn y hy
    rcases r1 k hkn y hy with ⟨rfl, rfl⟩ | ⟨hy1, _⟩
    · rw [e1]; exact h.here _ hi x hx
    · exact h.here k hkn y hy1
  · intro k hkn k' hk' y hy z hz e
    rcases r1 k hkn y hy with ⟨_, rfl⟩ | ⟨hy1, hy2⟩ <;> rcases r1 k' hk' z hz with ⟨_, rfl⟩ | ⟨hz1, hz2⟩
    · rfl
    · exact absurd (e.symm.trans e2) hz2
    · exact absurd (e.trans e2) hy2
    · exact h.blk k hkn k' hk' y hy1 z hz1 e
  · intro a
    have hb := bI_lt h.n1.1 a
    by_cases ea : a = x.key
    · subst ea
      rw [h.here i hi x hx, ← e1, line_mem (keys2 i hi x' r3) r3, e1, k1]
      show x'.P.map _ = _
      rw [e4]
    · rw [k2 a ea, ← h.vals a]
      cases hl : lineOf (R2 (bI nB a)) a with
      | some y =>
        obtain ⟨hy, hya⟩ := line_some hl
        rcases r1 _ hb y hy with ⟨_, rfl⟩ | ⟨hy1, hy2⟩
        · exact absurd (hya.symm.trans e1) ea
        · subst hya
          rw [line_mem (h.keys _ hb y hy1) hy1]
      | none =>
        have hn2 := line_none hl
        cases hl2 : lineOf (R (bI nB a)) a with
        | none => rfl
        | some y =>
          obtain ⟨hy, hya⟩ := line_some hl2
          exact absurd hya (hn2 y (r2 _ hb y hy (fun e' => ea (by
            have := h.blk _ hb _ hi y hy x hx e'
            rw [← hya, this]))))
  · intro k hkn y hy
    rcases r1 k hkn y hy with ⟨_, rfl⟩ | ⟨hy1, _⟩
    · have := h.tick i hi x hx
      rw [e3]
      omega
    · have := h.tick k hkn y hy1
      omega
  · intro a q t hft
    by_cases ea : a = v.1
    · subst ea
      rw [updV_same] at hft
      simp only [Option.some.injEq, Prod.mk.injEq] at hft
      exact ⟨i, hi, x', r3, by rw [e2, hft.1], (pl, x.l + 1, v), by rw [e4]; simp, hft.2, rfl⟩
    · rw [updV_other ea] at hft
      obtain ⟨k, hkn, y, hy, hq, p', hp', ht, ha⟩ := h.seat a q t hft
      by_cases e : y.qb = x.qb
      · obtain ⟨rfl, rfl⟩ := h.same_blk hkn hi hy hx e
        exact ⟨k, hkn, x', r3, e2.trans hq, p', by rw [e4]; exact List.mem_append_left _ hp', ht, ha⟩
      · exact ⟨k, hkn, y, r2 k hkn y hy e, hq, p', hp', ht, ha⟩
  · intro a hfa y hy
    have ea : a ≠ v.1 := by
      rintro rfl
      rw [updV_same] at hfa
      cases hfa
    rw [updV_other ea] at hfa
    rcases List.mem_append.1 hy with hy | hy
    · exact h.free a hfa y hy
    · simp at hy
      subst hy
      exact fun e => ea e.symm
  · rw [List.pairwise_append]
    exact ⟨h.one, by simp, fun y hy z hz => by simp at hz; subst hz; exact hn y hy⟩
  · intro y hy
    rcases List.mem_append.1 hy with hy | hy
    · exact h.wf y hy
    · simp at hy
      subst hy
      exact hw
  · intro hfu k hkn y hy
    rcases r1 k hkn y hy with ⟨_, rfl⟩ | ⟨hy1, hy2⟩
    · rw [e4]; simp
    · exact hfu k hkn y hy1 (fun e => hy2 (by rw [e]))

/-- A LINE OPENED, of a key that nobody waits for. -/
theorem WlI.opened (h : WlI nB R f c L) {a : Int} (hn : lineOf (R (bI nB a)) a = none) (q : Nat) (X : List Nat) (hq : ∀ i, i < nB → ∀ y ∈ R i, y.qb ≠ q) :
    WlI nB (updR R (bI nB a) (R (bI nB a) ++ [⟨a, q, X, 0, []⟩])) f c L := by
  obtain ⟨i, hi⟩ : ∃ i, bI nB a = i := ⟨_, rfl⟩
  have hin : i < nB := by rw [← hi]; exact bI_lt h.n1.1 a
  rw [hi] at hn ⊢
  have hno := line_none hn
  have r1 : ∀ k, ∀ y ∈ updR R i (R i ++ [⟨a, q, X, 0, []⟩]) k, y ∈ R k ∨ (k = i ∧ y = ⟨a, q, X, 0, []⟩) := by
    intro k y hy
    by_cases e : k = i
    · subst e
      rw [updR_same] at hy
      rcases List.mem_append.1 hy with hy | hy
      · exact .inl hy
      · exact .inr ⟨rfl, by simpa using hy⟩
    · rw [updR_other e] at hy
      exact .inl hy
  have r2 : ∀ k, ∀ y ∈ R k, y ∈ updR R i (R i ++ [⟨a, q, X, 0, []⟩]) k := by
    intro k y hy
    by_cases e : k = i
    · subst e
      rw [updR_same]
      exact List.mem_append_left _ hy
    · rw [updR_other e]
      exact hy
  have hlo : ∀ b, b ≠ a → lineOf (updR R i (R i ++ [⟨a, q, X, 0, []⟩]) (bI nB b)) b = lineOf (R (bI nB b)) b := by
    intro b hb
    by_cases e : bI nB b = i
    · rw [e, updR_same]
      unfold lineOf
      rw [List.find?_append]
      have : ¬ a = b := fun e' => hb e'.symm
      simp [this]
    · rw [updR_other e]
  refine ⟨h.n1, ?_, ?_, ?_, ?_, ?_, ?_, h.free, h.one, h.wf⟩
  · intro k hk y hy
    rcases r1 k y hy with hy | ⟨rfl, rfl⟩
    · exact h.here k hk y hy
    · exact hi
  · intro k hk y hy z hz e
    rcases r1 k y hy with hy1 | ⟨hk1, rfl⟩ <;> rcases r1 k z hz with hz1 | ⟨hk2, rfl⟩
    · exact h.keys k hk y hy1 z hz1 e
    · exact absurd e (hno y (by rw [← hk2]; exact hy1))
    · exact absurd e.symm (hno z (by rw [← hk1]; exact hz1))
    · rfl
  · intro k hk k' hk' y hy z hz e
    rcases r1 k y hy with hy | ⟨rfl, rfl⟩ <;> rcases r1 _ z hz with hz | ⟨_, rfl⟩
    · exact h.blk k hk k' hk' y hy z hz e
    · exact absurd e (hq k hk y hy)
    · exact absurd e.symm (hq k' hk' z hz)
    · rfl
  · intro b
    by_cases e : b = a
    · subst e
      have h1 := h.vals b
      rw [hi, hn] at h1
      rw [hi, updR_same, ← h1]
      unfold lineOf at hn ⊢
      rw [List.find?_append, hn]
      simp [valsL]
    · rw [hlo b e]
      exact h.vals b
  · intro k hk y hy
    rcases r1 k y hy with hy | ⟨rfl, rfl⟩
    · exact h.tick k hk y hy
    · exact ⟨Int.le_refl _, Int.natCast_nonneg c⟩
  · intro b q' t hf
    obtain ⟨k, hk, y, hy, hq', p, hp, ht, ha⟩ := h.seat b q' t hf
    exact ⟨k, hk, y, r2 k y hy, hq', p, hp, ht, ha⟩
theorem WlI.empty {nB : Nat} (h : 1 ≤ nB ∧ nB ≤ 4096) : WlI nB (fun _ => []) (fun _ => none) 0 [] :=
  ⟨h, by simp, by simp, by simp, fun _ => rfl, by simp, by simp, by simp, by simp, by simp⟩
theorem WlI.more (h : WlI nB R f c L) {c' : Nat} (hc : c ≤ c') : WlI nB R f c' L :=
  ⟨h.n1, h.here, h.keys, h.blk, h.vals, fun i hi x hx => by have := h.tick i hi x hx; omega, h.seat, h.free, h.one, h.wf⟩
end
end Go.Proofs.Ytiffgkmmibhklaa

/- The table with what is due; its seats turned; open, vacate. -/
namespace Go.Proofs.Ytiffgkmmibhklaa
open Go.RowKit Go.Maps

/-- The table; D: what is due. -/
def WlQ (w : World) (b : Nat) (X : List Nat) (m e : Int) (nB : Nat) (R : Nat → List Ln) (f : Int → Option (Nat × Int)) (s : Nat) (D : List (Hm Unit)) (g0 cap gm hb : Nat) (Xh : List Nat) : Prop :=
  ∃ sv DD col, WlP w b X m e nB R f s g0 cap gm hb Xh sv DD col ∧ E.HpC w hb Xh m D

section
variable {w w' : World} {b : Nat} {X Y : List Nat} {m e : Int} {nB : Nat} {R : Nat → List Ln} {f : Int → Option (Nat × Int)} {s g0 cap gm hb : Nat} {Xh : List Nat} {sv : Nat → Value} {DD : DataW Value} {col : Nat → Co} {D : List (Hm Unit)}
theorem WlQ.keep (h : WlQ w b X m e nB R f s D g0 cap gm hb Xh) (ht : Turned Y w w') (hd : ∀ k ∈ X, k ∉ Y) : WlQ w' b X m e nB R f s D g0 cap gm hb Xh := by
  obtain ⟨sv, DD, col, h1, h2⟩ := h
  exact ⟨sv, DD, col, h1.keep ht hd, h2.keep ht (fun k hk => hd k (h1.xh k hk))⟩
theorem WlQ.keep0 (h : WlQ w b X m e nB R f s D g0 cap gm hb Xh) (ht : Turned [] w w') : WlQ w' b X m e nB R f s D g0 cap gm hb Xh := h.keep ht (by simp)
theorem WlQ.at_ (h : WlQ w b X m e nB R f s D g0 cap gm hb Xh) (hs : SameAt X w w') : WlQ w' b X m e nB R f s D g0 cap gm hb Xh := by
  obtain ⟨sv, DD, col, h1, h2⟩ := h
  exact ⟨sv, DD, col, h1.same hs, h2.at_ (fun k hk => hs k (h1.xh k hk))⟩
theorem WlQ.lt (h : WlQ w b X m e nB R f s D g0 cap gm hb Xh) : ∀ k ∈ X, k < w.heap.size := by
  obtain ⟨sv, DD, col, h1, h2⟩ := h
  exact h1.lt
theorem WlQ.head (h : WlQ w b X m e nB R f s D g0 cap gm hb Xh) : b ∈ X := by
  obtain ⟨sv, DD, col, h1, h2⟩ := h
  exact h1.xt
theorem WlQ.tab (h : WlQ w b X m e nB R f s D g0 cap gm hb Xh) : w.heap[b]? = some (.cells #[.int .i64 m, .int .i64 e, .slice (some ⟨g0, 0, none⟩) nB cap, .map (some gm), .pointer (some ⟨hb, 0, none⟩)] tTb (0, 0)) := by
  obtain ⟨sv, DD, col, h1, h2⟩ := h
  exact h1.tab
theorem WlQ.que (h : WlQ w b X m e nB R f s D g0 cap gm hb Xh) {i : Nat} (hi : i < nB) {x : Ln} (hx : x ∈ R i) : Wq.FQ w x.qb x.X e x.l x.P := by
  obtain ⟨sv, DD, col, h1, h2⟩ := h
  exact h1.que i hi x hx
theorem WlQ.queT (h : WlQ w b X m e nB R f s D g0 cap gm hb Xh) {i : Nat} {x x' : Ln} (hi : i < nB) (hx : x ∈ R i) (hkey : x'.key = x.key) (hqb : x'.qb = x.qb) (hone : ∀ j, j < nB → ∀ y ∈ R j, y.qb = x.qb → y.key = x.key)
    (ht : Turned x.X w w') (hn : Newer x.X w.heap.size x'.X) (hq : Wq.FQ w' x'.qb x'.X e x'.l x'.P) :
    WlQ w' b (X ++ x'.X) m e nB (updQ R x.qb x') f s D g0 cap gm hb Xh ∧ Turned X w w' ∧ Newer X w.heap.size (X ++ x'.X) := by
  obtain ⟨sv, DD, col, h1, h2⟩ := h
  obtain ⟨col', q1, q2, q3⟩ := h1.queTurned hi hx hkey hqb hone ht hn hq
  exact ⟨⟨sv, DD, col', q1, h2.keep ht (fun k hk hk' => by
    have := h1.cq i hi x hx k hk'
    rw [h1.ch k hk] at this
    cases this)⟩, q2, q3⟩
theorem WlQ.dueT (h : WlQ w b X m e nB R f s D g0 cap gm hb Xh) {Xh' : List Nat} {D' : List (Hm Unit)} (ht : Turned Xh w w') (hn : Newer Xh w.heap.size Xh') (hh : E.HpC w' hb Xh' m D') :
    WlQ w' b (X ++ Xh') m e nB R f s D' g0 cap gm hb Xh' ∧ Turned X w w' ∧ Newer X w.heap.size (X ++ Xh') := by
  obtain ⟨sv, DD, col, h1, h2⟩ := h
  obtain ⟨col', q1, q2, q3⟩ := h1.dueTurned ht hn hh.lt
  exact ⟨⟨sv, DD, col', q1, hh⟩, q2, q3⟩
theorem WlQ.due (h : WlQ w b X m e nB R f s D g0 cap gm hb Xh) : E.HpC w hb Xh m D ∧ ∀ k ∈ Xh, k ∈ X := by
  obtain ⟨sv, DD, col, h1, h2⟩ := h
  exact ⟨h2, h1.xh⟩

theorem WlQ.queS (h : WlQ w b X m e nB R f s D g0 cap gm hb Xh) {i : Nat} {x : Ln} (hi : i < nB) (hx : x ∈ R i) (ht : Turned x.X w w') : SameAt Xh w w' := by
  obtain ⟨sv, DD, col, h1, h2⟩ := h
  exact fun k hk => ht.block k (h2.lt k hk) (fun hk' => by
    have := h1.cq i hi x hx k hk'
    rw [h1.ch k hk] at this
    cases this)
theorem WlQ.gmOff (h : WlQ w b X m e nB R f s D g0 cap gm hb Xh) : gm ∉ Xh := by
  obtain ⟨sv, DD, col, h1, h2⟩ := h
  intro hk
  have := h1.ch _ hk
  rw [h1.cm] at this
  cases this

/-! ### the seats -/
theorem WlQ.seatPut (h : WlQ w b X m e nB R f s D g0 cap gm hb Xh) {a : Int} (ha : (litN a).wf = true) (hf : f a = none) (hs : s ≤ 100000) (q : Nat) (t : Int) :
    ∃ w', (Instr.mapUpdate tMs (.map (some gm)) (.int .i64 a) (seatV (q, t))).run Try.prog w = .ok () w' ∧ WlQ w' b X m e nB R (updV f a (some (q, t))) (s + 1) D g0 cap gm hb Xh ∧ Turned X w w' := by
  obtain ⟨sv, DD, col, h1, h2⟩ := h
  obtain ⟨w', r1, r2, r3, r4, r5⟩ := putV Try.underlying58 h1.map h1.red ha (seatV (q, t)) (by rw [h1.siz]; unfold maxLen; omega) (by rw [hf]; rfl)
  have hr : ReadsV (DD.put (litN a) (.held (seatV (q, t)))) (fun i => (updV f a (some (q, t)) i).map seatV) := by
    rw [updV_map]
    exact r3
  obtain ⟨p1, p2⟩ := h1.mapTurned r5 r2 hr
  rw [r4, h1.siz] at p1
  exact ⟨w', r1, ⟨sv, _, col, p1, h2.keep r5 (fun k hk hg => by
    simp at hg
    subst hg
    have := h1.ch _ hk
    rw [h1.cm] at this
    cases this)⟩, p2⟩
theorem WlQ.seatDel (h : WlQ w b X m e nB R f s D g0 cap gm hb Xh) {a : Int} (ha : (litN a).wf = true) (hf : (f a).isSome = true) (ty : TypeId) :
    ∃ w', (Builtin.delete_ #[tMs, tN] ty #[.map (some gm), .int .i64 a]).run Try.prog w = .ok (.tuple #[]) w' ∧ WlQ w' b X m e nB R (updV f a none) (s - 1) D g0 cap gm hb Xh ∧ Turned X w w' ∧ Turned [gm] w w' := by
  obtain ⟨sv, DD, col, h1, h2⟩ := h
  obtain ⟨w', r1, r2, r3, r4, r5⟩ := delV Try.underlying58 h1.map h1.red ha ty (by simpa using hf)
  have hr : ReadsV (DD.del (litN a)) (fun i => (updV f a none i).map seatV) := by
    rw [updV_map]
    exact r3
  obtain ⟨p1, p2⟩ := h1.mapTurned r5 r2 hr
  have : Maps.size (DD.del (litN a)) = s - 1 := by have := h1.siz; omega
  rw [this] at p1
  exact ⟨w', r1, ⟨sv, _, col, p1, h2.keep r5 (fun k hk hg => by
    simp at hg
    subst hg
    have := h1.ch _ hk
    rw [h1.cm] at this
    cases this)⟩, p2, r5⟩

theorem wlBucketQ (h : WlQ w b X m e nB R f s D g0 cap gm hb Xh) (h1 : 1 ≤ nB ∧ nB ≤ 4096) (a : Int) :
    Calls Try.prog 58 #[.pointer (some ⟨b, 0, none⟩), .int .i64 a] w fun r w' => r = .returned (.pointer (some ⟨g0, bI nB a, none⟩)) ∧ ∃ n, w' = w.drewN n := by
  obtain ⟨sv, DD, col, h2, _⟩ := h
  exact wlBucket h2 h1 a

/-! ### a bucket cut -/
/-- What DeleteFunc of a bucket leaves, stored. -/
theorem WlQ.cut (h : WlQ w b X m e nB R f s D g0 cap gm hb Xh) {i : Nat} (hi : i < nB) : ∃ v : Value, w.cell? ⟨g0, i, none⟩ = some v ∧ (∀ j, w.frozen? ⟨g0, j, none⟩ = false) ∧ (∃ av vcap, v = .slice av (R i).length vcap) ∧
    Calls Try.prog 68 #[v, delV1] w fun r w' => ∃ v', r = .returned v' ∧ (∃ av vcap, v' = .slice av ((R i).filter liveL).length vcap) ∧ (∀ j, w'.frozen? ⟨g0, j, none⟩ = false) ∧ w'.cell? ⟨g0, i, none⟩ = some v ∧
      ∃ X', WlQ (w'.setCell ⟨g0, i, none⟩ v') b X' m e nB (updR R i ((R i).filter liveL)) f s D g0 cap gm hb Xh ∧ Turned X w (w'.setCell ⟨g0, i, none⟩ v') ∧ Newer X w.heap.size X' ∧ SameAt Xh w (w'.setCell ⟨g0, i, none⟩ v') := by
  obtain ⟨sv, DD, col, h1, h2⟩ := h
  obtain ⟨x0, xf⟩ := h1.slot hi
  have hr := h1.buc i hi
  obtain ⟨av, vcap, hv, _, _⟩ := ownsRow_shape hr
  refine ⟨sv i, x0, xf, ⟨av, vcap, hv⟩, ?_⟩
  have HD := wlDelete (e := e) (fun x hx => h1.que i hi x hx) (fun x hx k hk hk' => by
    have := h1.cq i hi x hx k hk
    rw [h1.cb i hi k hk'] at this
    cases this) hr
  refine HD.mono ?_
  rintro r w' ⟨v', rfl, r1, r2, r3⟩
  obtain ⟨av', vcap', hv', _, _⟩ := ownsRow_shape r1
  obtain ⟨o1, o2, o3, o4, o5, o6⟩ := h1.own (c := .buc i) r2 (fun k hk _ => h1.cb i hi k hk)
  have o2' := o2 (by simp)
  obtain ⟨col', q1, q2, q3⟩ := h1.bucTurned hi (L := (R i).filter liveL) (v' := v') r2 (fun k hk => .inl (r3 k hk)) r1 (fun x hx => by
    have hx' := (List.mem_filter.1 hx).1
    exact ⟨o4 i hi x hx' (by simp), h1.xq i hi x hx', h1.cq i hi x hx'⟩)
  have hne : ∀ k ∈ Xh, k ≠ g0 := fun k hk e => by
    subst e
    have := h1.ch _ hk
    rw [h1.cr] at this
    cases this
  refine ⟨v', rfl, ⟨av', vcap', hv'⟩, fun j => o2'.frozenAt _, ?_, _, ⟨_, DD, col', q1, ?_⟩, q2, q3, fun k hk => ?_⟩
  · rw [o2'.cellAt _ (by omega)]
    simp [hi]
  · exact (h2.keep r2 (fun k hk hk' => by
      have := h1.cb i hi k hk'
      rw [h1.ch k hk] at this
      cases this)).keep ((Turned.refl [g0] w').setCell (.inl (by simp)) _) (fun k hk hk' => hne k hk (by simpa using hk'))
  · exact (Below.heap_setCell _ _ _ _ (hne k hk)).trans (r2.block k (h2.lt k hk) (fun hk' => by
      have := h1.cb i hi k hk'
      rw [h1.ch k hk] at this
      cases this))

set_option maxRecDepth 100000 in
set_option maxHeartbeats 1600000 in
theorem wlVacate (h : WlQ w b X m e nB R f s D g0 cap gm hb Xh) (h1 : 1 ≤ nB ∧ nB ≤ 4096) (v : Wt) (hw : wfW v) (hf : (f v.1).isSome = true) :
    Calls Try.prog 49 #[.pointer (some ⟨b, 0, none⟩), aggW v] w fun r w' => r = .returned (.tuple #[]) ∧
      ∃ X', WlQ w' b X' m e nB (updR R (bI nB v.2.1) ((R (bI nB v.2.1)).filter liveL)) (updV f v.1 none) (s - 1) D g0 cap gm hb Xh ∧ Turned X w w' ∧ Newer X w.heap.size X' ∧ SameAt Xh w w' := by
  have hi := bI_lt h1.1 v.2.1
  have hwf : (litN v.1).wf = true := WalkArith.wf_i64 hw.1
  obtain ⟨v1, v2, v3⟩ := v
  simp only at hi hwf hf ⊢
  have HLT := Lib.hid h.lt
  obtain ⟨W, hW⟩ : ∃ W, w.alloc (wtC (v1, v2, v3)) = W := ⟨_, rfl⟩
  have T0 : Turned [] w W := hW ▸ (Turned.refl [] w).alloc _
  have K0 : W.heap[w.heap.size]? = some (wtC (v1, v2, v3)) := by rw [← hW]; exact heap_alloc_new w _
  have hQ := h.keep0 T0
  obtain ⟨w5, hrun, hQ5, t5, tg5⟩ := (hQ.keep0 (Turned.refl [] W).drew).seatDel hwf hf 0
  have t5 : Turned X W w5 := ((Turned.refl X W).drew).trans t5 (Newer.refl _ _)
  obtain ⟨_, _, _, c3, _⟩ := cellsB hQ.tab
  obtain ⟨k0, k1, k2, _⟩ := cells3a K0
  have K5 := t5.same K0 (fun hx => by have := HLT.out _ hx; omega)
  obtain ⟨l0, l1, l2, _⟩ := cells3a K5
  have HB := Lib.hid (wlBucketQ hQ5 h1 v2)
  have HC := Lib.hid (fun n => (hQ5.keep0 ((Turned.refl [] w5).drewN n)).cut hi)
  have HT5 := Lib.hid ((T0.mono (fun k hk => by simp at hk) : Turned X w W).trans t5 (Newer.refl _ _))
  have HS := Lib.hid T0.size
  have HSX : Hid (SameAt Xh w w5) := Lib.hid (fun k hk => by
    have hkX := h.due.2 k hk
    have hkl := HLT.out k hkX
    refine (tg5.block k (by show k < W.heap.size; have := T0.size; omega) (fun hg => h.gmOff (by simp at hg; rw [← hg]; exact hk))).trans ?_
    exact T0.block k hkl (by simp))
  obtain ⟨i, hii⟩ : ∃ i, bI nB v2 = i := ⟨_, rfl⟩
  rw [hii] at HB HC ⊢
  clear h hQ hQ5 t5 tg5 K0 K5 T0 hi hf hii
  go_enter Try.func49, Try.ntmps49
  go_wp2_with fail
  (try rw [hW])
  clear hW
  go_region
  all_goals
    clear hrun
    go_wp2_with fail
    with_reducible refine HB.out.mono ?_
    rintro r w6 ⟨rfl, n, rfl⟩
    obtain ⟨u, x0, xf, ⟨av, vcap, rfl⟩, hd⟩ := HC.out n
    have HD := Lib.hid hd
    clear hd
    go_wp2_with fail
    with_reducible refine HD.out.mono ?_
    rintro r w7 ⟨v', rfl, ⟨av', vcap', rfl⟩, yf, y0, X', q1, q2, q3, q4⟩
    have HF := Lib.hid (And.intro q1 (And.intro q2 (And.intro q3 q4)))
    have yfi := yf i
    clear q1 q2 q3 q4 yf
    go_wp2
    go_end0
    obtain ⟨q1, q2, q3, q4⟩ := HF.out
    exact ⟨rfl, X', q1, (HT5.out.drewN n).trans q2 (Newer.refl _ _), q3.mono HT5.out.size, HSX.out.trans q4⟩

theorem infoLn : (Try.prog.info? tLn).map (fun i => (i.zero, i.size, i.bytes)) = some (some (.agg #[.int .i64 0, .pointer none]), 2, 16) := by kernel_rfl
/-- A bucket with one line more, stored. -/
theorem WlQ.grown (h : WlQ w b X m e nB R f s D g0 cap gm hb Xh) {i : Nat} (hi : i < nB) {a : Int} {q : Nat} {Xq : List Nat} {W : World} (ht : Turned [] w W) (hq : Wq.FQ W q Xq e 0 []) (hn : ∀ k ∈ Xq, w.heap.size ≤ k) :
    ∃ av vcap, W.cell? ⟨g0, i, none⟩ = some (.slice av (R i).length vcap) ∧ W.ownsRow 0 tLn 2 (.slice av (R i).length vcap) (R i).length (cellsOf encL (R i)) ∧ g0 < w.heap.size ∧ (∀ g ∈ (Value.slice av (R i).length vcap).ownBlock.toList, g < w.heap.size) ∧ (∀ j, j < nB → ∀ y ∈ R j, y.qb ≠ q) ∧
      ∀ (W2 W1 : World) (v' : Value), Turned [] W W2 → W2.grownBy W1 (Value.slice av (R i).length vcap).ownBlock → W1.ownsRow 0 tLn 2 v' ((R i).length + 1) (cellsOf encL (R i) ++ [.int .i64 a, .pointer (some ⟨q, 0, none⟩)]) → (∀ g ∈ v'.ownBlock.toList, g ∈ (Value.slice av (R i).length vcap).ownBlock.toList ∨ W2.heap.size ≤ g) →
        W1.cell? ⟨g0, i, none⟩ = some (.slice av (R i).length vcap) ∧ W1.frozen? ⟨g0, i, none⟩ = false ∧ ∃ X', WlQ (W1.setCell ⟨g0, i, none⟩ v') b X' m e nB (updR R i (R i ++ [⟨a, q, Xq, 0, []⟩])) f s D g0 cap gm hb Xh ∧ Turned X w (W1.setCell ⟨g0, i, none⟩ v') ∧ Newer X w.heap.size X' := by
  obtain ⟨sv, DD, col, h1, h2⟩ := h
  obtain ⟨col', p1, pc, p2, pq⟩ := h1.queNew ht hq hn
  have h2' := h2.keep ht (by simp)
  obtain ⟨x0, xf⟩ := p1.slot hi
  have hr := p1.buc i hi
  obtain ⟨av, vcap, hv, hc1, hc2⟩ := ownsRow_shape hr
  rw [hv] at x0 hr
  refine ⟨av, vcap, x0, hr, h1.lt _ h1.xr, fun g hg => h1.lt g (h1.xb i hi g (by rw [hv]; exact hg)), pq, fun W2 W1 v' t2 hg ho hnew => ?_⟩
  have t1 : Turned (sv i).ownBlock.toList W W1 := Turned.grown (t2.mono (fun k hk => by simp at hk)) hg (fun k hk => .inl (by rw [hv]; simp [hk]))
  obtain ⟨o1, o2, o3, o4, o5, o6⟩ := p1.own (c := .buc i) t1 (fun k hk _ => p1.cb i hi k hk)
  have o2' := o2 (by simp)
  have hqs : ∀ k ∈ Xq, k ∉ (sv i).ownBlock.toList := fun k hk hk' => by
    have := p1.cb i hi k hk'
    rw [pc k hk] at this
    cases this
  obtain ⟨c2, r1, r2, r3⟩ := p1.bucTurned hi (L := R i ++ [⟨a, q, Xq, 0, []⟩]) (v' := v') t1 (fun k hk => by
      rcases hnew k hk with h | h
      · exact .inl (by rw [hv]; exact h)
      · exact .inr (Nat.le_trans t2.size h)) (by rw [cellsOf_snoc, List.length_append]; exact ho) (fun x hx => by
      rcases List.mem_append.1 hx with hx | hx
      · exact ⟨o4 i hi x hx (by simp), p1.xq i hi x hx, p1.cq i hi x hx⟩
      · simp at hx
        subst hx
        exact ⟨hq.keep t1 hqs, fun k hk => List.mem_append_right _ hk, pc⟩)
  have hne : ∀ k ∈ Xh, k ≠ g0 := fun k hk e => by
    subst e
    have := p1.ch _ hk
    rw [p1.cr] at this
    cases this
  refine ⟨?_, o2'.frozenAt _, _, ⟨_, DD, c2, r1, ?_⟩, (ht.up : Turned X w W).trans r2 p2, p2.trans (r3.mono ht.size) (Nat.le_refl _)⟩
  · rw [o2'.cellAt _ (by omega)]
    simp [hi, hv]
  · exact (h2'.keep t1 (fun k hk hk' => by
      have := p1.cb i hi k hk'
      rw [p1.ch k hk] at this
      cases this)).keep ((Turned.refl [g0] W1).setCell (.inl (by simp)) _) (fun k hk hk' => hne k hk (by simpa using hk'))

set_option maxRecDepth 100000 in
set_option maxHeartbeats 1600000 in
theorem wlOpen (h : WlQ w b X m e nB R f s D g0 cap gm hb Xh) (h1 : 1 ≤ nB ∧ nB ≤ 4096) (he : 0 ≤ e ∧ e ≤ 4096) (a : Int) (hR : (R (bI nB a)).length ≤ 100000) :
    Calls Try.prog 45 #[.pointer (some ⟨b, 0, none⟩), .int .i64 a] w fun r w' => ∃ q Xq X', r = .returned (.pointer (some ⟨q, 0, none⟩)) ∧
      WlQ w' b X' m e nB (updR R (bI nB a) (R (bI nB a) ++ [⟨a, q, Xq, 0, []⟩])) f s D g0 cap gm hb Xh ∧ (∀ j, j < nB → ∀ y ∈ R j, y.qb ≠ q) ∧ Turned X w w' ∧ Newer X w.heap.size X' := by
  have hi := bI_lt h1.1 a
  obtain ⟨_, c1, _, _, _⟩ := cellsB h.tab
  have HQ := Lib.hid (Wq.fqnew_any e w)
  rw [show min (max e 0) 4096 = e by omega] at HQ
  have HH := Lib.hid h
  obtain ⟨i, hii⟩ : ∃ i, bI nB a = i := ⟨_, rfl⟩
  have HI := Lib.hid hii
  rw [hii] at hi hR ⊢
  obtain ⟨ii, hi1, hz0, hz1, hz2⟩ := info_parts infoLn
  clear h hii he
  go_enter Try.func45, Try.ntmps45
  go_wp2_with fail
  with_reducible refine HQ.out.mono ?_
  rintro r w1 ⟨q, Xq, rfl, q1, t1, q3⟩
  have HB := Lib.hid (fun (o : Obj) => wlBucketQ (HH.out.keep0 (t1.alloc o)) h1 a)
  rw [HI.out] at HB
  have HT1 := Lib.hid t1
  have HQ1 := Lib.hid q1
  have HQ3 := Lib.hid q3
  clear t1 q1 q3 c1
  go_wp2_with fail
  with_reducible refine (HB.out _).mono ?_
  rintro r w2 ⟨rfl, n, rfl⟩
  obtain ⟨W, hW⟩ : ∃ W, (w1.alloc (.cells #[.int .i64 a, .pointer (some ⟨q, 0, none⟩)] tLn)).drewN n = W := ⟨_, rfl⟩
  have T1 : Turned [] w1 W := hW ▸ ((Turned.refl [] w1).alloc _).drewN n
  have K0 : W.heap[w1.heap.size]? = some (.cells #[.int .i64 a, .pointer (some ⟨q, 0, none⟩)] tLn (0, 0)) := by rw [← hW]; exact heap_alloc_new w1 _
  obtain ⟨av, vcap, x0, hr, hg0, hgv, hqn, hgr⟩ := HH.out.grown hi (a := a) (HT1.out.j T1) (HQ1.out.keep0 T1) HQ3.out
  have HR := Lib.hid hr
  have HG := Lib.hid hgr
  have HN := Lib.hid hqn
  have HK := Lib.hid K0
  have HV := Lib.hid hgv
  obtain ⟨k0, k1, _⟩ := two_cells K0
  have kl := lt_of_block K0
  have hw1 := HT1.out.size
  have hwk : w1.heap.size < W.heap.size := kl
  have hgW : g0 < W.heap.size := by omega
  (try rw [hW])
  clear hW T1 hr hgr hqn K0 kl hgv
  go_wp2_with fail
  go_region_law (refine step_append_any _ rfl (.tmp 20) (.tmp 22) tSl rfl tLn ii (.agg #[.int .i64 0, .pointer none]) 2 16 Try.underlying107 hi1 hz0 hz1 hz2 rfl (by decide) (.slice av (R i).length vcap) (R i).length (cellsOf encL (R i)) rfl (HR.out.alloc _) (some ⟨W.heap.size, 0, none⟩) 1 1 [.int .i64 a, .pointer (some ⟨q, 0, none⟩)] rfl rfl (by simp) (by intro ad had; cases had; exact E.two_new _ W.heap.size rfl _ _ _) (by intro u hu; simp at hu; rcases hu with rfl | rfl <;> rfl) (by unfold maxLen; omega) (by omega) ?_; intro a' cap' W1 hown hgrow hnew; obtain ⟨d1, d2, d3⟩ := HG.out _ W1 (.slice a' ((R i).length + 1) cap') (((Turned.refl [] W).alloc _).drew) hgrow hown hnew; have kn := (hgrow.block w1.heap.size (Nat.lt_of_lt_of_le hwk (((Turned.refl [] W).alloc _).drew).size) (fun e => by have := HV.out w1.heap.size (by rw [← e]; simp); omega)).trans ((Below.heap_alloc W _ _ hwk).trans HK.out); obtain ⟨n0, n1, _⟩ := two_cells kn; have RR := Lib.hid d3; clear hown hgrow hnew d3 kn)
  all_goals
    have hne0 : g0 ≠ w1.heap.size := by omega
    go_wp2
    go_ret
    obtain ⟨X', r1, r2, r3⟩ := RR.out
    exact ⟨q, Xq, X', rfl, r1, HN.out, r2, r3⟩
end
end Go.Proofs.Ytiffgkmmibhklaa

/- The table and who waits: enter, leave, leaveFirst. -/
namespace Go.Proofs.Ytiffgkmmibhklaa
open Go.RowKit Go.Maps

/-- The table holds L; D is due; c: how much was done to it. -/
def WlM (w : World) (b : Nat) (X : List Nat) (m e : Int) (nB c : Nat) (L : List Wt) (D : List (Hm Unit)) (g0 cap gm hb : Nat) (Xh : List Nat) : Prop :=
  ∃ R f, WlQ w b X m e nB R f L.length D g0 cap gm hb Xh ∧ WlI nB R f c L ∧ Full nB R ∧ (∀ i, i < nB → (R i).length ≤ c) ∧ 0 ≤ e ∧ e ≤ 4096

section
variable {w w' : World} {b : Nat} {X Y : List Nat} {m e : Int} {nB c : Nat} {R : Nat → List Ln} {f : Int → Option (Nat × Int)} {s g0 cap gm hb : Nat} {Xh : List Nat} {D : List (Hm Unit)} {L : List Wt}
theorem WlM.keep (h : WlM w b X m e nB c L D g0 cap gm hb Xh) (ht : Turned Y w w') (hd : ∀ k ∈ X, k ∉ Y) : WlM w' b X m e nB c L D g0 cap gm hb Xh := by
  obtain ⟨R, f, h1, h2⟩ := h
  exact ⟨R, f, h1.keep ht hd, h2⟩
theorem WlM.keep0 (h : WlM w b X m e nB c L D g0 cap gm hb Xh) (ht : Turned [] w w') : WlM w' b X m e nB c L D g0 cap gm hb Xh := h.keep ht (by simp)
theorem WlM.at_ (h : WlM w b X m e nB c L D g0 cap gm hb Xh) (hs : SameAt X w w') : WlM w' b X m e nB c L D g0 cap gm hb Xh := by
  obtain ⟨R, f, h1, h2⟩ := h
  exact ⟨R, f, h1.at_ hs, h2⟩
theorem WlM.lt (h : WlM w b X m e nB c L D g0 cap gm hb Xh) : ∀ k ∈ X, k < w.heap.size := by
  obtain ⟨R, f, h1, h2⟩ := h
  exact h1.lt
theorem WlM.head (h : WlM w b X m e nB c L D g0 cap gm hb Xh) : b ∈ X := by
  obtain ⟨R, f, h1, h2⟩ := h
  exact h1.head
theorem WlM.tab (h : WlM w b X m e nB c L D g0 cap gm hb Xh) : w.heap[b]? = some (.cells #[.int .i64 m, .int .i64 e, .slice (some ⟨g0, 0, none⟩) nB cap, .map (some gm), .pointer (some ⟨hb, 0, none⟩)] tTb (0, 0)) := by
  obtain ⟨R, f, h1, h2⟩ := h
  exact h1.tab
theorem WlM.more (h : WlM w b X m e nB c L D g0 cap gm hb Xh) {c' : Nat} (hc : c ≤ c') : WlM w b X m e nB c' L D g0 cap gm hb Xh := by
  obtain ⟨R, f, h1, h2, h3, h4, h5⟩ := h
  exact ⟨R, f, h1, h2.more hc, h3, fun i hi => Nat.le_trans (h4 i hi) hc, h5⟩
theorem WlM.one (h : WlM w b X m e nB c L D g0 cap gm hb Xh) : L.Pairwise fun x y => x.1 ≠ y.1 := by
  obtain ⟨R, f, h1, h2, _⟩ := h
  exact h2.one
theorem WlM.wf (h : WlM w b X m e nB c L D g0 cap gm hb Xh) : ∀ x ∈ L, wfW x := by
  obtain ⟨R, f, h1, h2, _⟩ := h
  exact h2.wf
theorem WlM.n1 (h : WlM w b X m e nB c L D g0 cap gm hb Xh) : 1 ≤ nB ∧ nB ≤ 4096 := by
  obtain ⟨R, f, h1, h2, _⟩ := h
  exact h2.n1
theorem WlM.due (h : WlM w b X m e nB c L D g0 cap gm hb Xh) : E.HpC w hb Xh m D ∧ ∀ k ∈ Xh, k ∈ X := by
  obtain ⟨R, f, h1, _⟩ := h
  exact h1.due
theorem WlM.dueT (h : WlM w b X m e nB c L D g0 cap gm hb Xh) {Xh' : List Nat} {D' : List (Hm Unit)} (ht : Turned Xh w w') (hn : Newer Xh w.heap.size Xh') (hh : E.HpC w' hb Xh' m D') :
    WlM w' b (X ++ Xh') m e nB c L D' g0 cap gm hb Xh' ∧ Turned X w w' ∧ Newer X w.heap.size (X ++ Xh') := by
  obtain ⟨R, f, h1, h2⟩ := h
  obtain ⟨q1, q2, q3⟩ := h1.dueT ht hn hh
  exact ⟨⟨R, f, q1, h2⟩, q2, q3⟩
theorem full_none (hi : WlI nB R f c L) (hf : Full nB R) (h : L.length = 0) : ∀ i, i < nB → R i = [] := by
  intro i hin
  have hL : L = [] := List.eq_nil_of_length_eq_zero h
  cases hr : R i with
  | nil => rfl
  | cons x r =>
    have hx : x ∈ R i := by rw [hr]; simp
    have h1 := hi.of_line hin hx
    rw [hL] at h1
    exact absurd (by simpa [forK] using h1) (hf i hin x hx)
theorem wlQueueQ (h : WlQ w b X m e nB R f L.length D g0 cap gm hb Xh) (hi : WlI nB R f c L) (hf : Full nB R) (a : Int) :
    Calls Try.prog 41 #[.pointer (some ⟨b, 0, none⟩), .int .i64 a] w fun r w' => r = .returned (quePtr (lineOf (R (bI nB a)) a)) ∧ Turned [] w w' := by
  obtain ⟨sv, DD, col, h2, _⟩ := h
  exact wlQueue h2 hi.n1 (full_none hi hf) a
theorem seat_free (hi : WlI nB R f c L) {a : Int} (hn : ∀ y ∈ L, y.1 ≠ a) : f a = none := by
  cases hf : f a with
  | none => rfl
  | some s =>
    obtain ⟨i, _, x, _, _, A, p, B, _, _, h1, h2, _⟩ := hi.of_seat (q := s.1) (t := s.2) hf
    exact absurd h1 (hn _ h2)

set_option maxRecDepth 100000 in
set_option maxHeartbeats 1600000 in
theorem wlEnter (h : WlM w b X m e nB c L D g0 cap gm hb Xh) (v : Wt) (hw : wfW v) (hn : ∀ y ∈ L, y.1 ≠ v.1) (he : (cntK L v.2.1 : Int) < e) (hc : c ≤ 100000) (hL : L.length ≤ 5000) :
    Calls Try.prog 27 #[.pointer (some ⟨b, 0, none⟩), aggW v] w fun r w' => r = .returned (.tuple #[]) ∧
      ∃ X', WlM w' b X' m e nB (c + 1) (L ++ [v]) D g0 cap gm hb Xh ∧ Turned X w w' ∧ Newer X w.heap.size X' := by
  obtain ⟨R, f, hQ, hI, hF, hB, e0, e1⟩ := h
  have hfr := seat_free hI hn
  have hwf : (litN v.1).wf = true := WalkArith.wf_i64 hw.1
  have hin := bI_lt hI.n1.1 v.2.1
  have HLT := Lib.hid hQ.lt
  obtain ⟨W, hW⟩ : ∃ W, w.alloc (wtC v) = W := ⟨_, rfl⟩
  have T0 : Turned [] w W := hW ▸ (Turned.refl [] w).alloc _
  have K0 : W.heap[w.heap.size]? = some (wtC v) := by rw [← hW]; exact heap_alloc_new w _
  have hlt : w.heap.size < W.heap.size := lt_of_block K0
  have hQ1 := hQ.keep0 T0
  have HQ := Lib.hid (wlQueueQ hQ1 hI hF v.2.1)
  obtain ⟨k0, k1, k2, _⟩ := cells3a K0
  have HQ1 := Lib.hid hQ1
  have HI := Lib.hid hI
  have HF := Lib.hid hF
  have HB := Lib.hid hB
  have HT0 := Lib.hid T0
  have HK0 := Lib.hid K0
  have HE := Lib.hid (And.intro e0 e1)
  have HCN := Lib.hid he
  have HHW := Lib.hid hw
  have HNN := Lib.hid hn
  have HLL := Lib.hid hL
  have HCC := Lib.hid hc
  obtain ⟨v1, v2, v3⟩ := v
  simp only at HQ hin hwf hfr HCN HNN ⊢
  clear hQ hQ1 hI hF hB T0 K0 e0 e1 he hw hn hL hc
  go_enter Try.func27, Try.ntmps27
  go_wp2_with fail
  (try rw [hW])
  clear hW
  with_reducible refine HQ.out.mono ?_
  rintro r w1 ⟨rfl, t1⟩
  have k3 := t1.same HK0.out (by simp)
  have HQ2 := Lib.hid (HQ1.out.keep0 t1)
  have HT1 := Lib.hid (HT0.out.j t1)
  have HS1 := Lib.hid t1.size
  obtain ⟨l0, l1, l2, _⟩ := cells3a k3
  have HK3 := Lib.hid k3
  clear t1 k3 k0 k1 k2
  have HSW := Lib.hid hlt
  cases hlo : lineOf (R (bI nB v2)) v2 with
  | some x =>
    obtain ⟨hx, hxk⟩ := line_some hlo
    obtain ⟨qq, hq⟩ : ∃ qq, x.qb = qq := ⟨_, rfl⟩
    rw [show quePtr (some x) = .pointer (some ⟨qq, 0, none⟩) from by rw [← hq]; rfl]
    have READY : ∃ (R1 : Nat → List Ln) (y : Ln) (X1 : List Nat), y.qb = qq ∧ WlQ w1 b X1 m e nB R1 f L.length D g0 cap gm hb Xh ∧ WlI nB R1 f c L ∧ y ∈ R1 (bI nB v2) ∧ y.key = v2 ∧ (∀ k, k < nB → ∀ z ∈ R1 k, z ≠ y → z.P ≠ []) ∧
        (∀ i, i < nB → (R1 i).length ≤ c + 1) ∧ (y.P.length : Int) < e ∧ y.l ≤ 100000 ∧ Turned X w w1 ∧ Newer X W.heap.size X1 ∧ (w1).heap[w.heap.size]? = some (wtC (v1, v2, v3)) := by
      have h1 := congrArg List.length (HI.out.of_line hin hx)
      rw [List.length_map, hxk, forK_len] at h1
      have h2 := HCN.out
      have h3 := HI.out.tick _ hin x hx
      have h4 := HCC.out
      exact ⟨R, x, X, hq, HQ2.out, HI.out, hx, hxk, fun k hk z hz _ => HF.out k hk z hz, fun i hi => by have := HB.out i hi; omega, by omega, by omega, HT1.out.up, Newer.refl _ _, HK3.out⟩
    clear hx hxk hlo hq
    obtain ⟨R1, x, X1, hqq, hQ, hI, hx, hxk, hfu, hB, hm, hl, T2, N2, k3⟩ := READY
    subst hqq
    have NZ : w.heap.size ∉ X1 := fun hx' => by
      rcases N2 _ hx' with h1 | h1
      · have := HLT.out _ h1; omega
      · have := HSW.out; omega
    have HP := Lib.hid (Wq.fqpush_yes (hQ.que hin hx) (v1, v2, v3) hm hl)
    obtain ⟨l0, l1, l2, _⟩ := cells3a k3
    have HQQ := Lib.hid hQ
    have HII := Lib.hid hI
    have HX := Lib.hid hx
    have HXK := Lib.hid hxk
    have HFU := Lib.hid hfu
    have HBB := Lib.hid hB
    have HT2 := Lib.hid T2
    have HN2 := Lib.hid (N2.mono (Nat.le_of_lt HSW.out) : Newer X w.heap.size X1)
    have HK3 := Lib.hid k3
    have HNZ := Lib.hid NZ
    clear hQ hI hx hxk hfu hB hm hl T2 N2 k3 NZ
    go_wp2_with fail
    with_reducible refine HP.out.mono ?_
    rintro r w3 ⟨rfl, X', p, p1, t3, n3⟩
    obtain ⟨q2, q3, q4⟩ := HQQ.out.queT (x' := ⟨x.key, x.qb, X', x.l + 1, x.P ++ [(p, x.l + 1, (v1, v2, v3))]⟩) hin HX.out rfl rfl (fun j hj y hy e => by
      rw [(HII.out.same_blk hj hin hy HX.out e).2]) t3 n3 p1
    have k4 := q3.same HK3.out HNZ.out
    obtain ⟨m0, m1, m2, _⟩ := cells3a k4
    obtain ⟨_, _, _, c3, _⟩ := cellsB q2.tab
    obtain ⟨w5, hrun, q5, t5⟩ := (q2.keep0 (Turned.refl [] w3).drew).seatPut hwf hfr (Nat.le_trans HLL.out (by omega)) x.qb (x.l + 1)
    obtain ⟨i1, i2⟩ := HII.out.put hin HX.out (v1, v2, v3) HXK.out.symm HHW.out HNN.out X' p
    have HF5 := Lib.hid (show ∃ X', WlM w5 b X' m e nB (c + 1) (L ++ [(v1, v2, v3)]) D g0 cap gm hb Xh ∧ Turned X w w5 ∧ Newer X w.heap.size X' from
      ⟨_, ⟨_, _, by rw [List.length_append]; exact q5, i1, i2 HFU.out, fun i hi => by rw [updQ_len]; exact HBB.out i hi, HE.out⟩,
        (HT2.out.trans ((q3.drew).trans t5 q4) HN2.out), HN2.out.trans q4 HT2.out.size⟩)
    clear q2 q3 q4 p1 t3 n3 k4 q5 t5 i1 i2
    go_wp2_with fail
    go_region
    all_goals
      clear hrun
      go_end0
      exact ⟨rfl, HF5.out⟩
  | none =>
    have HO := Lib.hid (wlOpen HQ2.out HI.out.n1 HE.out v2 (Nat.le_trans (HB.out _ hin) HCC.out))
    go_wp2_with fail
    with_reducible refine HO.out.mono ?_
    rintro r w2 ⟨q, Xq, X1, rfl, o1, o2, o3, o4⟩
    have READY : ∃ (R1 : Nat → List Ln) (y : Ln) (X1 : List Nat), y.qb = q ∧ WlQ w2 b X1 m e nB R1 f L.length D g0 cap gm hb Xh ∧ WlI nB R1 f c L ∧ y ∈ R1 (bI nB v2) ∧ y.key = v2 ∧ (∀ k, k < nB → ∀ z ∈ R1 k, z ≠ y → z.P ≠ []) ∧
        (∀ i, i < nB → (R1 i).length ≤ c + 1) ∧ (y.P.length : Int) < e ∧ y.l ≤ 100000 ∧ Turned X w w2 ∧ Newer X W.heap.size X1 ∧ (w2).heap[w.heap.size]? = some (wtC (v1, v2, v3)) := by
      have hne : ∀ y : Ln, y ∈ R (bI nB v2) ++ [⟨v2, q, Xq, 0, []⟩] → y ∈ R (bI nB v2) ∨ y = ⟨v2, q, Xq, 0, []⟩ := fun y hy => by simpa using hy
      refine ⟨_, ⟨v2, q, Xq, 0, []⟩, X1, rfl, o1, HI.out.opened hlo q Xq o2, by rw [updR_same]; simp, rfl, fun k hk z hz hzne => ?_, fun i hi => ?_, ?_, by simp, HT1.out.up.trans o3 (Newer.refl _ _), (o4.mono HS1.out), o3.same HK3.out (fun hx => by have := HLT.out _ hx; omega)⟩
      · by_cases ek : k = bI nB v2
        · subst ek
          rw [updR_same] at hz
          rcases hne z hz with h1 | h1
          · exact HF.out _ hk z h1
          · exact absurd h1 hzne
        · rw [updR_other ek] at hz
          exact HF.out k hk z hz
      · by_cases ek : i = bI nB v2
        · subst ek
          rw [updR_same]
          have := HB.out _ hi
          simp
          omega
        · rw [updR_other ek]
          have := HB.out i hi
          omega
      · have := HCN.out
        simp
        omega
    clear hlo o1 o2 o3 o4
    obtain ⟨R1, x, X1, hqq, hQ, hI, hx, hxk, hfu, hB, hm, hl, T2, N2, k3⟩ := READY
    subst hqq
    have NZ : w.heap.size ∉ X1 := fun hx' => by
      rcases N2 _ hx' with h1 | h1
      · have := HLT.out _ h1; omega
      · have := HSW.out; omega
    have HP := Lib.hid (Wq.fqpush_yes (hQ.que hin hx) (v1, v2, v3) hm hl)
    obtain ⟨l0, l1, l2, _⟩ := cells3a k3
    have HQQ := Lib.hid hQ
    have HII := Lib.hid hI
    have HX := Lib.hid hx
    have HXK := Lib.hid hxk
    have HFU := Lib.hid hfu
    have HBB := Lib.hid hB
    have HT2 := Lib.hid T2
    have HN2 := Lib.hid (N2.mono (Nat.le_of_lt HSW.out) : Newer X w.heap.size X1)
    have HK3 := Lib.hid k3
    have HNZ := Lib.hid NZ
    clear hQ hI hx hxk hfu hB hm hl T2 N2 k3 NZ
    go_wp2_with fail
    with_reducible refine HP.out.mono ?_
    rintro r w3 ⟨rfl, X', p, p1, t3, n3⟩
    obtain ⟨q2, q3, q4⟩ := HQQ.out.queT (x' := ⟨x.key, x.qb, X', x.l + 1, x.P ++ [(p, x.l + 1, (v1, v2, v3))]⟩) hin HX.out rfl rfl (fun j hj y hy e => by
      rw [(HII.out.same_blk hj hin hy HX.out e).2]) t3 n3 p1
    have k4 := q3.same HK3.out HNZ.out
    obtain ⟨m0, m1, m2, _⟩ := cells3a k4
    obtain ⟨_, _, _, c3, _⟩ := cellsB q2.tab
    obtain ⟨w5, hrun, q5, t5⟩ := (q2.keep0 (Turned.refl [] w3).drew).seatPut hwf hfr (Nat.le_trans HLL.out (by omega)) x.qb (x.l + 1)
    obtain ⟨i1, i2⟩ := HII.out.put hin HX.out (v1, v2, v3) HXK.out.symm HHW.out HNN.out X' p
    have HF5 := Lib.hid (show ∃ X', WlM w5 b X' m e nB (c + 1) (L ++ [(v1, v2, v3)]) D g0 cap gm hb Xh ∧ Turned X w w5 ∧ Newer X w.heap.size X' from
      ⟨_, ⟨_, _, by rw [List.length_append]; exact q5, i1, i2 HFU.out, fun i hi => by rw [updQ_len]; exact HBB.out i hi, HE.out⟩,
        (HT2.out.trans ((q3.drew).trans t5 q4) HN2.out), HN2.out.trans q4 HT2.out.size⟩)
    clear q2 q3 q4 p1 t3 n3 k4 q5 t5 i1 i2
    go_wp2_with fail
    go_region
    all_goals
      clear hrun
      go_end0
      exact ⟨rfl, HF5.out⟩
end
end Go.Proofs.Ytiffgkmmibhklaa

/- The table and who waits: leave, leaveFirst. -/
namespace Go.Proofs.Ytiffgkmmibhklaa
open Go.RowKit Go.Maps

section
variable {w w' : World} {b : Nat} {X Y : List Nat} {m e : Int} {nB c : Nat} {R : Nat → List Ln} {f : Int → Option (Nat × Int)} {s g0 cap gm hb : Nat} {Xh : List Nat} {D : List (Hm Unit)} {L : List Wt}
theorem wlSeatQ (h : WlQ w b X m e nB R f s D g0 cap gm hb Xh) {a : Int} (ha : (litN a).wf = true) {q : Nat} {t : Int} (hf : f a = some (q, t)) :
    Calls Try.prog 35 #[.pointer (some ⟨b, 0, none⟩), .int .i64 a] w fun r w' => r = .returned (seatV (q, t)) ∧ Turned [] w w' := by
  obtain ⟨sv, DD, col, h1, _⟩ := h
  exact wlSeat_some h1 ha hf
theorem wlSeatQ0 (h : WlQ w b X m e nB R f s D g0 cap gm hb Xh) {a : Int} (ha : (litN a).wf = true) (hf : f a = none) :
    Calls Try.prog 35 #[.pointer (some ⟨b, 0, none⟩), .int .i64 a] w fun r w' => r = .returned seat0 ∧ Turned [] w w' := by
  obtain ⟨sv, DD, col, h1, _⟩ := h
  exact wlSeat_none h1 ha hf

/-- What a queue's removal, and vacate, leave. -/
theorem wlOut (hQ : WlQ w b X m e nB R f L.length D g0 cap gm hb Xh) (hI : WlI nB R f c L) (hF : Full nB R) (hB : ∀ i, i < nB → (R i).length ≤ c) (he : 0 ≤ e ∧ e ≤ 4096) {i : Nat} (hi : i < nB) {x : Ln} (hx : x ∈ R i) {A B : List (Pl Wt)} {p : Pl Wt} (hP : x.P = A ++ p :: B) {j : Nat} (hj : j < L.length) (hL : L[j] = p.2.2)
    {w3 : World} {X' : List Nat} (p1 : Wq.FQ w3 x.qb X' e x.l (A ++ B)) (t3 : Turned x.X w w3) (n3 : Newer x.X w.heap.size X') :
    Turned X w w3 ∧ (∀ k ∈ X', k ∈ X ∨ w.heap.size ≤ k) ∧ (∀ k ∈ X ++ X', k < w3.heap.size) ∧ ∀ W, Turned [] w3 W → Calls Try.prog 49 #[.pointer (some ⟨b, 0, none⟩), aggW p.2.2] W fun r w' => r = .returned (.tuple #[]) ∧ Turned (X ++ X') W w' ∧
      ∃ X'', WlM w' b X'' m e nB c (L.eraseIdx j) D g0 cap gm hb Xh ∧ Turned X w w' ∧ Newer X w.heap.size X'' ∧ SameAt Xh w w' := by
  obtain ⟨q2, q3, q4⟩ := hQ.queT (x' := ⟨x.key, x.qb, X', x.l, A ++ B⟩) hi hx rfl rfl (fun j hj y hy e => by rw [(hI.same_blk hj hi hy hx e).2]) t3 n3 p1
  have hpL : p.2.2 ∈ L := by rw [← hL]; exact List.getElem_mem hj
  have hpk : p.2.2.2.1 = x.key := by
    have h1 := hI.of_line hi hx
    have : p.2.2 ∈ forK L x.key := by rw [← h1, hP]; simp
    exact (mem_forK.1 this).2
  have hfs : (f p.2.2.1).isSome = true := by
    cases hf : f p.2.2.1 with
    | none => exact absurd rfl (hI.free _ hf _ hpL)
    | some _ => rfl
  refine ⟨q3, fun k hk => q4 k (List.mem_append_right _ hk), q2.lt, fun W hW => ?_⟩
  have hv := wlVacate (q2.keep0 hW) hI.n1 p.2.2 (hI.wf _ hpL) hfs
  rw [hpk, hI.here i hi x hx] at hv
  refine hv.mono ?_
  rintro r w5 ⟨rfl, X'', v1, v2, v3, v4⟩
  have hsx : SameAt Xh w w5 := ((hQ.queS hi hx t3).trans (fun k hk => hW.block k (q2.due.1.lt k hk) (by simp))).trans v4
  obtain ⟨i1, i2⟩ := hI.out hF hi hx hP hj hL X'
  have hlen : (L.eraseIdx j).length = L.length - 1 := by rw [List.length_eraseIdx, if_pos hj]
  rw [← hlen] at v1
  have t4 : Turned X w W := q3.trans (hW.up : Turned X w3 W) (Newer.refl _ _)
  refine ⟨rfl, v2, X'', ⟨_, _, v1, i1, i2, fun k hk => ?_, he⟩, t4.trans v2 q4, q4.trans v3 t4.size, hsx⟩
  by_cases ek : k = i
  · subst ek
    rw [updR_same]
    refine Nat.le_trans (List.length_filter_le _ _) ?_
    rw [updQ_len]
    exact hB _ hk
  · rw [updR_other ek, updQ_len]
    exact hB k hk

set_option maxRecDepth 100000 in
set_option maxHeartbeats 1600000 in
theorem wlLeave_some (h : WlM w b X m e nB c L D g0 cap gm hb Xh) {j : Nat} (hj : j < L.length) :
    Calls Try.prog 33 #[.pointer (some ⟨b, 0, none⟩), .int .i64 L[j].1] w fun r w' => r = .returned (.tuple #[aggW L[j], .bool true]) ∧
      ∃ X', WlM w' b X' m e nB c (L.eraseIdx j) D g0 cap gm hb Xh ∧ Turned X w w' ∧ Newer X w.heap.size X' ∧ SameAt Xh w w' := by
  have HLT := Lib.hid h.lt
  have HXh := Lib.hid h.due.2
  obtain ⟨R, f, hQ, hI, hF, hB, he⟩ := h
  obtain ⟨v, hv⟩ : ∃ v, L[j] = v := ⟨_, rfl⟩
  have hvL : v ∈ L := by rw [← hv]; exact List.getElem_mem hj
  have hwf : (litN v.1).wf = true := WalkArith.wf_i64 (hI.wf v hvL).1
  obtain ⟨⟨q, t⟩, hf⟩ : ∃ st, f v.1 = some st := by
    cases hf : f v.1 with
    | none => exact absurd rfl (hI.free _ hf v hvL)
    | some st => exact ⟨st, rfl⟩
  obtain ⟨i, hi, x, hx, hqx, A, p, B, hP, hpt, hpa, hpL, _⟩ := hI.of_seat hf
  have hpv : p.2.2 = v := uniq hI.one hpL hvL hpa
  obtain ⟨W, hW⟩ : ∃ W, w.alloc (wtC (0, 0, 0)) = W := ⟨_, rfl⟩
  have T0 : Turned [] w W := hW ▸ (Turned.refl [] w).alloc _
  have K0 : W.heap[w.heap.size]? = some (wtC (0, 0, 0)) := by rw [← hW]; exact heap_alloc_new w _
  have hlt : w.heap.size < W.heap.size := lt_of_block K0
  have HS := Lib.hid (wlSeatQ (hQ.keep0 T0) hwf hf)
  have HO := Lib.hid (fun (w2 : World) (t2 : Turned [] w w2) => And.intro (Wq.fqremove_yes (by have := (hQ.keep0 t2).que hi hx; rw [hP] at this; exact this) t hpt.symm)
    (fun w3 X' p1 t3 n3 => wlOut (w := w2) (w3 := w3) (X' := X') (hQ.keep0 t2) hI hF hB he hi hx hP hj (hv.trans hpv.symm) p1 t3 n3))
  rw [hqx, hpv] at HO
  have HT0 := Lib.hid T0
  have HK0 := Lib.hid K0
  rw [hv]
  clear hQ hI hF hB he hv hvL hf hi hx hqx hP hpt hpa hpL hpv T0 K0
  obtain ⟨v1, v2, v3⟩ := v
  simp only at HS hwf ⊢
  go_enter Try.func33, Try.ntmps33
  go_wp2_with fail
  (try rw [hW])
  clear hW
  with_reducible refine HS.out.mono ?_
  rintro r w1 ⟨rfl, t1⟩
  obtain ⟨w2, hw2⟩ : ∃ w2, w1.alloc (.cells #[.pointer (some ⟨q, 0, none⟩), .int .i64 t] tSt) = w2 := ⟨_, rfl⟩
  have t2 : Turned [] w1 w2 := hw2 ▸ (Turned.refl [] w1).alloc _
  have k2 : w2.heap[w1.heap.size]? = some (.cells #[.pointer (some ⟨q, 0, none⟩), .int .i64 t] tSt (0, 0)) := hw2 ▸ heap_alloc_new w1 _
  obtain ⟨hr, hv⟩ := HO.out w2 ((HT0.out.j t1).j t2)
  have HR := Lib.hid hr
  have HV := Lib.hid hv
  have HT2 := Lib.hid ((HT0.out.j t1).j t2)
  have K2 := Lib.hid ((t1.j t2).same HK0.out (by simp))
  have HZ := Lib.hid (t1.j t2).size
  obtain ⟨d0, d1, _⟩ := two_cells k2
  clear t1 t2 k2 hr hv HO
  go_wp2_with fail
  (try rw [hw2])
  clear hw2
  with_reducible refine HR.out.mono ?_
  rintro r w3 ⟨rfl, X', p1, t3, n3⟩
  obtain ⟨o1, o2, o3, o4⟩ := HV.out w3 X' p1 t3 n3
  obtain ⟨w4, hw4⟩ : ∃ w4, w3.alloc (wtC (v1, v2, v3)) = w4 := ⟨_, rfl⟩
  have t4 : Turned [] w3 w4 := hw4 ▸ (Turned.refl [] w3).alloc _
  have k4 : w4.heap[w3.heap.size]? = some (wtC (v1, v2, v3)) := hw4 ▸ heap_alloc_new w3 _
  have hz := HT2.out.size
  have hz3 := o1.size
  have hz4 := HZ.out
  have nx : w.heap.size ∉ X := fun hx => by have := HLT.out _ hx; omega
  have nx1 : w.heap.size ∉ X ++ X' := fun hx => by
    rcases List.mem_append.1 hx with hx | hx
    · exact nx hx
    · rcases o2 _ hx with h1 | h1
      · exact nx h1
      · omega
  have nx2 : w3.heap.size ∉ X ++ X' := fun hx => by have := o3 _ hx; omega
  have K4 := Lib.hid (t4.same (o1.same K2.out nx) (by simp))
  have HVC := Lib.hid (o4 w4 t4)
  have N1 := Lib.hid nx1
  have N2 := Lib.hid nx2
  have HK4 := Lib.hid k4
  have hne : w.heap.size ≠ w3.heap.size := by omega
  obtain ⟨e0, e1, e2, _⟩ := cells3a k4
  clear p1 t3 n3 o1 o2 o3 o4 t4 k4 nx nx1 nx2 hz hz3 hz4
  go_wp2_with fail
  (try rw [hw4])
  clear hw4
  with_reducible refine HVC.out.mono ?_
  rintro r w5 ⟨rfl, u1, RR⟩
  have k5 := u1.same HK4.out N2.out
  have K5 := u1.same K4.out N1.out
  have MM := Lib.hid K5
  obtain ⟨g0', g1', g2', _⟩ := cells3a k5
  obtain ⟨r0, r1, r2, rf⟩ := cells3a K5
  have rf0 := rf 0
  have rf1 := rf 1
  have rf2 := rf 2
  have HRR := Lib.hid RR
  clear u1 k5 K5 rf RR e0 e1 e2
  go_wp2_with fail
  (try simp only [Exit.inBlock, Exit.then])
  refine bodyPost_ret (wt_result rfl rfl rfl (wt_stored MM.out)) rfl ?_
  obtain ⟨X'', r1, r2, r3, r4⟩ := HRR.out
  have ht3 : Turned [w.heap.size] w5 (((w5.setCell ⟨w.heap.size, 0, none⟩ (.int .i64 v1)).setCell ⟨w.heap.size, 1, none⟩ (.int .i64 v2)).setCell ⟨w.heap.size, 2, none⟩ (.int .u64 v3)) := (Turned.refl _ w5).set3w (.inl (by simp)) _ _ _
  have hz4 := HZ.out
  exact ⟨rfl, X'', r1.keep ht3 (own_off HLT.out r3 (by omega)), ((HT2.out.up : Turned X w w2).trans r2 (Newer.refl _ _)).trans ht3 (fun k hk => .inr (by simp at hk; omega)), r3.mono HT2.out.size, fun k hk => by
    have hkl := HLT.out k (HXh.out k hk)
    exact (ht3.block k (by have := r2.size; have := HT2.out.size; omega) (by simp; omega)).trans ((r4 k hk).trans (HT2.out.block k hkl (by simp)))⟩

set_option maxRecDepth 100000 in
set_option maxHeartbeats 1600000 in
theorem wlLeave_none (h : WlM w b X m e nB c L D g0 cap gm hb Xh) (a : Int) (ha : isI a) (hn : ∀ y ∈ L, y.1 ≠ a) :
    Calls Try.prog 33 #[.pointer (some ⟨b, 0, none⟩), .int .i64 a] w fun r w' => r = .returned (.tuple #[aggW (0, 0, 0), .bool false]) ∧ Turned [] w w' := by
  obtain ⟨R, f, hQ, hI, hF, hB, he⟩ := h
  have hwf : (litN a).wf = true := WalkArith.wf_i64 ha
  have hf := seat_free hI hn
  obtain ⟨W, hW⟩ : ∃ W, w.alloc (wtC (0, 0, 0)) = W := ⟨_, rfl⟩
  have T0 : Turned [] w W := hW ▸ (Turned.refl [] w).alloc _
  have K0 : W.heap[w.heap.size]? = some (wtC (0, 0, 0)) := by rw [← hW]; exact heap_alloc_new w _
  have hlt : w.heap.size < W.heap.size := lt_of_block K0
  have HS := Lib.hid (wlSeatQ0 (hQ.keep0 T0) hwf hf)
  have HT0 := Lib.hid T0
  have HK0 := Lib.hid K0
  clear hQ hI hF hB he hf T0 K0 hn
  go_enter Try.func33, Try.ntmps33
  go_wp2_with fail
  (try rw [hW])
  clear hW
  with_reducible refine HS.out.mono ?_
  rintro r w1 ⟨rfl, t1⟩
  have HT1 := Lib.hid (HT0.out.j t1)
  obtain ⟨w2, hw2⟩ : ∃ w2, w1.alloc (.cells #[.pointer none, .int .i64 0] tSt) = w2 := ⟨_, rfl⟩
  have t2 : Turned [] w1 w2 := hw2 ▸ (Turned.refl [] w1).alloc _
  have k2 : w2.heap[w1.heap.size]? = some (.cells #[.pointer none, .int .i64 0] tSt (0, 0)) := hw2 ▸ heap_alloc_new w1 _
  have HR := Lib.hid (Wq.fqremove_nil 0 w2)
  have HT2 := Lib.hid ((HT0.out.j t1).j t2)
  have K2 := Lib.hid ((t1.j t2).same HK0.out (by simp))
  have HZ := Lib.hid (t1.j t2).size
  obtain ⟨d0, d1, _⟩ := two_cells k2
  have HW2 := Lib.hid hw2
  clear t1 t2 k2 hw2
  go_wp2_with fail
  (try rw [HW2.out])
  with_reducible refine HR.out.mono ?_
  rintro r w3 ⟨rfl, t3⟩
  have hz := HT2.out.size
  have hz3 := t3.size
  have hz4 := HZ.out
  have k3 := t3.same K2.out (by simp)
  have hlt3 : w.heap.size < w3.heap.size := by omega
  have hne : w.heap.size ≠ w3.heap.size := by omega
  have MM := Lib.hid k3
  have HT4 := Lib.hid (HT2.out.j t3)
  obtain ⟨r0, r1, r2, rf⟩ := cells3a k3
  have rf0 := rf 0
  have rf1 := rf 1
  have rf2 := rf 2
  clear t3 k3 rf hz hz3 hz4
  go_wp2_with fail
  (try simp only [Exit.inBlock, Exit.then])
  refine bodyPost_ret (wt_result rfl rfl rfl ((Below.heap_alloc _ _ _ (lt_of_block (wt_stored MM.out))).trans (wt_stored MM.out))) rfl ?_
  exact ⟨rfl, (HT4.out.set3w (.inr (Nat.le_refl _)) _ _ _).alloc _⟩

set_option maxRecDepth 100000 in
set_option maxHeartbeats 1600000 in
theorem wlFirst_some (h : WlM w b X m e nB c L D g0 cap gm hb Xh) {a : Int} {v : Wt} {B' : List Wt} (hk : forK L a = v :: B') {j : Nat} (hj : j < L.length) (hv : L[j] = v) :
    Calls Try.prog 30 #[.pointer (some ⟨b, 0, none⟩), .int .i64 a] w fun r w' => r = .returned (.tuple #[aggW v, .bool true]) ∧
      ∃ X', WlM w' b X' m e nB c (L.eraseIdx j) D g0 cap gm hb Xh ∧ Turned X w w' ∧ Newer X w.heap.size X' := by
  have HLT := Lib.hid h.lt
  obtain ⟨R, f, hQ, hI, hF, hB, he⟩ := h
  have hi := bI_lt hI.n1.1 a
  obtain ⟨i, hii⟩ : ∃ i, bI nB a = i := ⟨_, rfl⟩
  have hva := hI.vals a
  rw [hii] at hi hva
  obtain ⟨x, hlo⟩ : ∃ x, lineOf (R i) a = some x := by
    cases hl : lineOf (R i) a with
    | none => rw [hl, hk] at hva; cases hva
    | some x => exact ⟨x, rfl⟩
  obtain ⟨hx, hxk⟩ := line_some hlo
  rw [hlo, hk] at hva
  obtain ⟨p, B, hP, hpv⟩ : ∃ p B, x.P = [] ++ p :: B ∧ p.2.2 = v := by
    cases hP : x.P with
    | nil => simp [valsL, hP] at hva
    | cons p B => simp [valsL, hP] at hva; exact ⟨p, B, rfl, hva.1⟩
  obtain ⟨W, hW⟩ : ∃ W, w.alloc (wtC (0, 0, 0)) = W := ⟨_, rfl⟩
  have T0 : Turned [] w W := hW ▸ (Turned.refl [] w).alloc _
  have K0 : W.heap[w.heap.size]? = some (wtC (0, 0, 0)) := by rw [← hW]; exact heap_alloc_new w _
  have hlt : w.heap.size < W.heap.size := lt_of_block K0
  have hs := wlQueueQ (hQ.keep0 T0) hI hF a
  obtain ⟨q, hqx⟩ : ∃ q, x.qb = q := ⟨_, rfl⟩
  rw [hii, hlo, show quePtr (some x) = .pointer (some ⟨q, 0, none⟩) from by rw [← hqx]; rfl] at hs
  have HS := Lib.hid hs
  have HO := Lib.hid (fun (w2 : World) (t2 : Turned [] w w2) => And.intro (Wq.fqpop_some (by have := (hQ.keep0 t2).que hi hx; rw [hP, List.nil_append] at this; exact this))
    (fun w3 X' p1 t3 n3 => wlOut (w := w2) (w3 := w3) (X' := X') (hQ.keep0 t2) hI hF hB he hi hx hP hj (hv.trans hpv.symm) p1 t3 n3))
  rw [hqx, hpv] at HO
  have HT0 := Lib.hid T0
  have HK0 := Lib.hid K0
  clear hQ hI hF hB he hv hi hx hqx hP hpv T0 K0 hs hva hxk hlo hii hk
  obtain ⟨v1, v2, v3⟩ := v
  go_enter Try.func30, Try.ntmps30
  go_wp2_with fail
  (try rw [hW])
  clear hW
  with_reducible refine HS.out.mono ?_
  rintro r w2 ⟨rfl, t1⟩
  obtain ⟨hr, hv⟩ := HO.out w2 (HT0.out.j t1)
  have HR := Lib.hid hr
  have HV := Lib.hid hv
  have HT2 := Lib.hid (HT0.out.j t1)
  have K2 := Lib.hid (t1.same HK0.out (by simp))
  have HZ := Lib.hid t1.size
  clear t1 hr hv HO
  go_wp2_with fail
  with_reducible refine HR.out.mono ?_
  rintro r w3 ⟨rfl, X', p1, t3, n3⟩
  obtain ⟨o1, o2, o3, o4⟩ := HV.out w3 X' p1 t3 n3
  obtain ⟨w4, hw4⟩ : ∃ w4, w3.alloc (wtC (v1, v2, v3)) = w4 := ⟨_, rfl⟩
  have t4 : Turned [] w3 w4 := hw4 ▸ (Turned.refl [] w3).alloc _
  have k4 : w4.heap[w3.heap.size]? = some (wtC (v1, v2, v3)) := hw4 ▸ heap_alloc_new w3 _
  have hz := HT2.out.size
  have hz3 := o1.size
  have hz4 := HZ.out
  have nx : w.heap.size ∉ X := fun hx => by have := HLT.out _ hx; omega
  have nx1 : w.heap.size ∉ X ++ X' := fun hx => by
    rcases List.mem_append.1 hx with hx | hx
    · exact nx hx
    · rcases o2 _ hx with h1 | h1
      · exact nx h1
      · omega
  have nx2 : w3.heap.size ∉ X ++ X' := fun hx => by have := o3 _ hx; omega
  have K4 := Lib.hid (t4.same (o1.same K2.out nx) (by simp))
  have HVC := Lib.hid (o4 w4 t4)
  have N1 := Lib.hid nx1
  have N2 := Lib.hid nx2
  have HK4 := Lib.hid k4
  have hne : w.heap.size ≠ w3.heap.size := by omega
  obtain ⟨e0, e1, e2, _⟩ := cells3a k4
  clear p1 t3 n3 o1 o2 o3 o4 t4 k4 nx nx1 nx2 hz hz3 hz4
  go_wp2_with fail
  (try rw [hw4])
  clear hw4
  with_reducible refine HVC.out.mono ?_
  rintro r w5 ⟨rfl, u1, RR⟩
  have k5 := u1.same HK4.out N2.out
  have K5 := u1.same K4.out N1.out
  have MM := Lib.hid K5
  obtain ⟨g0', g1', g2', _⟩ := cells3a k5
  obtain ⟨r0, r1, r2, rf⟩ := cells3a K5
  have rf0 := rf 0
  have rf1 := rf 1
  have rf2 := rf 2
  have HRR := Lib.hid RR
  clear u1 k5 K5 rf RR e0 e1 e2
  go_wp2_with fail
  (try simp only [Exit.inBlock, Exit.then])
  refine bodyPost_ret (wt_result rfl rfl rfl (wt_stored MM.out)) rfl ?_
  obtain ⟨X'', r1, r2, r3, _⟩ := HRR.out
  have ht3 : Turned [w.heap.size] w5 (((w5.setCell ⟨w.heap.size, 0, none⟩ (.int .i64 v1)).setCell ⟨w.heap.size, 1, none⟩ (.int .i64 v2)).setCell ⟨w.heap.size, 2, none⟩ (.int .u64 v3)) := (Turned.refl _ w5).set3w (.inl (by simp)) _ _ _
  have hz4 := HZ.out
  exact ⟨rfl, X'', r1.keep ht3 (own_off HLT.out r3 (by omega)), ((HT2.out.up : Turned X w w2).trans r2 (Newer.refl _ _)).trans ht3 (fun k hk => .inr (by simp at hk; omega)), r3.mono HT2.out.size⟩

set_option maxRecDepth 100000 in
set_option maxHeartbeats 1600000 in
theorem wlFirst_none (h : WlM w b X m e nB c L D g0 cap gm hb Xh) {a : Int} (hk : forK L a = []) :
    Calls Try.prog 30 #[.pointer (some ⟨b, 0, none⟩), .int .i64 a] w fun r w' => r = .returned (.tuple #[aggW (0, 0, 0), .bool false]) ∧ Turned [] w w' := by
  obtain ⟨R, f, hQ, hI, hF, hB, he⟩ := h
  have hi := bI_lt hI.n1.1 a
  have hva := hI.vals a
  have hlo : lineOf (R (bI nB a)) a = none := by
    cases hl : lineOf (R (bI nB a)) a with
    | none => rfl
    | some x =>
      rw [hl, hk] at hva
      exact absurd (by simpa [valsL] using hva) (hF _ hi x (line_some hl).1)
  obtain ⟨W, hW⟩ : ∃ W, w.alloc (wtC (0, 0, 0)) = W := ⟨_, rfl⟩
  have T0 : Turned [] w W := hW ▸ (Turned.refl [] w).alloc _
  have K0 : W.heap[w.heap.size]? = some (wtC (0, 0, 0)) := by rw [← hW]; exact heap_alloc_new w _
  have hlt : w.heap.size < W.heap.size := lt_of_block K0
  have hs := wlQueueQ (hQ.keep0 T0) hI hF a
  rw [hlo, show quePtr none = .pointer none from rfl] at hs
  have HS := Lib.hid hs
  have HT0 := Lib.hid T0
  have HK0 := Lib.hid K0
  clear hQ hI hF hB he T0 K0 hs hva hlo hk
  go_enter Try.func30, Try.ntmps30
  go_wp2_with fail
  (try rw [hW])
  clear hW
  with_reducible refine HS.out.mono ?_
  rintro r w2 ⟨rfl, t1⟩
  have HR := Lib.hid (Wq.fqpop_nil w2)
  have HT2 := Lib.hid (HT0.out.j t1)
  have K2 := Lib.hid (t1.same HK0.out (by simp))
  have HZ := Lib.hid t1.size
  clear t1
  go_wp2_with fail
  with_reducible refine HR.out.mono ?_
  rintro r w3 ⟨rfl, t3⟩
  have hz := HT2.out.size
  have hz3 := t3.size
  have hz4 := HZ.out
  have k3 := t3.same K2.out (by simp)
  have hlt3 : w.heap.size < w3.heap.size := by omega
  have hne : w.heap.size ≠ w3.heap.size := by omega
  have MM := Lib.hid k3
  have HT4 := Lib.hid (HT2.out.j t3)
  obtain ⟨r0, r1, r2, rf⟩ := cells3a k3
  have rf0 := rf 0
  have rf1 := rf 1
  have rf2 := rf 2
  clear t3 k3 rf hz hz3 hz4
  go_wp2_with fail
  (try simp only [Exit.inBlock, Exit.then])
  refine bodyPost_ret (wt_result rfl rfl rfl ((Below.heap_alloc _ _ _ (lt_of_block (wt_stored MM.out))).trans (wt_stored MM.out))) rfl ?_
  exact ⟨rfl, (HT4.out.set3w (.inr (Nat.le_refl _)) _ _ _).alloc _⟩
end
end Go.Proofs.Ytiffgkmmibhklaa
