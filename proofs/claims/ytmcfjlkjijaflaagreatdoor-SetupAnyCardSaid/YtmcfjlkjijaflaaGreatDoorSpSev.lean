/-
  The program reads several groups, several locks. (Made by gen_spsev.py.)
-/
import Derived.Test.YtmcfjlkjijaflaaGreatDoorSpOne
import Derived.Test.YtmcfjlkjijaflaaGreatDoorGAN
import Derived.Test.YtmcfjlkjijaflaaGreatDoorGAR
namespace Go.Proofs.YtmcfjlkjijaflaaGreatDoor
open Go.RowKit

theorem TArg.same {w w' : World} {pb off : Nat} {F : List ByteArray} (h : TArg w pb off F) (e : w'.heap[pb]? = w.heap[pb]?) : TArg w' pb off F := by
  have ec : ∀ o, w'.cell? ⟨pb, o, none⟩ = w.cell? ⟨pb, o, none⟩ := fun o => by simp only [World.cell?, e]
  refine ⟨?_, fun i hi => (ec _).trans (h.cells i hi)⟩
  have h1 := h.lt
  rw [Array.getElem?_eq_getElem h1] at e
  exact lt_of_block e
/-- What readSeveral holds. -/
structure SvI (w wr : World) (b : Nat) (ao : Option Addr) (bw off cap : Nat) (L : List Wd) (s : Rd) (lo hi : Int) (pb fn pc : Nat) (F : List ByteArray) (e : TypeId) (size : Nat) (v : Value) (n : Nat) (xs : List Value) : Prop where
  rd : RwI wr b ao bw off cap L s
  box : wr.heap[w.heap.size]? = some (.cells #[.int .i64 lo, .int .i64 hi, .slice (some ⟨pb, 0, none⟩) fn pc] 117 (0, 0))
  ta : TArg wr pb 0 F
  row : wr.ownsRow w.heap.size e size v n xs
  t : Turned [b] w wr
  l1 : b < w.heap.size
  l2 : pb < w.heap.size
  n1 : pb ≠ b
  ne : e ≠ 117
  bwl : 0 < L.length → bw < w.heap.size
section
variable {w wr wr' : World} {b : Nat} {ao : Option Addr} {bw off cap : Nat} {L : List Wd} {s s' : Rd} {lo hi : Int} {pb fn pc : Nat} {F : List ByteArray} {e : TypeId} {size : Nat} {v : Value} {n : Nat} {xs : List Value}
theorem SvI.moved (h : SvI w wr b ao bw off cap L s lo hi pb fn pc F e size v n xs) (m : RwP b ao bw off cap L s' wr wr') : SvI w wr' b ao bw off cap L s' lo hi pb fn pc F e size v n xs := by
  obtain ⟨m1, m2⟩ := m
  have := h.l1
  have := h.l2
  have hz := h.t.size
  exact ⟨m1, m2.same h.box (by simp; omega), h.ta.same (m2.block _ (by omega) (by simpa using h.n1)), row_turned h.row m2 h.l1, h.t.trans m2 (Newer.refl _ _), h.l1, h.l2, h.n1, h.ne, h.bwl⟩
theorem SvI.below (h : SvI w wr b ao bw off cap L s lo hi pb fn pc F e size v n xs) (hb : Below wr.heap.size wr wr') : SvI w wr' b ao bw off cap L s lo hi pb fn pc F e size v n xs :=
  h.moved ⟨RdI.below h.rd hb, turned_below hb [b]⟩
theorem SvI.push (h : SvI w wr b ao bw off cap L s lo hi pb fn pc F e size v n xs) {w4 : World} {v' : Value} {m : Nat} {ys : List Value} (hown : w4.ownsRow w.heap.size e size v' (n + m) (xs ++ ys)) (hg : wr.grownBy w4 v.ownBlock) : SvI w w4 b ao bw off cap L s lo hi pb fn pc F e size v' (n + m) (xs ++ ys) := by
  have hb : Below w.heap.size wr w4 := app_below (Below.refl _ _) h.t.size (Nat.le_refl _) h.row hg
  have h1 := h.l1
  have h2 := h.l2
  refine ⟨⟨(hb.block _ h1).trans h.rd.rd, h.rd.ws.same (fun h0 => ?_), h.rd.ne, h.rd.le, h.rd.len⟩, ?_, h.ta.same (hb.block _ h2), hown, ⟨hb.os.trans h.t.os, hb.tape.trans h.t.tape, hb.output.trans h.t.output, Nat.le_trans h.t.size hb.size, fun k hk hx => (hb.block k hk).trans (h.t.block k hk hx)⟩, h1, h2, h.n1, h.ne, h.bwl⟩
  · exact hb.block _ (h.bwl h0)
  · refine (hg.block _ (lt_of_block h.box) (block_off h.box h.row h.ne.symm)).trans h.box
end
/-- Groups so far. -/
def GI (L : List Wd) (G : List Int × Rd) (s : Rd) (gs : List Int) : Prop := (s.2 = 0 ∧ gs.length ≤ 4 ∧ ∃ n, 6 = n + gs.length ∧ groupsS L n s gs = G) ∨ (s.2 ≠ 0 ∧ gs.length ≤ 5 ∧ s = G.2)
theorem isS_dead {L : List Wd} {s : Rd} (h : s.2 ≠ 0) (k : Int) (t : List By) : isS L s k t = false := by
  unfold isS
  rw [decide_eq_false h, Bool.false_and]
theorem groupsS_dead {L : List Wd} {n : Nat} {s : Rd} {gs : List Int} (h : s.2 ≠ 0) : groupsS L n s gs = (gs, s) := by
  cases n with
  | zero => rfl
  | succ n =>
    unfold groupsS
    rw [if_neg]
    rintro (h1 | h1)
    · rw [isS_dead h] at h1
      cases h1
    · exact h h1.2
theorem locksS_dead {L : List Wd} {n : Nat} {s : Rd} {ls : List Lk} (h : s.2 ≠ 0) : locksS L n s ls = (ls, s) := by
  cases n with
  | zero => rfl
  | succ n =>
    unfold locksS
    rw [if_neg]
    rintro (h1 | h1) <;>
    · rw [isS_dead h] at h1
      cases h1
theorem GI.step {L : List Wd} {G : List Int × Rd} {s : Rd} {gs : List Int} (h : GI L G s gs) (h0 : s.2 = 0) (hc : isS L s 1 groupB = true ∨ gs.length = 0) (h4 : gs.length ≠ 4) : GI L G (needS L (fieldS L s groupB 16).2 3 [59]) (gs ++ [(fieldS L s groupB 16).1]) := by
  rcases h with ⟨_, hl, n, hn, hG⟩ | ⟨h1, _⟩
  · obtain ⟨m, rfl⟩ : ∃ m, n = m + 1 := ⟨n - 1, by omega⟩
    unfold groupsS at hG
    rw [if_pos (by rcases hc with h | h; exact .inl h; exact .inr ⟨h, h0⟩), if_neg (by rintro ⟨_, h⟩; omega)] at hG
    by_cases hd : (needS L (fieldS L s groupB 16).2 3 [59]).2 = 0
    · exact .inl ⟨hd, by simp; omega, m, by simp; omega, hG⟩
    · rw [groupsS_dead hd] at hG
      exact .inr ⟨hd, by simp; omega, by rw [← hG]⟩
  · exact absurd h0 h1
theorem GI.full {L : List Wd} {G : List Int × Rd} {s : Rd} {gs : List Int} (h : GI L G s gs) (h0 : s.2 = 0) (hc : isS L s 1 groupB = true) (h4 : gs.length = 4) (x : Int) : GI L G (s.1, 6) (gs ++ [x]) := by
  rcases h with ⟨_, hl, n, hn, hG⟩ | ⟨h1, _⟩
  · obtain ⟨m, rfl⟩ : ∃ m, n = m + 1 := ⟨n - 1, by omega⟩
    unfold groupsS at hG
    rw [if_pos (.inl hc), if_pos ⟨hc, by omega⟩] at hG
    exact .inr ⟨by show (6 : Int) ≠ 0; decide, by simp; omega, by rw [← hG]⟩
  · exact absurd h0 h1
theorem GI.stop {L : List Wd} {G : List Int × Rd} {s : Rd} {gs : List Int} (h : GI L G s gs) (h0 : s.2 = 0) (hc : ¬ isS L s 1 groupB = true) (h4 : gs.length ≠ 0) : G = (gs, s) := by
  rcases h with ⟨_, hl, n, hn, hG⟩ | ⟨h1, _⟩
  · obtain ⟨m, rfl⟩ : ∃ m, n = m + 1 := ⟨n - 1, by omega⟩
    unfold groupsS at hG
    rw [if_neg (by rintro (h | h); exact hc h; exact h4 h.1)] at hG
    exact hG.symm
  · exact absurd h0 h1
theorem GI.len {L : List Wd} {G : List Int × Rd} {s : Rd} {gs : List Int} (h : GI L G s gs) : gs.length ≤ 5 ∧ (s.2 = 0 → gs.length ≤ 4) := by
  rcases h with ⟨_, h, _⟩ | ⟨h0, h, _⟩
  · exact ⟨by omega, fun _ => h⟩
  · exact ⟨h, fun e => absurd e h0⟩
theorem GI.dead {L : List Wd} {G : List Int × Rd} {s : Rd} {gs : List Int} (h : GI L G s gs) (h0 : s.2 ≠ 0) : s = G.2 := by
  rcases h with ⟨h1, _⟩ | ⟨_, _, h⟩
  · exact absurd h1 h0
  · exact h
/-- Locks so far. -/
def LI (L : List Wd) (G : List Lk × Rd) (s : Rd) (gs : List Lk) : Prop := (s.2 = 0 ∧ gs.length ≤ 8 ∧ ∃ n, 10 = n + gs.length ∧ locksS L n s gs = G) ∨ (s.2 ≠ 0 ∧ gs.length ≤ 9 ∧ s = G.2)
theorem LI.step {L : List Wd} {G : List Lk × Rd} {s : Rd} {gs : List Lk} (h : LI L G s gs) (h0 : s.2 = 0) (hc : isS L s 1 lockB = true ∨ isS L s 1 sharedB = true) (h4 : gs.length ≠ 8) : LI L G (lockQ L s).2 (gs ++ [(lockQ L s).1]) := by
  rcases h with ⟨_, hl, n, hn, hG⟩ | ⟨h1, _⟩
  · obtain ⟨m, rfl⟩ : ∃ m, n = m + 1 := ⟨n - 1, by omega⟩
    unfold locksS at hG
    rw [if_pos hc, if_neg (by omega), ← lockQ_live hc] at hG
    by_cases hd : (lockQ L s).2.2 = 0
    · exact .inl ⟨hd, by simp; omega, m, by simp; omega, hG⟩
    · rw [locksS_dead hd] at hG
      exact .inr ⟨hd, by simp; omega, by rw [← hG]⟩
  · exact absurd h0 h1
theorem LI.full {L : List Wd} {G : List Lk × Rd} {s : Rd} {gs : List Lk} (h : LI L G s gs) (h0 : s.2 = 0) (hc : isS L s 1 lockB = true ∨ isS L s 1 sharedB = true) (h4 : gs.length = 8) (x : Lk) : LI L G (s.1, 6) (gs ++ [x]) := by
  rcases h with ⟨_, hl, n, hn, hG⟩ | ⟨h1, _⟩
  · obtain ⟨m, rfl⟩ : ∃ m, n = m + 1 := ⟨n - 1, by omega⟩
    unfold locksS at hG
    rw [if_pos hc, if_pos (by omega)] at hG
    exact .inr ⟨by show (6 : Int) ≠ 0; decide, by simp; omega, by rw [← hG]⟩
  · exact absurd h0 h1
theorem LI.stop {L : List Wd} {G : List Lk × Rd} {s : Rd} {gs : List Lk} (h : LI L G s gs) (h0 : s.2 = 0) (hc : ¬ (isS L s 1 lockB = true ∨ isS L s 1 sharedB = true)) : G = (gs, s) := by
  rcases h with ⟨_, hl, n, hn, hG⟩ | ⟨h1, _⟩
  · obtain ⟨m, rfl⟩ : ∃ m, n = m + 1 := ⟨n - 1, by omega⟩
    unfold locksS at hG
    rw [if_neg hc] at hG
    exact hG.symm
  · exact absurd h0 h1
theorem LI.len {L : List Wd} {G : List Lk × Rd} {s : Rd} {gs : List Lk} (h : LI L G s gs) : gs.length ≤ 9 ∧ (s.2 = 0 → gs.length ≤ 8) := by
  rcases h with ⟨_, h, _⟩ | ⟨h0, h, _⟩
  · exact ⟨by omega, fun _ => h⟩
  · exact ⟨h, fun e => absurd e h0⟩
theorem LI.dead {L : List Wd} {G : List Lk × Rd} {s : Rd} {gs : List Lk} (h : LI L G s gs) (h0 : s.2 ≠ 0) : s = G.2 := by
  rcases h with ⟨h1, _⟩ | ⟨_, _, h⟩
  · exact absurd h1 h0
  · exact h
theorem first_is {L : List Wd} (hL : Clean L) {s : Rd} (h : s.2 = 0) (f : ByteArray) : firstOf (nextR L s.1) f = isS L s 1 f.data.toList := by
  unfold firstOf isS
  rw [is_next hL (.inl rfl), decide_eq_true h, Bool.true_and]
/-- Is a group ahead? -/
theorem group_first {L : List Wd} (hL : Clean L) {s : Rd} (h : s.2 = 0) {q : Bool} (hq : ([⟨#[103, 114, 111, 117, 112]⟩] : List ByteArray).any (firstOf (nextR L s.1)) = q) : (isS L s 1 groupB = true ↔ q = true) := by
  simp only [List.any_cons, List.any_nil, Bool.or_false, first_is hL h] at hq
  rw [← hq]
theorem lock_first {L : List Wd} (hL : Clean L) {s : Rd} (h : s.2 = 0) {q : Bool} (hq : ([⟨#[108, 111, 99, 107]⟩, ⟨#[115, 104, 97, 114, 101, 100]⟩] : List ByteArray).any (firstOf (nextR L s.1)) = q) : ((isS L s 1 lockB = true ∨ isS L s 1 sharedB = true) ↔ q = true) := by
  simp only [List.any_cons, List.any_nil, Bool.or_false, first_is hL h] at hq
  rw [← hq, Bool.or_eq_true]
theorem gC_one' (x : Int) : ∀ u ∈ gC x, u.oneCell' = true := gC_one x
theorem lkC_one' (x : Lk) : ∀ u ∈ lkC x, u.oneCell' = true := by
  intro u hu
  simp only [lkC, List.mem_cons, List.not_mem_nil, or_false] at hu
  rcases hu with rfl | rfl | rfl | rfl | rfl <;> rfl
theorem sevint_new (W : World) (x : Int) : ∀ (j : Nat) (u : Value), (gC x)[j]? = some u → (W.alloc (.cells #[.int .i64 x] 3)).cell? ((⟨W.heap.size, 0, none⟩ : Addr).add j) = some u := by
  intro j u hu
  have h := heap_alloc_new W (.cells #[.int .i64 x] 3)
  have e : ((⟨W.heap.size, 0, none⟩ : Addr).add j) = ⟨W.heap.size, j, none⟩ := by
    cases j <;> simp [Addr.add]
  rw [e]
  have hj : j < 1 := by
    obtain ⟨hj, -⟩ := List.getElem?_eq_some_iff.1 hu
    simpa [gC] using hj
  rw [cell_at h (by simpa using hj)]
  have := (List.getElem?_eq_some_iff.1 hu).2
  simpa [gC] using this
theorem sevlock_new (W : World) (x : Lk) : ∀ (j : Nat) (u : Value), (lkC x)[j]? = some u → (W.alloc (.cells #[.bool x.1, .int .i64 x.2.1, .int .i64 x.2.2.1, .int .i64 x.2.2.2.1, .int .i64 x.2.2.2.2] 48)).cell? ((⟨W.heap.size, 0, none⟩ : Addr).add j) = some u := by
  intro j u hu
  have h := heap_alloc_new W (.cells #[.bool x.1, .int .i64 x.2.1, .int .i64 x.2.2.1, .int .i64 x.2.2.2.1, .int .i64 x.2.2.2.2] 48)
  have e : ((⟨W.heap.size, 0, none⟩ : Addr).add j) = ⟨W.heap.size, j, none⟩ := by
    cases j <;> simp [Addr.add]
  rw [e]
  have hj : j < 5 := by
    obtain ⟨hj, -⟩ := List.getElem?_eq_some_iff.1 hu
    simpa [lkC] using hj
  rw [cell_at h (by simpa using hj)]
  have := (List.getElem?_eq_some_iff.1 hu).2
  simpa [lkC] using this
/-- What it leaves. -/
def Sevint (L : List Wd) (G : List Int × Rd) (w : World) (b : Nat) (ao : Option Addr) (bw off cap : Nat) (r : Ending) (w' : World) : Prop :=
  ∃ v gs s, r = .returned v ∧ w'.ownsRow w.heap.size 3 1 v gs.length (cellsOf gC gs) ∧ RwP b ao bw off cap L s w w' ∧ s = G.2 ∧ (s.2 = 0 → gs = G.1) ∧ gs.length ≤ 5
set_option maxRecDepth 100000 in
set_option maxHeartbeats 12800000 in
theorem sevint_any {w : World} {b : Nat} {ao : Option Addr} {bw off cap : Nat} {L : List Wd} {s0 : Rd} (pb pc : Nat) (h : RwI w b ao bw off cap L s0) (hL : Clean L) (hp : TArg w pb 0 [⟨#[103, 114, 111, 117, 112]⟩]) (hpb : pb ≠ b) :
    Calls Tryz.prog 72 #[.pointer (some ⟨b, 0, none⟩), .agg #[.int .i64 1, .int .i64 4, .slice (some ⟨pb, 0, none⟩) 1 pc], .func (.func 73) #[] #[]] w (Sevint L (groupsS L 6 s0 []) w b ao bw off cap) := by
  obtain ⟨i0, hi0, hz0, hz1, hz2⟩ := info_parts int_info
  have HST : Hid (SvI w (w.alloc (.cells #[.int .i64 1, .int .i64 4, .slice (some ⟨pb, 0, none⟩) 1 pc] 117)) b ao bw off cap L s0 1 4 pb 1 pc [⟨#[103, 114, 111, 117, 112]⟩] 3 1 (.slice none 0 0) ([] : List Int).length (cellsOf gC [])) := Lib.hid (by
    have hb : Below w.heap.size w (w.alloc (.cells #[.int .i64 1, .int .i64 4, .slice (some ⟨pb, 0, none⟩) 1 pc] 117)) := (Below.refl _ w).alloc (Nat.le_refl _) _
    exact ⟨RdI.below h hb, heap_alloc_new _ _, hp.below hb, World.ownsRow_nil _ _ _ _, turned_below hb _, lt_of_block h.rd, hp.lt, hpb, by decide, fun h0 => (h.ws.at_ h0).2⟩)
  have HNX := Lib.hid (fun V (s : Rd) (hV : RwI V b ao bw off cap L s) => next_any hV)
  have HBG := Lib.hid (fun V (x : Wd) (hV : TArg V pb 0 [⟨#[103, 114, 111, 117, 112]⟩]) => (show Calls Tryz.prog 106 #[.agg #[.int .i64 1, .int .i64 4, .slice (some ⟨pb, 0, none⟩) 1 pc], wdV x] V fun e w' => e = .returned (.bool (([⟨#[103, 114, 111, 117, 112]⟩] : List ByteArray).any (firstOf x))) ∧ Below V.heap.size V w' from begins_any 1 4 pb 0 pc x [⟨#[103, 114, 111, 117, 112]⟩] V hV (by simp)))
  have HRD := Lib.hid (fun V (s : Rd) (hV : RwI V b ao bw off cap L s) => readgroup_any hV hL)
  have HCL := Lib.hid hL
  obtain ⟨G, hG⟩ : ∃ G, groupsS L 6 s0 [] = G := ⟨_, rfl⟩
  have HR0 : Hid (GI L G s0 []) := Lib.hid (by
    by_cases h0 : s0.2 = 0
    · exact .inl ⟨h0, by simp, 6, by simp, hG⟩
    · rw [groupsS_dead h0] at hG
      exact .inr ⟨h0, by simp, by rw [← hG]⟩)
  rw [hG]
  clear h hL hp hpb hG
  go_enter Tryz.func72, Tryz.ntmps72
  go_wp2_with fail
  go_loopw [7] (fun l' wr => ∃ (s : Rd) (gs : List Int), Hid (SvI w wr b ao bw off cap L s 1 4 pb 1 pc [⟨#[103, 114, 111, 117, 112]⟩] 3 1 l' gs.length (cellsOf gC gs)) ∧ Hid (GI L G s gs)) (fun l' _ => 6 - lenOf l')
  case atStart => exact ⟨s0, [], HST, HR0⟩
  case round =>
    obtain ⟨s, gs, HI, HR⟩ := hrel
    obtain ⟨aov, capv, hv, _⟩ := ownsRow_shape HI.out.row
    subst hv
    obtain ⟨hlm, hl4⟩ := HR.out.len
    obtain ⟨m, hm⟩ : ∃ m, gs.length = m := ⟨_, rfl⟩
    have HM := Lib.hid hm
    rw [hm] at HI hlm hl4 ⊢
    obtain ⟨p0, p1, p2⟩ := three_cells HI.out.box
    clear hm
    by_cases h0 : s.2 = 0
    · have HGL := Lib.hid (fun V (hV : Below wr.heap.size wr V) => (by
        have k := (HI.out.below hV).rd.rd
        rw [h0] at k
        exact goes_live k : Calls Tryz.prog 105 #[.pointer (some ⟨b, 0, none⟩)] V _))
      have hl4 := hl4 h0
      by_cases hm0 : m = 0
      · have hg1 : (m : Int) < 1 := by omega
        have hg2 : decide ((m : Int) < 1) = true := by simp; omega
        have hmb : ((m : Int) == 4) = false := by simp; omega
        have HM0 := Lib.hid hm0
        clear hm0
        go_wp2_with fail
        go_quiet ((go_at_call 105; exact Calls.quiet_of_same (HGL.out _ (below_drewN (Below.refl _ _) _))))
        have HI7 := Lib.hid (HI.out.below (below_drewN (Below.refl _ _) nq))
        obtain ⟨x, s1, hx⟩ : ∃ x s1, (fieldS L s groupB 16).1 = x ∧ needS L (fieldS L s groupB 16).2 3 [59] = s1 := ⟨_, _, rfl, rfl⟩
        have hst := HR.out.step h0 (.inr (by rw [HM.out]; exact HM0.out)) (by rw [HM.out]; omega)
        rw [hx.1, hx.2] at hst
        have HRN := Lib.hid hst
        have hrd := HRD.out _ s HI7.out.rd
        rw [hx.1, hx.2] at hrd
        have HRX := Lib.hid hrd
        clear hst hrd hx p0 p1 p2
        obtain ⟨p0, p1, p2⟩ := three_cells HI7.out.box
        go_wp2_with fail
        refine HRX.out.mono ?_
        rintro r w8 ⟨rfl, hm8⟩
        clear p0 p1 p2
        have HI8 := Lib.hid (HI7.out.moved hm8)
        clear hm8
        go_wp2_with (at_builtin; refine wpList_append_own _ rfl _ _ 22 rfl w.heap.size 3 i0 (.int .i64 0) 1 8 Tryz.underlying22 hi0 hz0 hz1 hz2 rfl (by decide) _ _ _ rfl (HI8.out.below ((Below.refl _ _).alloc (Nat.le_refl _) _)).row ⟨_, 0, none⟩ 1 1 (gC x) rfl rfl ?c1 ?c2 ?c3 ?c4 ?c5 ?_)
        case c1 => exact sevint_new _ _
        case c2 => exact gC_one' x
        case c3 => (have := HM.out; unfold maxLen; omega)
        case c4 => (have := HM.out; omega)
        case c5 => exact Nat.le_trans HI8.out.t.size (by simp)
        intro v' w6 hown hgrow _
        have hin := (HI8.out.below ((Below.refl _ _).alloc (Nat.le_refl _) _)).push hown hgrow
        rw [← cellsOf_snoc, show m + 1 = (gs ++ [x]).length by simp [HM.out]] at hin
        have HIN := Lib.hid hin
        obtain ⟨ao4, cap4, hv4, _⟩ := ownsRow_shape hown
        subst hv4
        clear hown hgrow hin
        go_wp2
        go_roundw
        case rel => exact ⟨_, _, HIN, HRN⟩
        case measure => (have := HM.out; simp [lenOf]; omega)
      · have hg1 : ¬ (m : Int) < 1 := by omega
        have hg2 : decide ((m : Int) < 1) = false := by simp; omega
        have hnx := HNX.out
        obtain ⟨y, hy⟩ : ∃ y, nextR L s.1 = y := ⟨_, rfl⟩
        obtain ⟨q, hq⟩ : ∃ q, ([⟨#[103, 114, 111, 117, 112]⟩] : List ByteArray).any (firstOf y) = q := ⟨_, rfl⟩
        have HQI := Lib.hid (group_first HCL.out h0 (q := q) (by rw [hy]; exact hq))
        have hnx := fun V hV => HNX.out V s hV
        have hbg := fun V hV => HBG.out V y hV
        simp only [hy] at hnx
        simp only [hq] at hbg
        unfold wdV at hnx hbg
        obtain ⟨ty, hty⟩ : ∃ t : ByteArray, ⟨y.2.1.toArray⟩ = t := ⟨_, rfl⟩
        simp only [hty] at hnx hbg
        obtain ⟨y0, _, y2, y3⟩ := y
        simp only at hnx hbg
        have HNXX := Lib.hid hnx
        have HBGG := Lib.hid hbg
        have HID := Lib.hid (HI.out.below (Below.refl _ _).drew)
        have s0 := three_cells HID.out.box
        clear hnx hbg hy hq hty
        go_wp2_with fail
        go_region_held3 (fun V => V.cell? ⟨w.heap.size, 0, none⟩ = some (.int .i64 1) ∧ V.cell? ⟨w.heap.size, 1, none⟩ = some (.int .i64 4) ∧ V.cell? ⟨w.heap.size, 2, none⟩ = some (.slice (some ⟨pb, 0, none⟩) 1 pc))
          (first | exact s0 | exact s1 | exact s2)
          (first
            | (go_at_call 105
               with_reducible refine (HGL.out _ (Below.refl _ _).drew).mono ?_
               rintro r V1 ⟨rfl, rfl⟩)
            | (go_at_call 107
               with_reducible refine (HNXX.out _ HID.out.rd).mono ?_
               rintro r V1 ⟨rfl, hb⟩
               have HI5 := Lib.hid (HID.out.below hb)
               have s1 := three_cells HI5.out.box
               clear hb)
            | (go_at_call 106
               with_reducible refine (HBGG.out _ HI5.out.ta).mono ?_
               rintro r V2 ⟨rfl, hb⟩
               have HI7 := Lib.hid (HI5.out.below hb)
               have s2 := three_cells HI7.out.box
               clear hb))
        clear s0 s1 p0 p1 p2
        obtain ⟨p0, p1, p2⟩ := s2
        cases q with
        | false =>
          have HE := Lib.hid (HR.out.stop h0 (fun hh => by have := (HQI.out).1 hh; cases this) (by rw [HM.out]; exact hm0))
          clear p0 p1 p2
          go_wp2
          go_ret
          exact ⟨_, gs, s, rfl, by rw [HM.out]; exact HI7.out.row, ⟨HI7.out.rd, HI7.out.t⟩, by rw [HE.out], fun _ => by rw [HE.out], by rw [HM.out]; omega⟩
        | true =>
          by_cases hmx : m = 4
          · have hmb : ((m : Int) == 4) = true := by simp; omega
            have HMX := Lib.hid hmx
            clear hmx
            have hrr := HI7.out.rd.rd
            rw [h0] at hrr
            have HFX := Lib.hid (fail_live hrr 6)
            have hle := HI7.out.rd.le
            clear hrr
            go_wp2_with fail
            with_reducible refine HFX.out.mono ?_
            rintro r w7 ⟨rfl, hr7, ht7⟩
            clear p0 p1 p2
            have HI7b := Lib.hid (HI7.out.moved (s' := (s.1, 6)) ⟨HI7.out.rd.turned ht7 hr7 hle, ht7⟩)
            clear hr7 ht7 hle
            obtain ⟨x, hx⟩ : ∃ x, (fieldS L (s.1, 6) groupB 16).1 = x := ⟨_, rfl⟩
            have HRN := Lib.hid (HR.out.full h0 (by first | exact (HQI.out).2 rfl | exact (HQI.out).2 trivial) (HM.out.trans HMX.out) x)
            have hrd := HRD.out _ (s.1, 6) HI7b.out.rd
            rw [hx, fieldS_dead (by show (6 : Int) ≠ 0; decide), needS_dead (by show (6 : Int) ≠ 0; decide)] at hrd
            have HRX := Lib.hid hrd
            clear hrd hx
            go_wp2_with fail
            refine HRX.out.mono ?_
            rintro r w8 ⟨rfl, hm8⟩
            have HI8 := Lib.hid (HI7b.out.moved hm8)
            clear hm8
            go_wp2_with (at_builtin; refine wpList_append_own _ rfl _ _ 22 rfl w.heap.size 3 i0 (.int .i64 0) 1 8 Tryz.underlying22 hi0 hz0 hz1 hz2 rfl (by decide) _ _ _ rfl (HI8.out.below ((Below.refl _ _).alloc (Nat.le_refl _) _)).row ⟨_, 0, none⟩ 1 1 (gC x) rfl rfl ?c1 ?c2 ?c3 ?c4 ?c5 ?_)
            case c1 => exact sevint_new _ _
            case c2 => exact gC_one' x
            case c3 => (have := HM.out; unfold maxLen; omega)
            case c4 => (have := HM.out; omega)
            case c5 => exact Nat.le_trans HI8.out.t.size (by simp)
            intro v' w6 hown hgrow _
            have hin := (HI8.out.below ((Below.refl _ _).alloc (Nat.le_refl _) _)).push hown hgrow
            rw [← cellsOf_snoc, show m + 1 = (gs ++ [x]).length by simp [HM.out]] at hin
            have HIN := Lib.hid hin
            obtain ⟨ao4, cap4, hv4, _⟩ := ownsRow_shape hown
            subst hv4
            clear hown hgrow hin
            go_wp2
            go_roundw
            case rel => exact ⟨_, _, HIN, HRN⟩
            case measure => (have := HM.out; simp [lenOf]; omega)
          · have hmb : ((m : Int) == 4) = false := by simp; omega
            obtain ⟨x, s1, hx⟩ : ∃ x s1, (fieldS L s groupB 16).1 = x ∧ needS L (fieldS L s groupB 16).2 3 [59] = s1 := ⟨_, _, rfl, rfl⟩
            have hst := HR.out.step h0 (.inl (by first | exact (HQI.out).2 rfl | exact (HQI.out).2 trivial)) (by rw [HM.out]; omega)
            rw [hx.1, hx.2] at hst
            have HRN := Lib.hid hst
            have hrd := HRD.out _ s HI7.out.rd
            rw [hx.1, hx.2] at hrd
            have HRX := Lib.hid hrd
            clear hst hrd hx p0 p1 p2
            obtain ⟨p0, p1, p2⟩ := three_cells HI7.out.box
            go_wp2_with fail
            refine HRX.out.mono ?_
            rintro r w8 ⟨rfl, hm8⟩
            clear p0 p1 p2
            have HI8 := Lib.hid (HI7.out.moved hm8)
            clear hm8
            go_wp2_with (at_builtin; refine wpList_append_own _ rfl _ _ 22 rfl w.heap.size 3 i0 (.int .i64 0) 1 8 Tryz.underlying22 hi0 hz0 hz1 hz2 rfl (by decide) _ _ _ rfl (HI8.out.below ((Below.refl _ _).alloc (Nat.le_refl _) _)).row ⟨_, 0, none⟩ 1 1 (gC x) rfl rfl ?c1 ?c2 ?c3 ?c4 ?c5 ?_)
            case c1 => exact sevint_new _ _
            case c2 => exact gC_one' x
            case c3 => (have := HM.out; unfold maxLen; omega)
            case c4 => (have := HM.out; omega)
            case c5 => exact Nat.le_trans HI8.out.t.size (by simp)
            intro v' w6 hown hgrow _
            have hin := (HI8.out.below ((Below.refl _ _).alloc (Nat.le_refl _) _)).push hown hgrow
            rw [← cellsOf_snoc, show m + 1 = (gs ++ [x]).length by simp [HM.out]] at hin
            have HIN := Lib.hid hin
            obtain ⟨ao4, cap4, hv4, _⟩ := ownsRow_shape hown
            subst hv4
            clear hown hgrow hin
            go_wp2
            go_roundw
            case rel => exact ⟨_, _, HIN, HRN⟩
            case measure => (have := HM.out; simp [lenOf]; omega)
    · have hd := HR.out.dead h0
      have HGD := Lib.hid (fun V (hV : Below wr.heap.size wr V) => goes_dead h0 (HI.out.below hV).rd.rd)
      have HD := Lib.hid hd
      have H0 := Lib.hid h0
      clear hd p0 p1 p2 h0
      go_wp2_with fail
      go_quiet ((go_at_call 105; exact Calls.quiet_of_same (HGD.out _ (below_drewN (Below.refl _ _) _))))
      have HI7 := Lib.hid (HI.out.below (below_drewN (Below.refl _ _) nq))
      go_wp2
      go_ret
      exact ⟨_, gs, s, rfl, by rw [HM.out]; exact HI7.out.row, ⟨HI7.out.rd, HI7.out.t⟩, HD.out, fun e => absurd e H0.out, by rw [HM.out]; omega⟩
/-- What it leaves. -/
def Sevlock (L : List Wd) (G : List Lk × Rd) (w : World) (b : Nat) (ao : Option Addr) (bw off cap : Nat) (r : Ending) (w' : World) : Prop :=
  ∃ v gs s, r = .returned v ∧ w'.ownsRow w.heap.size 48 5 v gs.length (cellsOf lkC gs) ∧ RwP b ao bw off cap L s w w' ∧ s = G.2 ∧ (s.2 = 0 → gs = G.1) ∧ gs.length ≤ 9
set_option maxRecDepth 100000 in
set_option maxHeartbeats 12800000 in
theorem sevlock_any {w : World} {b : Nat} {ao : Option Addr} {bw off cap : Nat} {L : List Wd} {s0 : Rd} (pb pc : Nat) (h : RwI w b ao bw off cap L s0) (hL : Clean L) (hp : TArg w pb 0 [⟨#[108, 111, 99, 107]⟩, ⟨#[115, 104, 97, 114, 101, 100]⟩]) (hpb : pb ≠ b) :
    Calls Tryz.prog 74 #[.pointer (some ⟨b, 0, none⟩), .agg #[.int .i64 0, .int .i64 8, .slice (some ⟨pb, 0, none⟩) 2 pc], .func (.func 75) #[] #[]] w (Sevlock L (locksS L 10 s0 []) w b ao bw off cap) := by
  obtain ⟨i0, hi0, hz0, hz1, hz2⟩ := info_parts lock_info
  have HST : Hid (SvI w (w.alloc (.cells #[.int .i64 0, .int .i64 8, .slice (some ⟨pb, 0, none⟩) 2 pc] 117)) b ao bw off cap L s0 0 8 pb 2 pc [⟨#[108, 111, 99, 107]⟩, ⟨#[115, 104, 97, 114, 101, 100]⟩] 48 5 (.slice none 0 0) ([] : List Lk).length (cellsOf lkC [])) := Lib.hid (by
    have hb : Below w.heap.size w (w.alloc (.cells #[.int .i64 0, .int .i64 8, .slice (some ⟨pb, 0, none⟩) 2 pc] 117)) := (Below.refl _ w).alloc (Nat.le_refl _) _
    exact ⟨RdI.below h hb, heap_alloc_new _ _, hp.below hb, World.ownsRow_nil _ _ _ _, turned_below hb _, lt_of_block h.rd, hp.lt, hpb, by decide, fun h0 => (h.ws.at_ h0).2⟩)
  have HNX := Lib.hid (fun V (s : Rd) (hV : RwI V b ao bw off cap L s) => next_any hV)
  have HBG := Lib.hid (fun V (x : Wd) (hV : TArg V pb 0 [⟨#[108, 111, 99, 107]⟩, ⟨#[115, 104, 97, 114, 101, 100]⟩]) => (show Calls Tryz.prog 106 #[.agg #[.int .i64 0, .int .i64 8, .slice (some ⟨pb, 0, none⟩) 2 pc], wdV x] V fun e w' => e = .returned (.bool (([⟨#[108, 111, 99, 107]⟩, ⟨#[115, 104, 97, 114, 101, 100]⟩] : List ByteArray).any (firstOf x))) ∧ Below V.heap.size V w' from begins_any 0 8 pb 0 pc x [⟨#[108, 111, 99, 107]⟩, ⟨#[115, 104, 97, 114, 101, 100]⟩] V hV (by simp)))
  have HRD := Lib.hid (fun V (s : Rd) (hV : RwI V b ao bw off cap L s) => readlock_any hV hL)
  have HCL := Lib.hid hL
  obtain ⟨G, hG⟩ : ∃ G, locksS L 10 s0 [] = G := ⟨_, rfl⟩
  have HR0 : Hid (LI L G s0 []) := Lib.hid (by
    by_cases h0 : s0.2 = 0
    · exact .inl ⟨h0, by simp, 10, by simp, hG⟩
    · rw [locksS_dead h0] at hG
      exact .inr ⟨h0, by simp, by rw [← hG]⟩)
  rw [hG]
  clear h hL hp hpb hG
  go_enter Tryz.func74, Tryz.ntmps74
  go_wp2_with fail
  go_loopw [7] (fun l' wr => ∃ (s : Rd) (gs : List Lk), Hid (SvI w wr b ao bw off cap L s 0 8 pb 2 pc [⟨#[108, 111, 99, 107]⟩, ⟨#[115, 104, 97, 114, 101, 100]⟩] 48 5 l' gs.length (cellsOf lkC gs)) ∧ Hid (LI L G s gs)) (fun l' _ => 10 - lenOf l')
  case atStart => exact ⟨s0, [], HST, HR0⟩
  case round =>
    obtain ⟨s, gs, HI, HR⟩ := hrel
    obtain ⟨aov, capv, hv, _⟩ := ownsRow_shape HI.out.row
    subst hv
    obtain ⟨hlm, hl4⟩ := HR.out.len
    obtain ⟨m, hm⟩ : ∃ m, gs.length = m := ⟨_, rfl⟩
    have HM := Lib.hid hm
    rw [hm] at HI hlm hl4 ⊢
    obtain ⟨p0, p1, p2⟩ := three_cells HI.out.box
    clear hm
    by_cases h0 : s.2 = 0
    · have HGL := Lib.hid (fun V (hV : Below wr.heap.size wr V) => (by
        have k := (HI.out.below hV).rd.rd
        rw [h0] at k
        exact goes_live k : Calls Tryz.prog 105 #[.pointer (some ⟨b, 0, none⟩)] V _))
      have hl4 := hl4 h0
      have hg1 : ¬ (m : Int) < 0 := by omega
      have hg2 : decide ((m : Int) < 0) = false := by simp
      have hnx := HNX.out
      obtain ⟨y, hy⟩ : ∃ y, nextR L s.1 = y := ⟨_, rfl⟩
      obtain ⟨q, hq⟩ : ∃ q, ([⟨#[108, 111, 99, 107]⟩, ⟨#[115, 104, 97, 114, 101, 100]⟩] : List ByteArray).any (firstOf y) = q := ⟨_, rfl⟩
      have HQI := Lib.hid (lock_first HCL.out h0 (q := q) (by rw [hy]; exact hq))
      have hnx := fun V hV => HNX.out V s hV
      have hbg := fun V hV => HBG.out V y hV
      simp only [hy] at hnx
      simp only [hq] at hbg
      unfold wdV at hnx hbg
      obtain ⟨ty, hty⟩ : ∃ t : ByteArray, ⟨y.2.1.toArray⟩ = t := ⟨_, rfl⟩
      simp only [hty] at hnx hbg
      obtain ⟨y0, _, y2, y3⟩ := y
      simp only at hnx hbg
      have HNXX := Lib.hid hnx
      have HBGG := Lib.hid hbg
      have HID := Lib.hid (HI.out.below (Below.refl _ _).drew)
      have s0 := three_cells HID.out.box
      clear hnx hbg hy hq hty
      go_wp2_with fail
      go_region_held3 (fun V => V.cell? ⟨w.heap.size, 0, none⟩ = some (.int .i64 0) ∧ V.cell? ⟨w.heap.size, 1, none⟩ = some (.int .i64 8) ∧ V.cell? ⟨w.heap.size, 2, none⟩ = some (.slice (some ⟨pb, 0, none⟩) 2 pc))
        (first | exact s0 | exact s1 | exact s2)
        (first
          | (go_at_call 105
             with_reducible refine (HGL.out _ (Below.refl _ _).drew).mono ?_
             rintro r V1 ⟨rfl, rfl⟩)
          | (go_at_call 107
             with_reducible refine (HNXX.out _ HID.out.rd).mono ?_
             rintro r V1 ⟨rfl, hb⟩
             have HI5 := Lib.hid (HID.out.below hb)
             have s1 := three_cells HI5.out.box
             clear hb)
          | (go_at_call 106
             with_reducible refine (HBGG.out _ HI5.out.ta).mono ?_
             rintro r V2 ⟨rfl, hb⟩
             have HI7 := Lib.hid (HI5.out.below hb)
             have s2 := three_cells HI7.out.box
             clear hb))
      clear s0 s1 p0 p1 p2
      obtain ⟨p0, p1, p2⟩ := s2
      cases q with
      | false =>
        have HE := Lib.hid (HR.out.stop h0 (fun hh => by have := (HQI.out).1 hh; cases this))
        clear p0 p1 p2
        go_wp2
        go_ret
        exact ⟨_, gs, s, rfl, by rw [HM.out]; exact HI7.out.row, ⟨HI7.out.rd, HI7.out.t⟩, by rw [HE.out], fun _ => by rw [HE.out], by rw [HM.out]; omega⟩
      | true =>
        by_cases hmx : m = 8
        · have hmb : ((m : Int) == 8) = true := by simp; omega
          have HMX := Lib.hid hmx
          clear hmx
          have hrr := HI7.out.rd.rd
          rw [h0] at hrr
          have HFX := Lib.hid (fail_live hrr 6)
          have hle := HI7.out.rd.le
          clear hrr
          go_wp2_with fail
          with_reducible refine HFX.out.mono ?_
          rintro r w7 ⟨rfl, hr7, ht7⟩
          clear p0 p1 p2
          have HI7b := Lib.hid (HI7.out.moved (s' := (s.1, 6)) ⟨HI7.out.rd.turned ht7 hr7 hle, ht7⟩)
          clear hr7 ht7 hle
          obtain ⟨x, hx⟩ : ∃ x, (lockQ L (s.1, 6)).1 = x := ⟨_, rfl⟩
          have HRN := Lib.hid (HR.out.full h0 (by first | exact (HQI.out).2 rfl | exact (HQI.out).2 trivial) (HM.out.trans HMX.out) x)
          have hrd := HRD.out _ (s.1, 6) HI7b.out.rd
          rw [hx, lockQ_dead (by show (6 : Int) ≠ 0; decide)] at hrd
          have HRX := Lib.hid hrd
          clear hrd hx
          go_wp2_with fail
          refine HRX.out.mono ?_
          rintro r w8 ⟨rfl, hm8⟩
          have HI8 := Lib.hid (HI7b.out.moved hm8)
          clear hm8
          go_wp2_with (at_builtin; refine wpList_append_own _ rfl _ _ 23 rfl w.heap.size 48 i0 (.agg #[.bool false, .int .i64 0, .int .i64 0, .int .i64 0, .int .i64 0]) 5 40 Tryz.underlying23 hi0 hz0 hz1 hz2 rfl (by decide) _ _ _ rfl (HI8.out.below ((Below.refl _ _).alloc (Nat.le_refl _) _)).row ⟨_, 0, none⟩ 1 1 (lkC x) rfl rfl ?c1 ?c2 ?c3 ?c4 ?c5 ?_)
          case c1 => exact sevlock_new _ _
          case c2 => exact lkC_one' x
          case c3 => (have := HM.out; unfold maxLen; omega)
          case c4 => (have := HM.out; omega)
          case c5 => exact Nat.le_trans HI8.out.t.size (by simp)
          intro v' w6 hown hgrow _
          have hin := (HI8.out.below ((Below.refl _ _).alloc (Nat.le_refl _) _)).push hown hgrow
          rw [← cellsOf_snoc, show m + 1 = (gs ++ [x]).length by simp [HM.out]] at hin
          have HIN := Lib.hid hin
          obtain ⟨ao4, cap4, hv4, _⟩ := ownsRow_shape hown
          subst hv4
          clear hown hgrow hin
          go_wp2
          go_roundw
          case rel => exact ⟨_, _, HIN, HRN⟩
          case measure => (have := HM.out; simp [lenOf]; omega)
        · have hmb : ((m : Int) == 8) = false := by simp; omega
          obtain ⟨x, s1, hx⟩ : ∃ x s1, (lockQ L s).1 = x ∧ (lockQ L s).2 = s1 := ⟨_, _, rfl, rfl⟩
          have hst := HR.out.step h0 (by first | exact (HQI.out).2 rfl | exact (HQI.out).2 trivial) (by rw [HM.out]; omega)
          rw [hx.1, hx.2] at hst
          have HRN := Lib.hid hst
          have hrd := HRD.out _ s HI7.out.rd
          rw [hx.1, hx.2] at hrd
          have HRX := Lib.hid hrd
          clear hst hrd hx p0 p1 p2
          obtain ⟨p0, p1, p2⟩ := three_cells HI7.out.box
          go_wp2_with fail
          refine HRX.out.mono ?_
          rintro r w8 ⟨rfl, hm8⟩
          clear p0 p1 p2
          have HI8 := Lib.hid (HI7.out.moved hm8)
          clear hm8
          go_wp2_with (at_builtin; refine wpList_append_own _ rfl _ _ 23 rfl w.heap.size 48 i0 (.agg #[.bool false, .int .i64 0, .int .i64 0, .int .i64 0, .int .i64 0]) 5 40 Tryz.underlying23 hi0 hz0 hz1 hz2 rfl (by decide) _ _ _ rfl (HI8.out.below ((Below.refl _ _).alloc (Nat.le_refl _) _)).row ⟨_, 0, none⟩ 1 1 (lkC x) rfl rfl ?c1 ?c2 ?c3 ?c4 ?c5 ?_)
          case c1 => exact sevlock_new _ _
          case c2 => exact lkC_one' x
          case c3 => (have := HM.out; unfold maxLen; omega)
          case c4 => (have := HM.out; omega)
          case c5 => exact Nat.le_trans HI8.out.t.size (by simp)
          intro v' w6 hown hgrow _
          have hin := (HI8.out.below ((Below.refl _ _).alloc (Nat.le_refl _) _)).push hown hgrow
          rw [← cellsOf_snoc, show m + 1 = (gs ++ [x]).length by simp [HM.out]] at hin
          have HIN := Lib.hid hin
          obtain ⟨ao4, cap4, hv4, _⟩ := ownsRow_shape hown
          subst hv4
          clear hown hgrow hin
          go_wp2
          go_roundw
          case rel => exact ⟨_, _, HIN, HRN⟩
          case measure => (have := HM.out; simp [lenOf]; omega)
    · have hd := HR.out.dead h0
      have HGD := Lib.hid (fun V (hV : Below wr.heap.size wr V) => goes_dead h0 (HI.out.below hV).rd.rd)
      have HD := Lib.hid hd
      have H0 := Lib.hid h0
      clear hd p0 p1 p2 h0
      go_wp2_with fail
      go_quiet ((go_at_call 105; exact Calls.quiet_of_same (HGD.out _ (below_drewN (Below.refl _ _) _))))
      have HI7 := Lib.hid (HI.out.below (below_drewN (Below.refl _ _) nq))
      go_wp2
      go_ret
      exact ⟨_, gs, s, rfl, by rw [HM.out]; exact HI7.out.row, ⟨HI7.out.rd, HI7.out.t⟩, HD.out, fun e => absurd e H0.out, by rw [HM.out]; omega⟩
end Go.Proofs.YtmcfjlkjijaflaaGreatDoor
