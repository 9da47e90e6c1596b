/-
  The program reads several programs. (Made by gen_spprogs.py.)
-/
import Derived.Test.YtmcfjlkjijaflaaGreatDoorGBF
namespace Go.Proofs.YtmcfjlkjijaflaaGreatDoor
open Go.RowKit

/-- What readSeveral of programs holds. -/
structure PvI (w wr : World) (b : Nat) (ao : Option Addr) (bw off cap : Nat) (L : List Wd) (s : Rd) (pb pc S : Nat) (v qv : Value) (n : Nat) (xs : List (Prg × Value)) (qs : List Int) : Prop where
  rd : RwI wr b ao bw off cap L s
  box : wr.heap[w.heap.size]? = some (.cells #[.int .i64 1, .int .i64 8, .slice (some ⟨pb, 0, none⟩) 1 pc] 117 (0, 0))
  ta : TArg wr pb 0 [⟨#[112, 114, 111, 103]⟩]
  row : wr.ownsRow w.heap.size 51 2 v n (cellsOf pgC xs)
  po : ∀ x ∈ xs, ORow w.heap.size wr x.2 x.1.2
  sb : wr.heap[S]? = some (.cells #[qv] 22 (0, 0))
  qr : GRow w.heap.size wr qv qs
  t : Turned [b, S] w wr
  l1 : b < w.heap.size
  l2 : pb < w.heap.size
  l3 : S < w.heap.size
  n1 : pb ≠ b
  n2 : pb ≠ S
  n3 : b ≠ S
  bwl : 0 < L.length → bw < w.heap.size ∧ bw ≠ S
section
variable {w wr wr' : World} {b : Nat} {ao : Option Addr} {bw off cap : Nat} {L : List Wd} {s s' : Rd} {pb pc S : Nat} {v qv : Value} {n : Nat} {xs : List (Prg × Value)} {qs : List Int}
theorem PvI.moved (h : PvI w wr b ao bw off cap L s pb pc S v qv n xs qs) (m : RwP b ao bw off cap L s' wr wr') : PvI w wr' b ao bw off cap L s' pb pc S v qv n xs qs := by
  obtain ⟨m1, m2⟩ := m
  have := h.l1
  have := h.l2
  have := h.l3
  have hz := h.t.size
  refine ⟨m1, m2.same h.box (by simp; omega), h.ta.same (m2.block _ (by omega) (by simpa using h.n1)), row_turned h.row m2 h.l1, fun x hx => row_turned (h.po x hx) m2 h.l1, m2.same h.sb (by simpa using fun e => h.n3 e.symm), row_turned h.qr m2 h.l1, h.t.trans (m2.more (by simp)) (Newer.refl _ _), h.l1, h.l2, h.l3, h.n1, h.n2, h.n3, h.bwl⟩
theorem PvI.below (h : PvI w wr b ao bw off cap L s pb pc S v qv n xs qs) (hb : Below wr.heap.size wr wr') : PvI w wr' b ao bw off cap L s pb pc S v qv n xs qs :=
  h.moved ⟨RdI.below h.rd hb, turned_below hb [b]⟩
/-- Behind the closure: all but the reader, the starts and their box is as it was. -/
theorem PvI.started (h : PvI w wr b ao bw off cap L s pb pc S v qv n xs qs) {qv' : Value} {qs' : List Int} (hr : RwI wr' b ao bw off cap L s') (hs : wr'.heap[S]? = some (.cells #[qv'] 22 (0, 0))) (hq : GRow w.heap.size wr' qv' qs') (ht : Turned (b :: S :: qv.ownBlock.toList) wr wr') :
    PvI w wr' b ao bw off cap L s' pb pc S v qv' n xs qs' := by
  have h1 := h.l1
  have h2 := h.l2
  have h3 := h.l3
  have hz := h.t.size
  have hqb : ∀ k, qv.ownBlock = some k → w.heap.size ≤ k := fun k hk => row_own h.qr k hk
  have hk : ∀ k, k < wr.heap.size → k ≠ b → k ≠ S → qv.ownBlock ≠ some k → wr'.heap[k]? = wr.heap[k]? := fun k hk a1 a2 a3 => ht.block k hk (by
    simp only [List.mem_cons, Option.mem_toList, not_or]
    exact ⟨a1, a2, a3⟩)
  have hrow : ∀ (e : TypeId) (size n : Nat) (u : Value) (ys : List Value), wr.ownsRow w.heap.size e size u n ys → e ≠ 3 → wr'.ownsRow w.heap.size e size u n ys := fun e size n u ys hu he => ownsRow_same hu fun k hk1 hl => hk k hl (by have := row_own hu k (by simpa using hk1); omega) (by have := row_own hu k (by simpa using hk1); omega) (by
    have hk2 : u.ownBlock = some k := by simpa using hk1
    intro e1
    rcases rows_off hu h.qr he with h0 | h0
    · rw [h0] at hk2
      cases hk2
    · exact h0 (hk2.trans e1.symm))
  refine ⟨hr, (hk _ (lt_of_block h.box) (by omega) (by omega) (block_off h.box h.qr (by decide)).symm).trans h.box, h.ta.same (hk _ (by omega) h.n1 h.n2 (fun e => by have := hqb _ e; omega)), hrow _ _ _ _ _ h.row (by decide), fun x hx => hrow _ _ _ _ _ (h.po x hx) (by decide), hs, hq, ?_, h.l1, h.l2, h.l3, h.n1, h.n2, h.n3, h.bwl⟩
  refine ⟨ht.os.trans h.t.os, ht.tape.trans h.t.tape, ht.output.trans h.t.output, Nat.le_trans h.t.size ht.size, fun k hk1 hx => ?_⟩
  simp only [List.mem_cons, List.not_mem_nil, or_false, not_or] at hx
  exact (hk k (by omega) hx.1 hx.2 (fun e => by have := hqb _ e; omega)).trans (h.t.block k hk1 (by simp [hx.1, hx.2]))
/-- A program is appended. -/
theorem PvI.push (h : PvI w wr b ao bw off cap L s pb pc S v qv n xs qs) {w4 : World} {v' : Value} {x : Prg × Value} (hx : ORow w.heap.size wr x.2 x.1.2) (hown : w4.ownsRow w.heap.size 51 2 v' (n + 1) (cellsOf pgC xs ++ pgC x)) (hg : wr.grownBy w4 v.ownBlock) : PvI w w4 b ao bw off cap L s pb pc S v' qv (n + 1) (xs ++ [x]) qs := by
  have hb : Below w.heap.size wr w4 := app_below (Below.refl _ _) h.t.size (Nat.le_refl _) h.row hg
  have h1 := h.l1
  have h2 := h.l2
  refine ⟨RwI.keep h.rd (hb.block _ h1) (fun h0 => hb.block _ (h.bwl h0).1), (hg.block _ (lt_of_block h.box) (block_off h.box h.row (by decide))).trans h.box, h.ta.same (hb.block _ h2), ?_, fun y hy => ?_, (hb.block _ h.l3).trans h.sb, row_kept h.qr h.row hg (by decide), ⟨hb.os.trans h.t.os, hb.tape.trans h.t.tape, hb.output.trans h.t.output, Nat.le_trans h.t.size hb.size, fun k hk hx => (hb.block k hk).trans (h.t.block k hk hx)⟩, h1, h2, h.l3, h.n1, h.n2, h.n3, h.bwl⟩
  · rw [cellsOf_snoc]
    exact hown
  · rcases List.mem_append.1 hy with hy | hy
    · exact row_kept (h.po y hy) h.row hg (by decide)
    · simp only [List.mem_singleton] at hy
      subst hy
      exact row_kept hx h.row hg (by decide)
end
/-- Programs so far. -/
def PI (L : List Wd) (G : List (Prg × Nat) × Rd) (s : Rd) (gs : List (Prg × Nat)) : Prop := (s.2 = 0 ∧ gs.length ≤ 8 ∧ ∃ n, 10 = n + gs.length ∧ progsS L n s gs = G) ∨ (s.2 ≠ 0 ∧ gs.length ≤ 9 ∧ s = G.2)
theorem progsS_dead {L : List Wd} {n : Nat} {s : Rd} {gs : List (Prg × Nat)} (h : s.2 ≠ 0) : progsS L n s gs = (gs, s) := by
  cases n with
  | zero => rfl
  | succ n =>
    unfold progsS
    rw [if_neg]
    rintro (h1 | h1)
    · rw [isS_dead h] at h1
      cases h1
    · exact h h1.2
theorem PI.step {L : List Wd} {G : List (Prg × Nat) × Rd} {s : Rd} {gs : List (Prg × Nat)} (h : PI L G s gs) (h0 : s.2 = 0) (hc : isS L s 1 progB = true ∨ gs.length = 0) (h4 : gs.length ≠ 8) : PI L G (progQ L s).2 (gs ++ [((progQ L s).1, s.1)]) := by
  rcases h with ⟨_, hl, n, hn, hG⟩ | ⟨h1, _⟩
  · obtain ⟨m, rfl⟩ : ∃ m, n = m + 1 := ⟨n - 1, by omega⟩
    unfold progsS at hG
    have hq : progQ L s = ((parseR L s.1).1, ((parseR L s.1).2.1.toNat, (parseR L s.1).2.2)) := by unfold progQ; rw [if_pos h0]
    rw [if_pos (by rcases hc with h | h; exact .inl h; exact .inr ⟨h, h0⟩), if_neg (by omega)] at hG
    rw [hq]
    simp only
    by_cases hd : (parseR L s.1).2.2 = 0
    · exact .inl ⟨hd, by simp; omega, m, by simp; omega, hG⟩
    · rw [progsS_dead hd] at hG
      exact .inr ⟨hd, by simp; omega, by rw [← hG]⟩
  · exact absurd h0 h1
theorem PI.full {L : List Wd} {G : List (Prg × Nat) × Rd} {s : Rd} {gs : List (Prg × Nat)} (h : PI L G s gs) (h0 : s.2 = 0) (hc : isS L s 1 progB = true) (h4 : gs.length = 8) (x : Prg × Nat) : PI L G (s.1, 6) (gs ++ [x]) := by
  rcases h with ⟨_, hl, n, hn, hG⟩ | ⟨h1, _⟩
  · obtain ⟨m, rfl⟩ : ∃ m, n = m + 1 := ⟨n - 1, by omega⟩
    unfold progsS at hG
    rw [if_pos (.inl hc), if_pos (by omega)] at hG
    exact .inr ⟨by show (6 : Int) ≠ 0; decide, by simp; omega, by rw [← hG]⟩
  · exact absurd h0 h1
theorem PI.stop {L : List Wd} {G : List (Prg × Nat) × Rd} {s : Rd} {gs : List (Prg × Nat)} (h : PI L G s gs) (h0 : s.2 = 0) (hc : ¬ isS L s 1 progB = true) (h4 : gs.length ≠ 0) : G = (gs, s) := by
  rcases h with ⟨_, hl, n, hn, hG⟩ | ⟨h1, _⟩
  · obtain ⟨m, rfl⟩ : ∃ m, n = m + 1 := ⟨n - 1, by omega⟩
    unfold progsS at hG
    rw [if_neg (by rintro (h | h); exact hc h; exact h4 h.1)] at hG
    exact hG.symm
  · exact absurd h0 h1
theorem PI.len {L : List Wd} {G : List (Prg × Nat) × Rd} {s : Rd} {gs : List (Prg × Nat)} (h : PI L G s gs) : gs.length ≤ 9 ∧ (s.2 = 0 → gs.length ≤ 8) := by
  rcases h with ⟨_, h, _⟩ | ⟨h0, h, _⟩
  · exact ⟨by omega, fun _ => h⟩
  · exact ⟨h, fun e => absurd e h0⟩
theorem PI.dead {L : List Wd} {G : List (Prg × Nat) × Rd} {s : Rd} {gs : List (Prg × Nat)} (h : PI L G s gs) (h0 : s.2 ≠ 0) : s = G.2 := by
  rcases h with ⟨h1, _⟩ | ⟨_, _, h⟩
  · exact absurd h1 h0
  · exact h
theorem prog_first {L : List Wd} (hL : Clean L) {s : Rd} (h : s.2 = 0) {q : Bool} (hq : ([⟨#[112, 114, 111, 103]⟩] : List ByteArray).any (firstOf (nextR L s.1)) = q) : (isS L s 1 progB = true ↔ q = true) := by
  simp only [List.any_cons, List.any_nil, Bool.or_false, first_is hL h] at hq
  rw [← hq]
theorem pgC_one {x : Prg × Value} (hx : x.2.oneCell' = true) : ∀ u ∈ pgC x, u.oneCell' = true := by
  intro u hu
  simp only [pgC, List.mem_cons, List.not_mem_nil, or_false] at hu
  rcases hu with rfl | rfl
  · rfl
  · exact hx
theorem sevprog_new (W : World) (f : Bool) (v : Value) : ∀ (j : Nat) (u : Value), ([.bool f, v] : List Value)[j]? = some u → (W.alloc (.cells #[.bool f, v] 51)).cell? ((⟨W.heap.size, 0, none⟩ : Addr).add j) = some u := by
  intro j u hu
  have h := heap_alloc_new W (.cells #[.bool f, v] 51)
  have e : ((⟨W.heap.size, 0, none⟩ : Addr).add j) = ⟨W.heap.size, j, none⟩ := by
    cases j <;> simp [Addr.add]
  rw [e]
  have hj : j < 2 := by
    obtain ⟨hj, -⟩ := List.getElem?_eq_some_iff.1 hu
    simpa using hj
  rw [cell_at h (by simpa using hj)]
  have := (List.getElem?_eq_some_iff.1 hu).2
  simpa using this
/-- What it leaves. -/
def SevProgs (L : List Wd) (G : List (Prg × Nat) × Rd) (w : World) (b S : Nat) (ao : Option Addr) (bw off cap : Nat) (r : Ending) (w' : World) : Prop :=
  ∃ (v qv : Value) (xs : List (Prg × Value)) (gs : List (Prg × Nat)) (s : Rd), r = .returned v ∧ w'.ownsRow w.heap.size 51 2 v xs.length (cellsOf pgC xs) ∧ (∀ x ∈ xs, ORow w.heap.size w' x.2 x.1.2) ∧ w'.heap[S]? = some (.cells #[qv] 22 (0, 0)) ∧ GRow w.heap.size w' qv (gs.map fun x => (x.2 : Int)) ∧ RwI w' b ao bw off cap L s ∧ Turned [b, S] w w' ∧
    xs.map (·.1) = gs.map (·.1) ∧ s = G.2 ∧ (s.2 = 0 → gs = G.1) ∧ gs.length ≤ 9
set_option maxRecDepth 100000 in
set_option maxHeartbeats 12800000 in
theorem sevprogs_any {w : World} {b : Nat} {ao : Option Addr} {bw off cap : Nat} {L : List Wd} {s0 : Rd} (pb pc S : Nat) (h : RwI w b ao bw off cap L s0) (hL : Clean L) (hp : TArg w pb 0 [⟨#[112, 114, 111, 103]⟩]) (hs : w.heap[S]? = some (.cells #[.slice none 0 0] 22 (0, 0))) (n1 : pb ≠ b) (n2 : pb ≠ S) (n3 : b ≠ S) (hbw : 0 < L.length → bw ≠ S) :
    Calls Tryz.prog 76 #[.pointer (some ⟨b, 0, none⟩), .agg #[.int .i64 1, .int .i64 8, .slice (some ⟨pb, 0, none⟩) 1 pc], .func (.func 77) #[] #[.pointer (some ⟨S, 0, none⟩)]] w (SevProgs L (progsS L 10 s0 []) w b S ao bw off cap) := by
  obtain ⟨i0, hi0, hz0, hz1, hz2⟩ := info_parts prog_info
  have HST : Hid (PvI w (w.alloc (.cells #[.int .i64 1, .int .i64 8, .slice (some ⟨pb, 0, none⟩) 1 pc] 117)) b ao bw off cap L s0 pb pc S (.slice none 0 0) (.slice none 0 0) ([] : List (Prg × Value)).length [] []) := Lib.hid (by
    have hb : Below w.heap.size w (w.alloc (.cells #[.int .i64 1, .int .i64 8, .slice (some ⟨pb, 0, none⟩) 1 pc] 117)) := (Below.refl _ w).alloc (Nat.le_refl _) _
    exact ⟨RdI.below h hb, heap_alloc_new _ _, hp.below hb, World.ownsRow_nil _ _ _ _, (by intro x hx; cases hx), (hb.block _ (lt_of_block hs)).trans hs, World.ownsRow_nil _ _ _ _, turned_below hb _, lt_of_block h.rd, hp.lt, lt_of_block hs, n1, n2, n3, fun h0 => ⟨(h.ws.at_ h0).2, hbw h0⟩⟩)
  have HNX := Lib.hid (fun V (s : Rd) (hV : RwI V b ao bw off cap L s) => next_any hV)
  have HBG := Lib.hid (fun V (x : Wd) (hV : TArg V pb 0 [⟨#[112, 114, 111, 103]⟩]) => (show Calls Tryz.prog 106 #[.agg #[.int .i64 1, .int .i64 8, .slice (some ⟨pb, 0, none⟩) 1 pc], wdV x] V fun e w' => e = .returned (.bool (([⟨#[112, 114, 111, 103]⟩] : List ByteArray).any (firstOf x))) ∧ Below V.heap.size V w' from begins_any 1 8 pb 0 pc x [⟨#[112, 114, 111, 103]⟩] V hV (by simp)))
  have HRD := Lib.hid (fun V (s : Rd) (v qv : Value) (m : Nat) (xs : List (Prg × Value)) (qs : List Int) (hV : PvI w V b ao bw off cap L s pb pc S v qv m xs qs) (hq : qs.length ≤ 100) => start_any S w.heap.size qv qs hV.rd hL hV.sb hV.qr hq hV.l1 hV.n3 hV.bwl hV.t.size)
  have HCL := Lib.hid hL
  obtain ⟨G, hG⟩ : ∃ G, progsS L 10 s0 [] = G := ⟨_, rfl⟩
  have HR0 : Hid (PI L G s0 []) := Lib.hid (by
    by_cases h0 : s0.2 = 0
    · exact .inl ⟨h0, by simp, 10, by simp, hG⟩
    · rw [progsS_dead h0] at hG
      exact .inr ⟨h0, by simp, by rw [← hG]⟩)
  rw [hG]
  clear h hL hp hs n1 n2 n3 hbw hG
  go_enter Tryz.func76, Tryz.ntmps76
  go_wp2_with fail
  go_loopw [7] (fun l' wr => ∃ (s : Rd) (qv : Value) (xs : List (Prg × Value)) (gs : List (Prg × Nat)), Hid (PvI w wr b ao bw off cap L s pb pc S l' qv xs.length xs (gs.map fun x => (x.2 : Int))) ∧ Hid (PI L G s gs) ∧ Hid (xs.map (·.1) = gs.map (·.1))) (fun l' _ => 10 - lenOf l')
  case atStart => exact ⟨s0, _, [], [], HST, HR0, Lib.hid rfl⟩
  case round =>
    obtain ⟨s, qv, xs, gs, HI, HR, HE⟩ := hrel
    obtain ⟨aov, capv, hv, _⟩ := ownsRow_shape HI.out.row
    subst hv
    obtain ⟨hlm, hl4⟩ := HR.out.len
    obtain ⟨m, hm⟩ : ∃ m, gs.length = m := ⟨_, rfl⟩
    have HM := Lib.hid hm
    have hxm : xs.length = m := by
      have := congrArg List.length HE.out
      simpa [hm] using this
    have HXM := Lib.hid hxm
    rw [hxm] at HI
    rw [hm] at hlm hl4
    rw [hxm]
    obtain ⟨p0, p1, p2⟩ := three_cells HI.out.box
    clear hm hxm
    by_cases h0 : s.2 = 0
    · have HGL := Lib.hid (fun V (hV : Below wr.heap.size wr V) => (by
        have k := (HI.out.below hV).rd.rd
        rw [h0] at k
        exact goes_live k : Calls Tryz.prog 105 #[.pointer (some ⟨b, 0, none⟩)] V _))
      have hl4 := hl4 h0
      by_cases hm0 : m = 0
      · have hg1 : (m : Int) < 1 := by omega
        have hg2 : decide ((m : Int) < 1) = true := by simp; omega
        have hmb : ((m : Int) == 8) = false := by simp; omega
        have HM0 := Lib.hid hm0
        clear hm0
        go_wp2_with fail
        go_quiet ((go_at_call 105; exact Calls.quiet_of_same (HGL.out _ (below_drewN (Below.refl _ _) _))))
        have HI7 := Lib.hid (HI.out.below (below_drewN (Below.refl _ _) nq))
        obtain ⟨⟨⟨f, ops⟩, s1⟩, hx⟩ : ∃ P, progQ L s = P := ⟨_, rfl⟩
        have hst := HR.out.step h0 (.inr (by rw [HM.out]; exact HM0.out)) (by rw [HM.out]; omega)
        rw [hx] at hst
        have HRN := Lib.hid hst
        have hrd := HRD.out _ s _ _ _ _ _ HI7.out (by rw [List.length_map, HM.out]; omega)
        unfold ClP at hrd
        rw [hx] at hrd
        have HRX := Lib.hid hrd
        have HZ7 := Lib.hid HI7.out.t.size
        clear hst hrd hx p0 p1 p2
        obtain ⟨p0, p1, p2⟩ := three_cells HI7.out.box
        go_wp2_with fail
        refine HRX.out.mono ?_
        rintro r w8 ⟨v8, qv8, rfl, hrow8, hr8, hs8, hq8, ht8, -⟩
        clear p0 p1 p2
        have HI8 := Lib.hid (HI7.out.started hr8 hs8 hq8 ht8)
        clear hr8 hs8 hq8 ht8
        obtain ⟨av, cv, hav, _⟩ := ownsRow_shape hrow8
        obtain ⟨no, hno⟩ : ∃ no, ops.length = no := ⟨_, rfl⟩
        have HNO := Lib.hid hno
        rw [hno] at hav
        subst hav
        have hnz : w.heap.size ≤ w8.heap.size := HI8.out.t.size
        have HROW := Lib.hid (row_base (base' := w.heap.size) hrow8 HZ7.out)
        clear hrow8 hno hnz
        go_wp2_with (at_builtin; refine wpList_append_own _ rfl _ _ 24 rfl w.heap.size 51 i0 (.agg #[.bool false, .slice none 0 0]) 2 32 Tryz.underlying24 hi0 hz0 hz1 hz2 rfl (by decide) _ _ _ rfl (HI8.out.below ((Below.refl _ _).alloc (Nat.le_refl _) _)).row ⟨_, 0, none⟩ 1 1 [.bool f, .slice av no cv] rfl rfl ?c1 ?c2 ?c3 ?c4 ?c5 ?_)
        case c1 => exact sevprog_new _ _ _
        case c2 => exact pgC_one (x := ((f, ops), .slice av no cv)) rfl
        case c3 => (unfold maxLen; omega)
        case c4 => omega
        case c5 => exact Nat.le_trans HI8.out.t.size (by simp)
        intro v' w6 hown hgrow _
        have hin := (HI8.out.below ((Below.refl _ _).alloc (Nat.le_refl _) (.cells #[.bool f, .slice av no cv] 51))).push (x := ((f, ops), .slice av no cv)) (row_below HROW.out ((Below.refl _ _).alloc (Nat.le_refl _) _)) hown hgrow
        rw [show m + 1 = (xs ++ [((f, ops), Value.slice av no cv)]).length by simp [HXM.out]] at hin
        rw [show List.map (fun x : Prg × Nat => (x.2 : Int)) gs ++ [(s.1 : Int)] = (gs ++ [((f, ops), s.1)]).map (fun x => (x.2 : Int)) by simp] at hin
        have HIN := Lib.hid hin
        have HEN : Hid ((xs ++ [((f, ops), Value.slice av no cv)]).map (·.1) = (gs ++ [((f, ops), s.1)]).map (·.1)) := Lib.hid (by rw [List.map_append, List.map_append, HE.out]; rfl)
        obtain ⟨ao4, cap4, hv4, _⟩ := ownsRow_shape hown
        subst hv4
        clear hown hgrow hin
        go_wp2
        go_roundw
        case rel => exact ⟨_, _, _, _, HIN, HRN, HEN⟩
        case measure => simp [lenOf]; omega
      · have hg1 : ¬ (m : Int) < 1 := by omega
        have hg2 : decide ((m : Int) < 1) = false := by simp; omega
        obtain ⟨y, hy⟩ : ∃ y, nextR L s.1 = y := ⟨_, rfl⟩
        obtain ⟨q, hq⟩ : ∃ q, ([⟨#[112, 114, 111, 103]⟩] : List ByteArray).any (firstOf y) = q := ⟨_, rfl⟩
        have HQI := Lib.hid (prog_first HCL.out h0 (q := q) (by rw [hy]; exact hq))
        have hnx := fun V hV => HNX.out V s hV
        have hbg := fun V hV => HBG.out V y hV
        simp only [hy] at hnx
        simp only [hq] at hbg
        unfold wdV at hnx hbg
        obtain ⟨ty, hty⟩ : ∃ t : ByteArray, ⟨y.2.1.toArray⟩ = t := ⟨_, rfl⟩
        simp only [hty] at hnx hbg
        obtain ⟨y0, _, y2, y3⟩ := y
        simp only at hnx hbg
        have HNXX := Lib.hid hnx
        have HBGG := Lib.hid hbg
        have HID := Lib.hid (HI.out.below (Below.refl _ _).drew)
        have s0 := three_cells HID.out.box
        clear hnx hbg hy hq hty
        go_wp2_with fail
        go_region_held3 (fun V => V.cell? ⟨w.heap.size, 0, none⟩ = some (.int .i64 1) ∧ V.cell? ⟨w.heap.size, 1, none⟩ = some (.int .i64 8) ∧ V.cell? ⟨w.heap.size, 2, none⟩ = some (.slice (some ⟨pb, 0, none⟩) 1 pc))
          (first | exact s0 | exact s1 | exact s2)
          (first
            | (go_at_call 105
               with_reducible refine (HGL.out _ (Below.refl _ _).drew).mono ?_
               rintro r V1 ⟨rfl, rfl⟩)
            | (go_at_call 107
               with_reducible refine (HNXX.out _ HID.out.rd).mono ?_
               rintro r V1 ⟨rfl, hb⟩
               have HI5 := Lib.hid (HID.out.below hb)
               have s1 := three_cells HI5.out.box
               clear hb)
            | (go_at_call 106
               with_reducible refine (HBGG.out _ HI5.out.ta).mono ?_
               rintro r V2 ⟨rfl, hb⟩
               have HI7 := Lib.hid (HI5.out.below hb)
               have s2 := three_cells HI7.out.box
               clear hb))
        clear s0 s1 p0 p1 p2
        obtain ⟨p0, p1, p2⟩ := s2
        cases q with
        | false =>
          have HEE := Lib.hid (HR.out.stop h0 (fun hh => by have := (HQI.out).1 hh; cases this) (by rw [HM.out]; exact hm0))
          clear p0 p1 p2
          go_wp2
          go_ret
          exact ⟨_, qv, xs, gs, s, rfl, by rw [HXM.out]; exact HI7.out.row, HI7.out.po, HI7.out.sb, HI7.out.qr, HI7.out.rd, HI7.out.t, HE.out, by rw [HEE.out], fun _ => by rw [HEE.out], by rw [HM.out]; omega⟩
        | true =>
          by_cases hmx : m = 8
          · have hmb : ((m : Int) == 8) = true := by simp; omega
            have HMX := Lib.hid hmx
            clear hmx
            have hrr := HI7.out.rd.rd
            rw [h0] at hrr
            have HFX := Lib.hid (fail_live hrr 6)
            have hle := HI7.out.rd.le
            clear hrr
            go_wp2_with fail
            with_reducible refine HFX.out.mono ?_
            rintro r w7 ⟨rfl, hr7, ht7⟩
            clear p0 p1 p2
            have HI7b := Lib.hid (HI7.out.moved (s' := (s.1, 6)) ⟨HI7.out.rd.turned ht7 hr7 hle, ht7⟩)
            clear hr7 ht7 hle
            obtain ⟨⟨⟨f, ops⟩, s1⟩, hx⟩ : ∃ P, progQ L (s.1, 6) = P := ⟨_, rfl⟩
            have hs1 : s1 = (s.1, 6) := by
              unfold progQ at hx
              rw [if_neg (by show ¬ (6 : Int) = 0; decide)] at hx
              exact (congrArg Prod.snd hx).symm
            subst hs1
            have HRN := Lib.hid (HR.out.full h0 (by first | exact (HQI.out).2 rfl | exact (HQI.out).2 trivial) (HM.out.trans HMX.out) ((f, ops), s.1))
            have hrd := HRD.out _ (s.1, 6) _ _ _ _ _ HI7b.out (by rw [List.length_map, HM.out]; omega)
            unfold ClP at hrd
            rw [hx] at hrd
            have HRX := Lib.hid hrd
            have HZ7 := Lib.hid HI7b.out.t.size
            clear hrd hx
            go_wp2_with fail
            refine HRX.out.mono ?_
            rintro r w8 ⟨v8, qv8, rfl, hrow8, hr8, hs8, hq8, ht8, -⟩
            have HI8 := Lib.hid (HI7b.out.started hr8 hs8 hq8 ht8)
            clear hr8 hs8 hq8 ht8
            obtain ⟨av, cv, hav, _⟩ := ownsRow_shape hrow8
            obtain ⟨no, hno⟩ : ∃ no, ops.length = no := ⟨_, rfl⟩
            have HNO := Lib.hid hno
            rw [hno] at hav
            subst hav
            have hnz : w.heap.size ≤ w8.heap.size := HI8.out.t.size
            have HROW := Lib.hid (row_base (base' := w.heap.size) hrow8 HZ7.out)
            clear hrow8 hno hnz
            go_wp2_with (at_builtin; refine wpList_append_own _ rfl _ _ 24 rfl w.heap.size 51 i0 (.agg #[.bool false, .slice none 0 0]) 2 32 Tryz.underlying24 hi0 hz0 hz1 hz2 rfl (by decide) _ _ _ rfl (HI8.out.below ((Below.refl _ _).alloc (Nat.le_refl _) _)).row ⟨_, 0, none⟩ 1 1 [.bool f, .slice av no cv] rfl rfl ?c1 ?c2 ?c3 ?c4 ?c5 ?_)
            case c1 => exact sevprog_new _ _ _
            case c2 => exact pgC_one (x := ((f, ops), .slice av no cv)) rfl
            case c3 => (unfold maxLen; omega)
            case c4 => omega
            case c5 => exact Nat.le_trans HI8.out.t.size (by simp)
            intro v' w6 hown hgrow _
            have hin := (HI8.out.below ((Below.refl _ _).alloc (Nat.le_refl _) (.cells #[.bool f, .slice av no cv] 51))).push (x := ((f, ops), .slice av no cv)) (row_below HROW.out ((Below.refl _ _).alloc (Nat.le_refl _) _)) hown hgrow
            rw [show m + 1 = (xs ++ [((f, ops), Value.slice av no cv)]).length by simp [HXM.out]] at hin
            rw [show List.map (fun x : Prg × Nat => (x.2 : Int)) gs ++ [(s.1 : Int)] = (gs ++ [((f, ops), s.1)]).map (fun x => (x.2 : Int)) by simp] at hin
            have HIN := Lib.hid hin
            have HEN : Hid ((xs ++ [((f, ops), Value.slice av no cv)]).map (·.1) = (gs ++ [((f, ops), s.1)]).map (·.1)) := Lib.hid (by rw [List.map_append, List.map_append, HE.out]; rfl)
            obtain ⟨ao4, cap4, hv4, _⟩ := ownsRow_shape hown
            subst hv4
            clear hown hgrow hin
            go_wp2
            go_roundw
            case rel => exact ⟨_, _, _, _, HIN, HRN, HEN⟩
            case measure => simp [lenOf]; omega
          · have hmb : ((m : Int) == 8) = false := by simp; omega
            obtain ⟨⟨⟨f, ops⟩, s1⟩, hx⟩ : ∃ P, progQ L s = P := ⟨_, rfl⟩
            have hst := HR.out.step h0 (.inl (by first | exact (HQI.out).2 rfl | exact (HQI.out).2 trivial)) (by rw [HM.out]; omega)
            rw [hx] at hst
            have HRN := Lib.hid hst
            have hrd := HRD.out _ s _ _ _ _ _ HI7.out (by rw [List.length_map, HM.out]; omega)
            unfold ClP at hrd
            rw [hx] at hrd
            have HRX := Lib.hid hrd
            have HZ7 := Lib.hid HI7.out.t.size
            clear hst hrd hx p0 p1 p2
            obtain ⟨p0, p1, p2⟩ := three_cells HI7.out.box
            go_wp2_with fail
            refine HRX.out.mono ?_
            rintro r w8 ⟨v8, qv8, rfl, hrow8, hr8, hs8, hq8, ht8, -⟩
            clear p0 p1 p2
            have HI8 := Lib.hid (HI7.out.started hr8 hs8 hq8 ht8)
            clear hr8 hs8 hq8 ht8
            obtain ⟨av, cv, hav, _⟩ := ownsRow_shape hrow8
            obtain ⟨no, hno⟩ : ∃ no, ops.length = no := ⟨_, rfl⟩
            have HNO := Lib.hid hno
            rw [hno] at hav
            subst hav
            have hnz : w.heap.size ≤ w8.heap.size := HI8.out.t.size
            have HROW := Lib.hid (row_base (base' := w.heap.size) hrow8 HZ7.out)
            clear hrow8 hno hnz
            go_wp2_with (at_builtin; refine wpList_append_own _ rfl _ _ 24 rfl w.heap.size 51 i0 (.agg #[.bool false, .slice none 0 0]) 2 32 Tryz.underlying24 hi0 hz0 hz1 hz2 rfl (by decide) _ _ _ rfl (HI8.out.below ((Below.refl _ _).alloc (Nat.le_refl _) _)).row ⟨_, 0, none⟩ 1 1 [.bool f, .slice av no cv] rfl rfl ?c1 ?c2 ?c3 ?c4 ?c5 ?_)
            case c1 => exact sevprog_new _ _ _
            case c2 => exact pgC_one (x := ((f, ops), .slice av no cv)) rfl
            case c3 => (unfold maxLen; omega)
            case c4 => omega
            case c5 => exact Nat.le_trans HI8.out.t.size (by simp)
            intro v' w6 hown hgrow _
            have hin := (HI8.out.below ((Below.refl _ _).alloc (Nat.le_refl _) (.cells #[.bool f, .slice av no cv] 51))).push (x := ((f, ops), .slice av no cv)) (row_below HROW.out ((Below.refl _ _).alloc (Nat.le_refl _) _)) hown hgrow
            rw [show m + 1 = (xs ++ [((f, ops), Value.slice av no cv)]).length by simp [HXM.out]] at hin
            rw [show List.map (fun x : Prg × Nat => (x.2 : Int)) gs ++ [(s.1 : Int)] = (gs ++ [((f, ops), s.1)]).map (fun x => (x.2 : Int)) by simp] at hin
            have HIN := Lib.hid hin
            have HEN : Hid ((xs ++ [((f, ops), Value.slice av no cv)]).map (·.1) = (gs ++ [((f, ops), s.1)]).map (·.1)) := Lib.hid (by rw [List.map_append, List.map_append, HE.out]; rfl)
            obtain ⟨ao4, cap4, hv4, _⟩ := ownsRow_shape hown
            subst hv4
            clear hown hgrow hin
            go_wp2
            go_roundw
            case rel => exact ⟨_, _, _, _, HIN, HRN, HEN⟩
            case measure => simp [lenOf]; omega
    · have hd := HR.out.dead h0
      have HGD := Lib.hid (fun V (hV : Below wr.heap.size wr V) => goes_dead h0 (HI.out.below hV).rd.rd)
      have HD := Lib.hid hd
      have H0 := Lib.hid h0
      clear hd p0 p1 p2 h0
      go_wp2_with fail
      go_quiet ((go_at_call 105; exact Calls.quiet_of_same (HGD.out _ (below_drewN (Below.refl _ _) _))))
      have HI7 := Lib.hid (HI.out.below (below_drewN (Below.refl _ _) nq))
      go_wp2
      go_ret
      exact ⟨_, qv, xs, gs, s, rfl, by rw [HXM.out]; exact HI7.out.row, HI7.out.po, HI7.out.sb, HI7.out.qr, HI7.out.rd, HI7.out.t, HE.out, HD.out, fun e => absurd e H0.out, by rw [HM.out]; omega⟩
end Go.Proofs.YtmcfjlkjijaflaaGreatDoor
