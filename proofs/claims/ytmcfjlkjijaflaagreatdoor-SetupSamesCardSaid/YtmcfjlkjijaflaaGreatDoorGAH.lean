/-
  The program's Name, mayOp, kindOf.
  The program's Each, and what a loop over it hands out.
  The program's May.
-/
import Derived.Test.YtmcfjlkjijaflaaGreatDoorPgShape
import Derived.Laws.StructEq
import Derived.Deep.RegionWith
import Derived.Test.YtmcfjlkjijaflaaGreatDoorGAF
import Derived.Test.YtmcfjlkjijaflaaGreatDoorGAA
import Derived.Lib.SliceRun
import Derived.Shelf.Abstract
import Derived.OwnWalkIn
import Derived.TacticsInMore
import Derived.LoopNIn
import Derived.LoopIn
import Derived.Sort.LoopGhostIn

/- The program's Name, mayOp, kindOf. -/
namespace Go.Proofs.YtmcfjlkjijaflaaGreatDoor
open Go.RowKit

theorem shape_field (s : ByteArray) (n a b c d : Int) (w : World) : (Instr.field 144 (.agg #[.string s, .int .i64 n, .int .i64 a, .int .i64 b, .int .i64 c, .int .i64 d]) 0).run Tryz.prog w = .ok (.string s) w := by kernel_rfl
/-- A shape under letters. -/
theorem shape_let (k : Int) : ∃ (s : ByteArray) (n lo hi lo2 hi2 : Int), shC k = #[.string s, .int .i64 n, .int .i64 lo, .int .i64 hi, .int .i64 lo2, .int .i64 hi2] ∧ s.data.toList = nameR k ∧ n = shN k ∧ shA k = (lo, hi) ∧ shB k = (lo2, hi2) :=
  ⟨_, _, _, _, _, _, rfl, rfl, rfl, rfl, rfl⟩
set_option maxRecDepth 100000 in
/-- The first word of ops of any kind. -/
theorem pnm_any (k : Int) (w : World) : Calls Tryz.prog 133 #[.int .i64 k] w fun e w' => e = .returned (.string ⟨(nameR k).toArray⟩) ∧ Below w.heap.size w w' := by
  have h := fun W => shape_any k W
  obtain ⟨s, n, lo, hi, lo2, hi2, e, hs, -⟩ := shape_let k
  have e2 : (⟨(nameR k).toArray⟩ : ByteArray) = s := by rw [← hs]
  rw [e2]
  simp only [e] at h
  have H := Lib.hid h
  have hf := fun W => shape_field s n lo hi lo2 hi2 W
  clear h e hs e2
  go_enter Tryz.func133, Tryz.ntmps133
  go_wp2_with fail
  with_reducible refine (H.out _).mono ?_
  rintro e w1 ⟨rfl, hb⟩
  have HB := Lib.hid hb
  clear hb
  go_wp2
  go_ret
  exact ⟨rfl, HB.out⟩
theorem may_shape (k a b : Int) : opMay (k, a, b) = (!decide (nameR k = []) && ((decide ((shA k).1 ≤ a) && decide (a ≤ (shA k).2)) && (decide ((shB k).1 ≤ b) && decide (b ≤ (shB k).2)))) := by
  have ea : aMay (k, a, b) = (decide ((shA k).1 ≤ a) && decide (a ≤ (shA k).2)) := by
    unfold aMay shA
    simp only
    by_cases h : 0 ≤ (limR k).1
    · rw [if_pos h, if_pos h]
    · rw [if_neg h, if_neg h]
      rw [Bool.eq_iff_iff]
      simp
      omega
  have eb : bMay (k, a, b) = (decide ((shB k).1 ≤ b) && decide (b ≤ (shB k).2)) := by
    unfold bMay shB
    simp only
    by_cases h : k = 5
    · rw [if_pos h, if_pos h]
    · rw [if_neg h, if_neg h]
      rw [Bool.eq_iff_iff]
      simp
      omega
  unfold opMay
  rw [ea, eb]
/-- The boxes of an op and of its shape. -/
theorem two_boxes {w w1 : World} {O S : Obj} (hb : Below (w.alloc O).heap.size (w.alloc O) w1) :
    (w1.alloc S).heap[w.heap.size]? = some O ∧ (w1.alloc S).heap[w1.heap.size]? = some S ∧ Below w.heap.size w (w1.alloc S) ∧ w.heap.size < w1.heap.size := by
  obtain ⟨h1, h2⟩ := box_kept hb
  have hl := lt_of_block h1
  exact ⟨(Below.heap_alloc _ _ _ hl).trans h1, heap_alloc_new _ _, h2.alloc h2.size _, hl⟩
set_option maxRecDepth 100000 in
set_option maxHeartbeats 3200000 in
theorem mayop_any (k a b : Int) (w : World) : Calls Tryz.prog 92 #[.agg #[.int .i64 k, .int .i64 a, .int .i64 b]] w fun e w' => e = .returned (.bool (opMay (k, a, b))) ∧ Below w.heap.size w w' := by
  have h := fun W => shape_any k W
  rw [may_shape]
  obtain ⟨s, n, lo, hi, lo2, hi2, e, hs, -, h1, h2⟩ := shape_let k
  rw [h1, h2, ← hs]
  simp only [e] at h
  have H := Lib.hid h
  have HA := Lib.hid (fun W => has_any lo hi a W)
  have HB := Lib.hid (fun W => has_any lo2 hi2 b W)
  simp only at HA HB ⊢
  obtain ⟨q1, hq1⟩ : ∃ q, (decide (lo ≤ a) && decide (a ≤ hi)) = q := ⟨_, rfl⟩
  obtain ⟨q2, hq2⟩ : ∃ q, (decide (lo2 ≤ b) && decide (b ≤ hi2)) = q := ⟨_, rfl⟩
  rw [hq1] at HA ⊢
  rw [hq2] at HB ⊢
  clear h e h1 h2 hq1 hq2
  rw [← Lib.toList_data]
  by_cases he : s.toList = []
  · have q0 : (s.toList == []) = true := by rw [he]; rfl
    have q3 : s.toList.isEmpty = true := by rw [he]; rfl
    have ee : (!decide (s.toList = []) && (q1 && q2)) = false := by simp [he]
    rw [ee]
    clear ee hs
    go_enter Tryz.func92, Tryz.ntmps92
    go_wp2_with fail
    with_reducible refine (H.out _).mono ?_
    rintro e w1 ⟨rfl, hb⟩
    have HX := Lib.hid (two_boxes (S := .cells #[.string s, .int .i64 n, .int .i64 lo, .int .i64 hi, .int .i64 lo2, .int .i64 hi2] 144) hb)
    clear hb
    go_wp2
    go_ret
    exact ⟨rfl, HX.out.2.2.1⟩
  · have q0 : (s.toList == []) = false := by simpa using he
    have q3 : s.toList.isEmpty = false := by simpa using he
    have ee : (!decide (s.toList = []) && (q1 && q2)) = (q1 && q2) := by simp [he]
    rw [ee]
    clear ee hs
    cases q1 with
    | false =>
      rw [Bool.false_and]
      go_enter Tryz.func92, Tryz.ntmps92
      go_wp2_with fail
      with_reducible refine (H.out _).mono ?_
      rintro e w1 ⟨rfl, hb⟩
      have HX := Lib.hid (two_boxes (S := .cells #[.string s, .int .i64 n, .int .i64 lo, .int .i64 hi, .int .i64 lo2, .int .i64 hi2] 144) hb)
      obtain ⟨hx, _⟩ := box_kept hb
      obtain ⟨c0, c1, c2⟩ := op_cells hx
      have hl := HX.out.2.2.2
      clear hb hx
      go_wp2_with fail
      with_reducible refine (HA.out _).mono ?_
      rintro e w2 ⟨rfl, hb2⟩
      have HB2 := Lib.hid (HX.out.2.2.1.trans (hb2.mono HX.out.2.2.1.size))
      clear hb2
      go_wp2
      go_ret
      exact ⟨rfl, HB2.out⟩
    | true =>
      rw [Bool.true_and]
      go_enter Tryz.func92, Tryz.ntmps92
      go_wp2_with fail
      with_reducible refine (H.out _).mono ?_
      rintro e w1 ⟨rfl, hb⟩
      have HX := Lib.hid (two_boxes (S := .cells #[.string s, .int .i64 n, .int .i64 lo, .int .i64 hi, .int .i64 lo2, .int .i64 hi2] 144) hb)
      obtain ⟨hx, _⟩ := box_kept hb
      obtain ⟨c0, c1, c2⟩ := op_cells hx
      have hl := HX.out.2.2.2
      clear hb hx
      go_wp2_with fail
      with_reducible refine (HA.out _).mono ?_
      rintro e w2 ⟨rfl, hb2⟩
      have HB2 := Lib.hid (HX.out.2.2.1.trans (hb2.mono HX.out.2.2.1.size))
      have hO := (hb2.block _ (lt_of_block HX.out.1)).trans HX.out.1
      have hS := (hb2.block _ (lt_of_block HX.out.2.1)).trans HX.out.2.1
      clear c0 c1 c2 hb2
      obtain ⟨c0, c1, c2⟩ := op_cells hO
      obtain ⟨d0, d1, d2, d3, d4, d5⟩ := six_cells hS
      clear hO hS
      go_wp2_with fail
      with_reducible refine (HB.out _).mono ?_
      rintro e w3 ⟨rfl, hb3⟩
      have HB3 := Lib.hid (HB2.out.trans (hb3.mono HB2.out.size))
      clear hb3
      go_wp2
      go_ret
      exact ⟨rfl, HB3.out⟩
end Go.Proofs.YtmcfjlkjijaflaaGreatDoor

/- The program's Each, and what a loop over it hands out. -/
namespace Go.Proofs.YtmcfjlkjijaflaaGreatDoor
open Go.RowKit Go.Maps Go.Shelf

theorem turned_below0 {w w' : World} (h : Below w.heap.size w w') : Turned [] w w' := ⟨h.os, h.tape, h.output, h.size, fun k hk _ => h.block k hk⟩
theorem oarg_cells {w : World} {ao : Option Addr} {b off : Nat} {L : List Opn} (h : OArg w ao b off L) : ∀ j u, (opsC L)[j]? = some u → w.cell? ((⟨b, off, none⟩ : Addr).add j) = some u := by
  intro j u hu
  have hj := (List.getElem?_eq_some_iff.1 hu).1
  rw [opsC_len] at hj
  have hd : j / 3 < L.length := by omega
  obtain ⟨x0, x1, x2⟩ := h.cells (j / 3) hd
  have he : j = j / 3 * 3 + j % 3 := by omega
  have hm : j % 3 < 3 := by omega
  rw [he, opsC_get L (j / 3) (j % 3) hd hm] at hu
  rw [Addr.add_lit, show off + j = off + j / 3 * 3 + j % 3 by omega]
  have h3 : j % 3 = 0 ∨ j % 3 = 1 ∨ j % 3 = 2 := by omega
  rcases h3 with h | h | h <;> rw [h] at hu ⊢ <;> simp [opC] at hu <;> subst hu
  · exact x0
  · exact x1
  · exact x2
theorem opsC_one (L : List Opn) : ∀ u ∈ opsC L, u.oneCell' = true := by
  intro u hu
  obtain ⟨x, _, hx⟩ := List.mem_flatMap.1 hu
  simp [opC] at hx
  rcases hx with rfl | rfl | rfl <;> rfl
theorem opn_new (w : World) : (w.alloc (.cells #[] 109)).ownsRow w.heap.size 109 3 (.slice (some ⟨w.heap.size, 0, none⟩) 0 0) 0 [] :=
  World.ownsRow_made w #[] 0 (Nat.le_refl _) (by simp) (by simp)
set_option maxRecDepth 100000 in
set_option maxHeartbeats 1600000 in
theorem clone_any (ao : Option Addr) (b off cap : Nat) (L : List Opn) (w : World) (h : OArg w ao b off L) (hm : L.length ≤ 100000) :
    Calls Tryz.prog 93 #[.slice ao L.length cap] w fun e w' => ∃ v, e = .returned v ∧ ORow w.heap.size w' v L ∧ Below w.heap.size w w' := by
  obtain ⟨i0, hi0, hz0, hz1, hz2⟩ := info_parts op_info
  have hnil : ∀ (w : World) (a : Option Addr) (n c : Nat), (binOp .eql 49 (.slice a n c) (.slice none 0 0)).run Tryz.prog w = .ok (.bool a.isNone) w := fun w a n c => Lib.run_eql_slice_nil w _ _ a n c 0 0 Tryz.underlying49
  cases ao with
  | none =>
    have hL : L = [] := by
      cases L with
      | nil => rfl
      | cons x l => exact absurd (h.at_ (by simp)).1 (by simp)
    subst hL
    rw [List.length_nil]
    clear h hm
    go_enter Tryz.func93, Tryz.ntmps93
    go_wp2
    go_ret
    exact ⟨_, rfl, World.ownsRow_nil _ _ _ _, Below.refl _ _⟩
  | some p =>
    have hp : 0 < L.length → p = ⟨b, off, none⟩ := fun h0 => Option.some.inj (h.at_ h0).1
    have hcells : ∀ j u, (opsC L)[j]? = some u → (w.alloc (.cells #[] 109)).cell? (p.add j) = some u := by
      intro j u hu
      have hj := (List.getElem?_eq_some_iff.1 hu).1
      rw [opsC_len] at hj
      rw [hp (by omega)]
      have h2 := h.below ((Below.refl _ w).alloc (Nat.le_refl _) (.cells #[] 109))
      exact oarg_cells h2 j u hu
    have HC := Lib.hid hcells
    have HL := Lib.hid (opsC_len L)
    obtain ⟨n, hn⟩ : ∃ n, L.length = n := ⟨_, rfl⟩
    have HN := Lib.hid hn
    rw [hn] at hm HL ⊢
    clear hcells h hp hn
    go_enter Tryz.func93, Tryz.ntmps93
    go_wp2_with (at_builtin; refine wpList_append_own _ rfl _ _ 49 rfl w.heap.size 109 i0 (.agg #[.int .i64 0, .int .i64 0, .int .i64 0]) 3 24 Tryz.underlying49 hi0 hz0 hz1 hz2 rfl (by decide) _ 0 [] rfl (opn_new w) p n cap (opsC L) rfl HL.out HC.out (opsC_one L) (by unfold maxLen; omega) (by omega) (by simp) ?_)
    intro v' w1 hown hgrow _
    have hown2 : ORow w.heap.size w1 v' L := by
      unfold ORow
      rw [HN.out]
      simpa using hown
    have HO := Lib.hid hown2
    have HB := Lib.hid (app_below ((Below.refl _ w).alloc (Nat.le_refl _) (.cells #[] 109)) (Nat.le_refl _) (Nat.le_refl _) (opn_new w) hgrow)
    clear hown hgrow hown2
    go_wp2
    go_ret
    exact ⟨_, rfl, HO.out, HB.out⟩
/-- What the box of a loop over a program's ops holds. -/
def KeptO (n₀ : Nat) (w : World) (B : Nat) (L : List Opn) : Prop := ∃ cv : Value, w.heap[B]? = some (.cells #[cv] 49 (0, 0)) ∧ n₀ ≤ B ∧ ORow n₀ w cv L
set_option maxRecDepth 100000 in
theorem each_any (f : Bool) (ao : Option Addr) (b off cap : Nat) (L : List Opn) (w : World) (h : OArg w ao b off L) (hm : L.length ≤ 100000) :
    Calls Tryz.prog 58 #[prgV f ao L.length cap] w fun e w' => ∃ B, e = .returned (.func (.func 94) #[] #[.pointer (some ⟨B, 0, none⟩)]) ∧ KeptO w.heap.size w' B L ∧ Below w.heap.size w w' := by
  have h0 := h.below ((Below.refl _ w).alloc (Nat.le_refl _) (.cells #[.bool f, .slice ao L.length cap] 51))
  have HC := Lib.hid (clone_any ao b off cap L _ h0 hm)
  clear h h0 hm
  obtain ⟨n, hn⟩ : ∃ n, L.length = n := ⟨_, rfl⟩
  rw [hn] at HC ⊢
  clear hn
  go_enter Tryz.func58, Tryz.ntmps58
  go_wp2_with fail
  refine HC.out.mono ?_
  rintro e w1 ⟨v, rfl, hrow, hb⟩
  obtain ⟨av, vcap, rfl, _, _⟩ := ownsRow_shape hrow
  have hb2 := (box_kept hb).2
  have HK := Lib.hid (show KeptO w.heap.size (w1.alloc (.cells #[.slice av L.length vcap] 49)) w1.heap.size L from ⟨_, heap_alloc_new w1 _, hb2.size, row_base (hrow.alloc _) (by simp)⟩)
  have HB := Lib.hid (hb2.alloc hb2.size (.cells #[.slice av L.length vcap] 49))
  clear hrow hb hb2
  go_wp2
  go_ret
  exact ⟨_, rfl, HK.out, HB.out⟩
attribute [local go_sem] Oper.semAt_some
abbrev encO (x : Opn × Nat) : Array Value := #[.int .i64 (x.2 : Nat), .agg #[.int .i64 x.1.1, .int .i64 x.1.2.1, .int .i64 x.1.2.2]]
set_option maxRecDepth 100000 in
set_option maxHeartbeats 1600000 in
/-- **THE LOOP OVER A PROGRAM's OPS**: all of them with their places; or the first ones. -/
theorem each1_seq {n n₀ : Nat} (hn : 1 ≤ n) {w : World} {B : Nat} {L : List Opn} (h : KeptO n₀ w B L) (hL : L.length ≤ 100000) :
    ∃ Y : List Nat, (∀ k ∈ Y, n₀ ≤ k ∧ k < w.heap.size) ∧ TurnSeq Fence.wide n Tryz.prog 94 #[.pointer (some ⟨B, 0, none⟩)] encO [] Y (fun xs => xs <+: L.zipIdx) (fun xs _ => xs = L.zipIdx) (fun xs _ => xs <+: L.zipIdx) w := by
  obtain ⟨cv, h1, h2, h3⟩ := h
  refine ⟨cv.ownBlock.toList, fun k hk => ⟨(h3.lt k (by simpa using hk)).1, ownsRow_lt h3 k hk⟩, ?_⟩
  intro l J Jx W hW hJ hY hj0
  have b0 := cell1 (hW.same h1 (by simp))
  have hr := ownsRow_same (w' := W) h3 (fun k _ hl => hW.block k hl (by simp))
  have HJ := Lib.hid hJ
  have HY := Lib.hid hY
  have HR := Lib.hid hr
  obtain ⟨av, vcap, hv, _, _⟩ := ownsRow_shape hr
  subst hv
  clear hJ hY h1 h3 hr
  refine callsIn_of_wp Tryz.func94 rfl trivial ?_ rfl
  simp only [Tryz.ntmps94, List.size_toArray, List.length_cons, List.length_nil, Nat.reduceAdd, Nat.reduceSub, Array.replicate_succ, Array.replicate_zero, List.push_toArray, List.append_toArray, List.nil_append, List.cons_append]
  gi_wp2
  gi_loopw [7] (fun i wr => ∃ k : Nat, k ≤ L.length ∧ i = .int .i64 k ∧ Hid (J (L.zipIdx.take k) wr) ∧ Hid (ORow n₀ wr (.slice av L.length vcap) L)) (fun i _ => L.length - (intOf i).toNat)
  case atStart => exact ⟨0, Nat.zero_le _, rfl, Lib.hid hj0, HR⟩
  case round =>
    obtain ⟨k, hk, rfl, HJ0, HRR⟩ := hrel
    by_cases hlt : k < L.length
    · obtain ⟨g, cap', hv, _, _⟩ := ownsRow_pos HRR.out (by omega)
      simp only [Value.slice.injEq] at hv
      obtain ⟨rfl, _, rfl⟩ := hv
      have rc := row_op HRR.out k hlt
      obtain ⟨⟨n1, n2, n3⟩, hnd⟩ : ∃ nd, L[k] = nd := ⟨_, rfl⟩
      rw [hnd] at rc
      simp only at rc
      obtain ⟨r0, r1, r2⟩ := rc
      have htk : L.zipIdx.take (k + 1) = L.zipIdx.take k ++ [((n1, n2, n3), k)] := by
        rw [List.take_succ_eq_append_getElem (by rw [List.length_zipIdx]; exact hlt), List.getElem_zipIdx, hnd]
        simp
      have ta : Turned [] wr (wr.alloc (.cells #[.int .i64 n1, .int .i64 n2, .int .i64 n3] 109)) := (Turned.refl [] wr).alloc _
      have hgl : g < wr.heap.size := ownsRow_lt HRR.out g (by simp [Value.ownBlock])
      obtain ⟨fn, tmps, assign, body, hy, hR⟩ := HY.out (L.zipIdx.take k) ((n1, n2, n3), k) (wr.alloc (.cells #[.int .i64 n1, .int .i64 n2, .int .i64 n3] 109)) (HJ.out _ _ _ HJ0.out ta) (by rw [← htk]; exact List.take_prefix _ _)
      have HTK := Lib.hid htk
      have i1 : (k : Int) < L.length := by omega
      have i0 : (0 : Int) ≤ k := by omega
      clear hnd htk ta
      (try dsimp only at hy)
      gi_wp2
      refine hR.mono ?_
      rintro e W3 ⟨hs, hz, ⟨rfl, hj3⟩ | ⟨rfl, hx3⟩⟩
      · have J3 := Lib.hid hj3
        have R3 := Lib.hid (ownsRow_same HRR.out (fun j hj hl => by
          have h1 := hs j hj
          rw [h1]
          exact Below.heap_alloc _ _ _ hl))
        clear hj3 hs hz
        gi_wp2
        go_roundw
        case rel => exact ⟨k + 1, by omega, by simp, by rw [HTK.out]; exact J3, R3⟩
        case measure => simp [intOf]; omega
      · have J3 := Lib.hid hx3
        clear hx3 hs hz
        gi_wp2
        refine bodyPost_ret (results_none rfl _ _ _) rfl ?_
        exact ⟨⟨_, rfl⟩, .inr ⟨_, by rw [← HTK.out]; exact List.take_prefix _ _, J3.out⟩⟩
    · obtain rfl : k = L.length := by omega
      gi_wp2
      go_end0
      have hj := HJ0.out
      rw [List.take_of_length_le (by rw [List.length_zipIdx]; exact Nat.le_refl _)] at hj
      exact ⟨⟨_, rfl⟩, .inl (by first | exact hj | exact ⟨_, rfl, hj⟩)⟩
end Go.Proofs.YtmcfjlkjijaflaaGreatDoor

/- The program's May. -/
namespace Go.Proofs.YtmcfjlkjijaflaaGreatDoor
open Go.RowKit Go.Maps Go.Shelf
attribute [local go_sem] Oper.semAt_some

/-- The box of May's answer, while its loop runs. -/
structure MayB (w W : World) (N : Nat) : Prop where
  res : W.heap[w.heap.size + 1]? = some (.cells #[.bool false] 4 (0, 0))
  t : Turned [] w W
  z : N ≤ W.heap.size
theorem MayB.mild {w W W' : World} {N N' : Nat} (h : MayB w W N) (m : Mild [] N' W W') (hN : w.heap.size ≤ N') : MayB w W' N :=
  ⟨m.cells h.res (by simp), h.t.mild m hN (by simp), Nat.le_trans h.z m.size⟩
theorem MayB.below {w W W' : World} {N : Nat} (h : MayB w W N) (hb : Below W.heap.size W W') : MayB w W' N :=
  ⟨(hb.block _ (lt_of_block h.res)).trans h.res, h.t.trans (turned_below0 hb) (Newer.refl _ _), Nat.le_trans h.z hb.size⟩
theorem keeps_below {n : Nat} {A B : World} (h : Below A.heap.size A B) : KeepsFrom n A B :=
  ⟨h.size, fun _ _ _ hk _ => (h.block _ (lt_of_block hk)).trans hk⟩
theorem zip_may {L : List Opn} {pre : List (Opn × Nat)} (h : pre <+: L.zipIdx) : ∀ x ∈ pre, x.1 ∈ L := by
  intro x hx
  have h2 := h.subset hx
  exact (List.mem_zipIdx' h2).2 ▸ List.getElem_mem _
theorem may_out (w : World) (f : Bool) (ao : Option Addr) (n cap : Nat) :
    ((w.alloc (.cells #[.bool f, .slice ao n cap] 51)).alloc (.cells #[.bool false] 4)).heap[w.heap.size + 1]? = some (.cells #[.bool false] 4 (0, 0)) ∧
    Below w.heap.size w ((w.alloc (.cells #[.bool f, .slice ao n cap] 51)).alloc (.cells #[.bool false] 4)) := by
  have hz := heap_alloc_new (w.alloc (.cells #[.bool f, .slice ao n cap] 51)) (.cells #[.bool false] 4)
  rw [World.size_alloc] at hz
  exact ⟨hz, ((Below.refl _ w).alloc (Nat.le_refl _) _).alloc (by simp) _⟩
theorem zip_mem {L : List Opn} {x : Opn} (h : x ∈ L) : ∃ j, (x, j) ∈ L.zipIdx := by
  obtain ⟨i, hi, rfl⟩ := List.getElem_of_mem h
  refine ⟨i, ?_⟩
  have h2 : L.zipIdx[i]'(by rw [List.length_zipIdx]; exact hi) = (L[i], i) := by
    rw [List.getElem_zipIdx]
    simp
  rw [← h2]
  exact List.getElem_mem _
/-- What the answer's box holds behind the loop's end. -/
theorem MayB.fin {w W : World} {N D : Nat} (h : MayB w W N) (hN : w.heap.size + 2 ≤ D) (hK : W.heap[D]? = some (.deferred (some []))) (q : Bool) :
    (W.setCell ⟨w.heap.size + 1, 0, none⟩ (.bool q)).heap[D]? = some (.deferred (some [])) ∧
    (∀ o, ((W.setCell ⟨w.heap.size + 1, 0, none⟩ (.bool q)).putObj D o).heap[w.heap.size + 1]? = some (.cells #[.bool q] 4 (0, 0)) ∧
    Below w.heap.size w ((W.setCell ⟨w.heap.size + 1, 0, none⟩ (.bool q)).putObj D o)) := by
  have hne : D ≠ w.heap.size + 1 := by omega
  refine ⟨(Below.heap_setCell _ _ _ _ hne).trans hK, fun o => ⟨?_, ?_⟩⟩
  · rw [World.putObj_heap_other (Ne.symm hne), heap_setCell_same _ _ _ _ _ _ h.res]
    rfl
  · exact ((h.t.setCell (.inr (by show w.heap.size ≤ w.heap.size + 1; omega)) _).put (by omega) o).below (by simp) (Nat.le_refl _)
theorem MayB.set {w W : World} {N : Nat} (h : MayB w W N) : MayB w (W.setCell ⟨w.heap.size + 1, 0, none⟩ (.bool false)) N := by
  refine ⟨?_, h.t.setCell (.inr (by show w.heap.size ≤ w.heap.size + 1; omega)) _, by simpa [World.setCell] using h.z⟩
  rw [heap_setCell_same _ _ _ _ _ _ h.res]
  rfl
set_option maxRecDepth 100000 in
set_option maxHeartbeats 3200000 in
theorem pmay_loop (f : Bool) (ao : Option Addr) (b off cap : Nat) (L : List Opn) (w : World) (h : OArg w ao b off L) (h1 : 1 ≤ L.length) (h12 : L.length ≤ 12) :
    Calls Tryz.prog 57 #[prgV f ao L.length cap] w fun e w' => e = .returned (.bool (mayR (f, L))) ∧ Below w.heap.size w w' := by
  have hm : mayR (f, L) = L.all opMay := by
    unfold mayR
    simp only
    rw [decide_eq_true (by omega), decide_eq_true h12]
    rfl
  rw [hm]
  refine callsIn_wide.1 (?_ : CallsIn Fence.wide 20 _ _ _ _ _)
  refine callsIn_of_wp_marks Tryz.func57 rfl trivial ?_ rfl
  simp only [Tryz.ntmps57, List.size_toArray, List.length_cons, List.length_nil, Nat.reduceAdd, Nat.reduceSub, Array.replicate_succ, Array.replicate_zero, List.push_toArray, List.append_toArray, List.nil_append, List.cons_append]
  refine wpIn_wide.2 ?_
  obtain ⟨W0, hW0⟩ : ∃ W0, (w.alloc (.cells #[.bool f, .slice ao L.length cap] 51)).alloc (.cells #[.bool false] 4) = W0 := ⟨_, rfl⟩
  have hb0 : Below w.heap.size w W0 := by
    rw [← hW0]
    exact ((Below.refl _ w).alloc (Nat.le_refl _) _).alloc (by simp) _
  have hB0 : MayB w W0 0 := by
    have hz := heap_alloc_new (w.alloc (.cells #[.bool f, .slice ao L.length cap] 51)) (.cells #[.bool false] 4)
    rw [World.size_alloc, hW0] at hz
    exact ⟨hz, turned_below0 hb0, Nat.zero_le _⟩
  have HB0 := Lib.hid hB0
  have HE := Lib.hid (each_any f ao b off cap L W0 (h.below hb0) (by omega))
  have HM := Lib.hid (fun k a c W => mayop_any k a c W)
  obtain ⟨n, hn⟩ : ∃ n, L.length = n := ⟨_, rfl⟩
  have HN := Lib.hid hn
  rw [hn] at h1 h12 HE hW0 ⊢
  have g1 : ¬ (n : Int) < 1 := by omega
  have g2 : ¬ (12 : Int) < n := by omega
  clear h hm hB0 hb0 hn
  have HW0 := Lib.hid hW0
  clear hW0
  go_wp2_with fail
  rw [HW0.out]
  refine HE.out.mono ?_
  rintro e W1 ⟨B, rfl, hK, hb⟩
  obtain ⟨Yb, hY, hseq⟩ := each1_seq (n := 19) (by omega) hK (by have := HN.out; omega)
  have HB1 : Hid (MayB w W1 W1.heap.size) := Lib.hid (by
    have h := HB0.out.below hb
    exact ⟨h.res, h.t, Nat.le_refl _⟩)
  have HY := Lib.hid hY
  have HSEQ := Lib.hid hseq
  have hw1 : w.heap.size + 2 ≤ W1.heap.size := lt_of_block HB1.out.res
  have hw0 : w.heap.size + 2 ≤ W0.heap.size := lt_of_block HB0.out.res
  clear hK hb hY hseq HB0 HE
  go_wp2_with fail
  refine (wpIn_wide (n := 20)).1 ?_
  refine range_turns_boxed rfl (by omega) (gf := 94) (lb := #[.pointer (some ⟨B, 0, none⟩)]) rfl trivial (enters_of Tryz.func94 (by kernel_rfl) rfl)
    (X := []) (Y := Yb) (by simp) (fun k hk => (HY.out k hk).2) HSEQ.out (fun _ => rfl) (fun _ _ _ h _ => h) (fun _ _ _ h _ => h)
    (fun pre W => MayB w W W1.heap.size ∧ ∀ x ∈ pre, opMay x.1 = true)
    (fun c pre W => c = .ret ∧ MayB w W W1.heap.size ∧ ∃ x ∈ pre, opMay x.1 = false)
    (fun xs A B h mm => ⟨h.1.mild mm (by omega), h.2⟩) (fun c xs A B h mm => ⟨h.1, h.2.1.mild mm (by omega), h.2.2⟩) ⟨HB1.out, by simp⟩ (fun xs W h => h.1.z)
    109 (fun x => #[.int .i64 x.1.1, .int .i64 x.1.2.1, .int .i64 x.1.2.2]) ?a1 ?assign ?body ?done ?stop
  case assign =>
    intro l x Bk W K hBk hK
    gi_wp2
    exact hK
  case body =>
    rintro l pre ⟨⟨x1, x2, x3⟩, j⟩ Bk W hk hbk ⟨hI, hall⟩ hsp
    simp only at hk
    obtain ⟨k0, k1, k2⟩ := op_cells hk
    have HI := Lib.hid hI
    have HALL := Lib.hid hall
    have HCM := Lib.hid (HM.out x1 x2 x3 W)
    obtain ⟨q, hq⟩ : ∃ q, opMay (x1, x2, x3) = q := ⟨_, rfl⟩
    have HQ := Lib.hid hq
    rw [hq] at HCM
    clear hI hall hq hsp hk
    cases q with
    | true =>
      gi_wp2_with fail
      refine ⟨trivial, ?_⟩
      refine (CallsIn.inRound l (callsIn_wide.2 HCM.out)).mono ?_
      rintro e' V ⟨rfl, hb⟩
      have HB := Lib.hid hb
      clear hb
      gi_wp2
      refine ⟨keeps_below HB.out, fun j hj => HB.out.block _ ?_, HI.out.below HB.out, ?_⟩
      · have := (HY.out j hj).2
        have := HI.out.z
        omega
      · intro y hy
        rcases List.mem_append.1 hy with h | h
        · exact HALL.out y h
        · simp at h
          subst h
          exact HQ.out
    | false =>
      gi_wp2_with fail
      refine ⟨trivial, ?_⟩
      refine (CallsIn.inRound l (callsIn_wide.2 HCM.out)).mono ?_
      rintro e' V ⟨rfl, hb⟩
      have HB := Lib.hid hb
      have hV := HI.out.below hb
      have r0 := cell1 hV.res
      have f0 := not_frozen hV.res 0
      have HV := Lib.hid hV
      clear hb hV
      gi_wp2
      refine ⟨(keeps_below HB.out).trans ((KeepsOthers.setCell _ _ _).from _), fun j hj => ?_, rfl, HV.out.set, ((x1, x2, x3), j), List.mem_append_right _ (by simp), HQ.out⟩
      have h1 := HY.out j hj
      have h2 := HI.out.z
      exact (Below.heap_setCell _ _ _ _ (by show j ≠ w.heap.size + 1; omega)).trans (HB.out.block _ (by omega))
  case done =>
    rintro D xs W hD rfl ⟨hI, hall⟩ hK
    have HI := Lib.hid hI
    have HKD := Lib.hid hK
    have r0 := cell1 hI.res
    have f0 := not_frozen hI.res 0
    have hA : L.all opMay = true := by
      rw [List.all_eq_true]
      intro x hx
      obtain ⟨j, hj⟩ := zip_mem hx
      exact hall _ hj
    have HA := Lib.hid hA
    clear hI hK hA
    go_wp2
    have hf := HI.out.fin (D := D) (by omega) HKD.out true
    refine ⟨by simp, .inl ⟨_, _, rfl, run_takeDeferred hf.1, ?_⟩⟩
    exact ⟨_, bool_result rfl rfl (hf.2 _).1, by rw [HA.out], (hf.2 _).2⟩
  case stop =>
    rintro D c xs W hD hsx ⟨rfl, hI, hx⟩ hK
    have HI := Lib.hid hI
    have HKD := Lib.hid hK
    clear hI hK
    refine wpIn_ret ?_
    simp only [Exit.inBlock]
    have hA : L.all opMay = false := by
      obtain ⟨x, hx1, hx2⟩ := hx
      rw [List.all_eq_false]
      exact ⟨x.1, zip_may hsx x hx1, by simp [hx2]⟩
    have hne : D ≠ w.heap.size + 1 := by omega
    have hres : ∀ o, (W.putObj D o).heap[w.heap.size + 1]? = some (.cells #[.bool false] 4 (0, 0)) := fun o => (World.putObj_heap_other (Ne.symm hne)).trans HI.out.res
    refine ⟨by simp, .inl ⟨_, _, rfl, run_takeDeferred HKD.out, ?_⟩⟩
    exact ⟨_, bool_result rfl rfl (hres _), by rw [hA], (HI.out.t.put (by omega) _).below (by simp) (Nat.le_refl _)⟩
set_option maxRecDepth 100000 in
theorem pmay_any (f : Bool) (ao : Option Addr) (b off cap : Nat) (L : List Opn) (w : World) (h : OArg w ao b off L) :
    Calls Tryz.prog 57 #[prgV f ao L.length cap] w fun e w' => e = .returned (.bool (mayR (f, L))) ∧ Below w.heap.size w w' := by
  by_cases h1 : 1 ≤ L.length
  · by_cases h12 : L.length ≤ 12
    · exact pmay_loop f ao b off cap L w h h1 h12
    · rw [may_long (by omega)]
      obtain ⟨n, hn⟩ : ∃ n, L.length = n := ⟨_, rfl⟩
      rw [hn] at h12 h1 ⊢
      have g1 : ¬ (n : Int) < 1 := by omega
      have g2 : (12 : Int) < n := by omega
      clear h hn
      have HX := Lib.hid (may_out w f ao n cap)
      go_enter Tryz.func57, Tryz.ntmps57
      go_wp2
      refine bodyPost_ret (bool_result rfl rfl HX.out.1) rfl ?_
      exact ⟨rfl, HX.out.2⟩
  · have hq : mayR (f, L) = false := by
      unfold mayR
      simp only
      rw [decide_eq_false (by omega), Bool.false_and]
    rw [hq]
    obtain ⟨n, hn⟩ : ∃ n, L.length = n := ⟨_, rfl⟩
    rw [hn] at h1 ⊢
    have g1 : (n : Int) < 1 := by omega
    clear h hn hq
    have HX := Lib.hid (may_out w f ao n cap)
    go_enter Tryz.func57, Tryz.ntmps57
    go_wp2
    refine bodyPost_ret (bool_result rfl rfl HX.out.1) rfl ?_
    exact ⟨rfl, HX.out.2⟩
end Go.Proofs.YtmcfjlkjijaflaaGreatDoor
