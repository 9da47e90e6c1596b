/-
  The program's Each of acts, and what a loop over it hands out.
-/
import Derived.Test.YtmcfjlkjijaflaaDoorGXA
import Derived.Test.YtmcfjlkjijaflaaDoorArRow
import Derived.Test.YtmcfjlkjijaflaaDoorGA
import Derived.Test.YtmcfjlkjijaflaaDoorPgEach
import Derived.Lib.SliceRun
import Derived.Shelf.Abstract
import Derived.OwnWalkIn
import Derived.TacticsInMore
import Derived.LoopNIn
import Derived.LoopIn
import Derived.Sort.LoopGhostIn
namespace Go.Proofs.YtmcfjlkjijaflaaDoor
open Go.RowKit Go.Maps Go.Shelf

theorem act_new (w : World) : (w.alloc (.cells #[] 69)).ownsRow w.heap.size 69 5 (.slice (some ⟨w.heap.size, 0, none⟩) 0 0) 0 [] :=
  World.ownsRow_made w #[] 0 (Nat.le_refl _) (by simp) (by simp)
set_option maxRecDepth 100000 in
set_option maxHeartbeats 1600000 in
theorem aclone_any (ao : Option Addr) (b off cap : Nat) (L : List Ac) (w : World) (h : AArg w ao b off L) (hm : L.length ≤ 100000) :
    Calls Tryd.prog 60 #[.slice ao L.length cap] w fun e w' => ∃ v, e = .returned v ∧ ARow w.heap.size w' v L ∧ Below w.heap.size w w' := by
  obtain ⟨i0, hi0, hz0, hz1, hz2⟩ := info_parts act_info
  have hnil : ∀ (w : World) (a : Option Addr) (n c : Nat), (binOp .eql 52 (.slice a n c) (.slice none 0 0)).run Tryd.prog w = .ok (.bool a.isNone) w := fun w a n c => Lib.run_eql_slice_nil w _ _ a n c 0 0 Tryd.underlying52
  cases ao with
  | none =>
    have hL : L = [] := by
      cases L with
      | nil => rfl
      | cons x l => exact absurd (h.at_ (by simp)).1 (by simp)
    subst hL
    rw [List.length_nil]
    clear h hm
    go_enter Tryd.func60, Tryd.ntmps60
    go_wp2
    go_ret
    exact ⟨_, rfl, World.ownsRow_nil _ _ _ _, Below.refl _ _⟩
  | some p =>
    have hp : 0 < L.length → p = ⟨b, off, none⟩ := fun h0 => Option.some.inj (h.at_ h0).1
    have hcells : ∀ j u, (acsC L)[j]? = some u → (w.alloc (.cells #[] 69)).cell? (p.add j) = some u := by
      intro j u hu
      have hj := (List.getElem?_eq_some_iff.1 hu).1
      rw [acsC_len] at hj
      rw [hp (by omega)]
      have h2 := h.below ((Below.refl _ w).alloc (Nat.le_refl _) (.cells #[] 69))
      exact aarg_cells h2 j u hu
    have HC := Lib.hid hcells
    have HL := Lib.hid (acsC_len L)
    obtain ⟨n, hn⟩ : ∃ n, L.length = n := ⟨_, rfl⟩
    have HN := Lib.hid hn
    rw [hn] at hm HL ⊢
    clear hcells h hp hn
    go_enter Tryd.func60, Tryd.ntmps60
    go_wp2_with (at_builtin; refine wpList_append_own _ rfl _ _ 52 rfl w.heap.size 69 i0 (.agg #[.int .i64 0, .int .i64 0, .int .i64 0, .int .i64 0, .int .i64 0]) 5 40 Tryd.underlying52 hi0 hz0 hz1 hz2 rfl (by decide) _ 0 [] rfl (act_new w) p n cap (acsC L) rfl HL.out HC.out (acsC_one L) (by unfold maxLen; omega) (by omega) (by simp) ?_)
    intro v' w1 hown hgrow _
    have hown2 : ARow w.heap.size w1 v' L := by
      unfold ARow
      rw [HN.out]
      simpa using hown
    have HO := Lib.hid hown2
    have HB := Lib.hid (app_below ((Below.refl _ w).alloc (Nat.le_refl _) (.cells #[] 69)) (Nat.le_refl _) (Nat.le_refl _) (act_new w) hgrow)
    clear hown hgrow hown2
    go_wp2
    go_ret
    exact ⟨_, rfl, HO.out, HB.out⟩
/-- What the box of a loop over acts holds. -/
def KeptA (n₀ : Nat) (w : World) (B : Nat) (L : List Ac) : Prop := ∃ cv : Value, w.heap[B]? = some (.cells #[cv] 52 (0, 0)) ∧ n₀ ≤ B ∧ ARow n₀ w cv L
set_option maxRecDepth 100000 in
theorem aeach_any (ao : Option Addr) (b off cap : Nat) (L : List Ac) (w : World) (h : AArg w ao b off L) (hm : L.length ≤ 100000) :
    Calls Tryd.prog 34 #[.slice ao L.length cap] w fun e w' => ∃ B, e = .returned (.func (.func 61) #[] #[.pointer (some ⟨B, 0, none⟩)]) ∧ KeptA w.heap.size w' B L ∧ Below w.heap.size w w' := by
  have HC := Lib.hid (aclone_any ao b off cap L _ h hm)
  clear h hm
  obtain ⟨n, hn⟩ : ∃ n, L.length = n := ⟨_, rfl⟩
  rw [hn] at HC ⊢
  clear hn
  go_enter Tryd.func34, Tryd.ntmps34
  go_wp2_with fail
  refine HC.out.mono ?_
  rintro e w1 ⟨v, rfl, hrow, hb⟩
  obtain ⟨av, vcap, rfl, _, _⟩ := ownsRow_shape hrow
  have HK := Lib.hid (show KeptA w.heap.size (w1.alloc (.cells #[.slice av L.length vcap] 52)) w1.heap.size L from ⟨_, heap_alloc_new w1 _, hb.size, hrow.alloc _⟩)
  have HB := Lib.hid (hb.alloc hb.size (.cells #[.slice av L.length vcap] 52))
  clear hrow hb
  go_wp2
  go_ret
  exact ⟨_, rfl, HK.out, HB.out⟩
attribute [local go_sem] Oper.semAt_some
abbrev encA (x : Ac × Nat) : Array Value := #[.int .i64 (x.2 : Nat), .agg #[.int .i64 x.1.1, .int .i64 x.1.2.1, .int .i64 x.1.2.2.1, .int .i64 x.1.2.2.2.1, .int .i64 x.1.2.2.2.2]]
set_option maxRecDepth 100000 in
set_option maxHeartbeats 1600000 in
/-- **THE LOOP OVER ACTS**: all of them with their places; or the first ones. -/
theorem aeach1_seq {n n₀ : Nat} (hn : 1 ≤ n) {w : World} {B : Nat} {L : List Ac} (h : KeptA n₀ w B L) (hL : L.length ≤ 100000) :
    ∃ Y : List Nat, (∀ k ∈ Y, n₀ ≤ k ∧ k < w.heap.size) ∧ TurnSeq Fence.wide n Tryd.prog 61 #[.pointer (some ⟨B, 0, none⟩)] encA [] Y (fun xs => xs <+: L.zipIdx) (fun xs _ => xs = L.zipIdx) (fun xs _ => xs <+: L.zipIdx) w := by
  obtain ⟨cv, h1, h2, h3⟩ := h
  refine ⟨cv.ownBlock.toList, fun k hk => ⟨(h3.lt k (by simpa using hk)).1, ownsRow_lt h3 k hk⟩, ?_⟩
  intro l J Jx W hW hJ hY hj0
  have b0 := cell1 (hW.same h1 (by simp))
  have hr := ownsRow_same (w' := W) h3 (fun k _ hl => hW.block k hl (by simp))
  have HJ := Lib.hid hJ
  have HY := Lib.hid hY
  have HR := Lib.hid hr
  obtain ⟨av, vcap, hv, _, _⟩ := ownsRow_shape hr
  subst hv
  clear hJ hY h1 h3 hr
  refine callsIn_of_wp Tryd.func61 rfl trivial ?_ rfl
  simp only [Tryd.ntmps61, List.size_toArray, List.length_cons, List.length_nil, Nat.reduceAdd, Nat.reduceSub, Array.replicate_succ, Array.replicate_zero, List.push_toArray, List.append_toArray, List.nil_append, List.cons_append]
  gi_wp2
  gi_loopw [7] (fun i wr => ∃ k : Nat, k ≤ L.length ∧ i = .int .i64 k ∧ Hid (J (L.zipIdx.take k) wr) ∧ Hid (ARow n₀ wr (.slice av L.length vcap) L)) (fun i _ => L.length - (intOf i).toNat)
  case atStart => exact ⟨0, Nat.zero_le _, rfl, Lib.hid hj0, HR⟩
  case round =>
    obtain ⟨k, hk, rfl, HJ0, HRR⟩ := hrel
    by_cases hlt : k < L.length
    · obtain ⟨g, cap', hv, _, _⟩ := ownsRow_pos HRR.out (by omega)
      simp only [Value.slice.injEq] at hv
      obtain ⟨rfl, _, rfl⟩ := hv
      have rc := row_ac HRR.out k hlt
      obtain ⟨⟨n1, n2, n3, n4, n5⟩, hnd⟩ : ∃ nd, L[k] = nd := ⟨_, rfl⟩
      rw [hnd] at rc
      simp only at rc
      obtain ⟨r0, r1, r2, r3, r4⟩ := rc
      have htk : L.zipIdx.take (k + 1) = L.zipIdx.take k ++ [((n1, n2, n3, n4, n5), k)] := by
        rw [List.take_succ_eq_append_getElem (by rw [List.length_zipIdx]; exact hlt), List.getElem_zipIdx, hnd]
        simp
      have ta : Turned [] wr (wr.alloc (.cells #[.int .i64 n1, .int .i64 n2, .int .i64 n3, .int .i64 n4, .int .i64 n5] 69)) := (Turned.refl [] wr).alloc _
      have hgl : g < wr.heap.size := ownsRow_lt HRR.out g (by simp [Value.ownBlock])
      obtain ⟨fn, tmps, assign, body, hy, hR⟩ := HY.out (L.zipIdx.take k) ((n1, n2, n3, n4, n5), k) (wr.alloc (.cells #[.int .i64 n1, .int .i64 n2, .int .i64 n3, .int .i64 n4, .int .i64 n5] 69)) (HJ.out _ _ _ HJ0.out ta) (by rw [← htk]; exact List.take_prefix _ _)
      have HTK := Lib.hid htk
      have i1 : (k : Int) < L.length := by omega
      have i0 : (0 : Int) ≤ k := by omega
      clear hnd htk ta
      (try dsimp only at hy)
      gi_wp2
      refine hR.mono ?_
      rintro e W3 ⟨hs, hz, ⟨rfl, hj3⟩ | ⟨rfl, hx3⟩⟩
      · have J3 := Lib.hid hj3
        have R3 := Lib.hid (ownsRow_same HRR.out (fun j hj hl => by
          have h1 := hs j hj
          rw [h1]
          exact Below.heap_alloc _ _ _ hl))
        clear hj3 hs hz
        gi_wp2
        go_roundw
        case rel => exact ⟨k + 1, by omega, by simp, by rw [HTK.out]; exact J3, R3⟩
        case measure => simp [intOf]; omega
      · have J3 := Lib.hid hx3
        clear hx3 hs hz
        gi_wp2
        refine bodyPost_ret (results_none rfl _ _ _) rfl ?_
        exact ⟨⟨_, rfl⟩, .inr ⟨_, by rw [← HTK.out]; exact List.take_prefix _ _, J3.out⟩⟩
    · obtain rfl : k = L.length := by omega
      gi_wp2
      go_end0
      have hj := HJ0.out
      rw [List.take_of_length_le (by rw [List.length_zipIdx]; exact Nat.le_refl _)] at hj
      exact ⟨⟨_, rfl⟩, .inl (by first | exact hj | exact ⟨_, rfl, hj⟩)⟩
end Go.Proofs.YtmcfjlkjijaflaaDoor
