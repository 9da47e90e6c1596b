/-
  (*Queue[api.Wait]).All, and what a loop over it hands out.
-/
import Derived.Test.YtiffgkmmibhklaaFqOrderW
namespace Go.Proofs.Ytiffgkmmibhklaa.Wq
open Go.RowKit Go.Maps Go.Shelf
attribute [local go_sem] Oper.semAt_some

abbrev encF (x : Fw) : Array Value := #[.int .i64 x.1, aggW x.2]
abbrev tNs : TypeId := 112
/-- What the box of a loop over a queue holds: its nodes, in a row of their own. -/
def KeptN (n₀ : Nat) (w : World) (B : Nat) (L : List Fw) : Prop :=
  ∃ (cv : Value) (Ns : List (Nd Wt)), w.heap[B]? = some (.cells #[cv] tNs (0, 0)) ∧ n₀ ≤ B ∧ w.ownsRow 0 tNd 6 cv L.length (cellsOf encN Ns) ∧ Ns.map ndF = L ∧ ∀ g ∈ cv.ownBlock.toList, n₀ ≤ g
theorem KeptN.mono {n₀ n₁ : Nat} {w : World} {B : Nat} {L : List Fw} (h : KeptN n₀ w B L) (hn : n₁ ≤ n₀) : KeptN n₁ w B L := by
  obtain ⟨cv, Ns, h1, h2, h3, h4, h5⟩ := h
  exact ⟨cv, Ns, h1, by omega, h3, h4, fun g hg => by have := h5 g hg; omega⟩

set_option maxHeartbeats 400000 in
theorem qall_any {w : World} {b : Nat} {X : List Nat} {m l : Int} {P : List (Pl Wt)} (h1 : FQ w b X m l P) :
    Calls Try.prog 42 #[.pointer (some ⟨b, 0, none⟩)] w fun e w' => ∃ B, e = .returned (.func (.func 60) #[] #[.pointer (some ⟨B, 0, none⟩)]) ∧ KeptN w.heap.size w' B (P.map (·.2)) ∧ Turned [] w w' := by
  have H := Lib.hid (inorder_any h1)
  clear h1
  go_enter Try.func42, Try.ntmps42
  go_wp2_with fail
  refine H.out.mono ?_
  rintro e w1 ⟨v, Ns, rfl, h1, h2, h3, h4⟩
  obtain ⟨av, vcap, rfl, _, _⟩ := ownsRow_shape h2
  have HK := Lib.hid (show KeptN w.heap.size (w1.alloc (.cells #[.slice av P.length vcap] tNs)) w1.heap.size (P.map (·.2)) from ⟨_, Ns, heap_alloc_new w1 _, h4.size, by simpa using h2.alloc _, h1, h3⟩)
  have HT := Lib.hid (h4.alloc (.cells #[.slice av P.length vcap] tNs))
  clear h1 h2 h3 h4
  go_wp2
  go_ret
  exact ⟨_, rfl, HK.out, HT.out⟩
theorem qall_nil (w : World) :
    Calls Try.prog 42 #[.pointer none] w fun e w' => ∃ B, e = .returned (.func (.func 60) #[] #[.pointer (some ⟨B, 0, none⟩)]) ∧ KeptN w.heap.size w' B [] ∧ Turned [] w w' := by
  go_enter Try.func42, Try.ntmps42
  go_wp2_with fail
  refine (inorder_nil w).mono ?_
  rintro e w1 ⟨rfl, rfl⟩
  have HK := Lib.hid (show KeptN w1.heap.size (w1.alloc (.cells #[.slice none 0 0] tNs)) w1.heap.size [] from ⟨_, [], heap_alloc_new w1 _, Nat.le_refl _, World.ownsRow_nil _ _ _ _, rfl, by simp [Value.ownBlock]⟩)
  have HT := Lib.hid ((Turned.refl [] w1).alloc (.cells #[.slice none 0 0] tNs))
  go_wp2
  go_ret
  exact ⟨_, rfl, HK.out, HT.out⟩

set_option maxRecDepth 100000 in
set_option maxHeartbeats 1600000 in
/-- **THE LOOP OVER A QUEUE**: its items, in order; or the first ones of them. -/
theorem all1_seq {n n₀ : Nat} (hn : 1 ≤ n) {w : World} {B : Nat} {L : List Fw} (h : KeptN n₀ w B L) (hL : L.length ≤ 100000) :
    ∃ Y : List Nat, (∀ k ∈ Y, n₀ ≤ k ∧ k < w.heap.size) ∧ TurnSeq Fence.wide n Try.prog 60 #[.pointer (some ⟨B, 0, none⟩)] encF [] Y (fun xs => xs <+: L) (fun xs _ => xs = L) (fun xs _ => xs <+: L) w := by
  obtain ⟨cv, Ns, h1, h2, h3, h4, h5⟩ := h
  refine ⟨cv.ownBlock.toList, fun k hk => ⟨h5 k hk, ownsRow_lt h3 k hk⟩, ?_⟩
  intro l J Jx W hW hJ hY hj0
  have b0 := cell1 (hW.same h1 (by simp))
  have hr := ownsRow_same (w' := W) h3 (fun k _ hl => hW.block k hl (by simp))
  have HJ := Lib.hid hJ
  have HY := Lib.hid hY
  have HR := Lib.hid hr
  have H4 := Lib.hid h4
  have hNl : Ns.length = L.length := by rw [← h4]; simp
  have HNL := Lib.hid hNl
  obtain ⟨av, vcap, hv, _, _⟩ := ownsRow_shape hr
  subst hv
  clear hJ hY h1 h3 h4 hr hNl h5
  refine callsIn_of_wp Try.func60 rfl trivial ?_ rfl
  simp only [Try.ntmps60, List.size_toArray, List.length_cons, List.length_nil, Nat.reduceAdd, Nat.reduceSub, Array.replicate_succ, Array.replicate_zero, List.push_toArray, List.append_toArray, List.nil_append, List.cons_append]
  gi_wp2
  gi_loopw [7] (fun i wr => ∃ k : Nat, k ≤ L.length ∧ i = .int .i64 k ∧ Hid (J (L.take k) wr) ∧ Hid (wr.ownsRow 0 tNd 6 (.slice av L.length vcap) L.length (cellsOf encN Ns))) (fun i _ => L.length - (intOf i).toNat)
  case atStart => exact ⟨0, Nat.zero_le _, rfl, Lib.hid hj0, HR⟩
  case round =>
    obtain ⟨k, hk, rfl, HJ0, HRR⟩ := hrel
    by_cases hlt : k < L.length
    · have hnl : k < Ns.length := by rw [HNL.out]; exact hlt
      obtain ⟨g, cap', hv, _, _⟩ := ownsRow_pos HRR.out (by omega)
      simp only [Value.slice.injEq] at hv
      obtain ⟨rfl, _, rfl⟩ := hv
      have rc := row_cells encN_len (by rw [HNL.out]; exact HRR.out) hnl
      obtain ⟨⟨n1, n2, n3, n4⟩, hnd⟩ : ∃ nd, Ns[k] = nd := ⟨_, rfl⟩
      rw [hnd] at rc
      have r0 : wr.cell? ⟨g, k * 6, none⟩ = some (.int .i64 n1.1) := (rc 0 (by omega)).1
      have r1 : wr.cell? ⟨g, k * 6 + 1, none⟩ = some (.int .i64 n1.2.1) := (rc 1 (by omega)).1
      have r2 : wr.cell? ⟨g, k * 6 + 2, none⟩ = some (.int .u64 n1.2.2) := (rc 2 (by omega)).1
      have r3 : wr.cell? ⟨g, k * 6 + 3, none⟩ = some (.int .i64 n2) := (rc 3 (by omega)).1
      have r4 : wr.cell? ⟨g, k * 6 + 4, none⟩ = some (.int .i64 n3) := (rc 4 (by omega)).1
      have r5 : wr.cell? ⟨g, k * 6 + 5, none⟩ = some (.int .i64 n4) := (rc 5 (by omega)).1
      have hLk : L[k] = (n2, n1) := by
        have h := H4.out
        subst h
        simp [hnd]
      have htk : L.take (k + 1) = L.take k ++ [(n2, n1)] := by rw [List.take_succ_eq_append_getElem hlt, hLk]
      have ta : Turned [] wr (wr.alloc (ndC (n1, n2, n3, n4))) := (Turned.refl [] wr).alloc _
      have hgl : g < wr.heap.size := ownsRow_lt HRR.out g (by simp [Value.ownBlock])
      obtain ⟨fn, tmps, assign, body, hy, hR⟩ := HY.out (L.take k) (n2, n1) (wr.alloc (ndC (n1, n2, n3, n4))) (HJ.out _ _ _ HJ0.out ta) (by rw [← htk]; exact List.take_prefix _ _)
      have HTK := Lib.hid htk
      have i1 : (k : Int) < L.length := by omega
      have i0 : (0 : Int) ≤ k := by omega
      clear hnd hLk htk rc ta
      (try dsimp only at hy)
      gi_wp2
      refine hR.mono ?_
      rintro e W3 ⟨hs, hz, ⟨rfl, hj3⟩ | ⟨rfl, hx3⟩⟩
      · have J3 := Lib.hid hj3
        have R3 := Lib.hid (ownsRow_same HRR.out (fun j hj hl => by
          have h1 := hs j hj
          rw [h1]
          exact Below.heap_alloc _ _ _ hl))
        clear hj3 hs hz
        gi_wp2
        go_roundw
        case rel => exact ⟨k + 1, by omega, by simp, by rw [HTK.out]; exact J3, R3⟩
        case measure => simp [intOf]; omega
      · have J3 := Lib.hid hx3
        clear hx3 hs hz
        gi_wp2
        refine bodyPost_ret (results_none rfl _ _ _) rfl ?_
        exact ⟨⟨_, rfl⟩, .inr ⟨_, by rw [← HTK.out]; exact List.take_prefix _ _, J3.out⟩⟩
    · obtain rfl : k = L.length := by omega
      gi_wp2
      go_end0
      have hj := HJ0.out
      rw [List.take_length] at hj
      exact ⟨⟨_, rfl⟩, .inl (by first | exact hj | exact ⟨_, rfl, hj⟩)⟩
end Go.Proofs.Ytiffgkmmibhklaa.Wq
