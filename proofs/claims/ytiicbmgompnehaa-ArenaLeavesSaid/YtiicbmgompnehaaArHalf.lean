/-
  ArenaLeaves: what stands behind the first loop over the values.
-/
import Derived.Test.YtiicbmgompnehaaArLeafEnv
import Derived.Test.YtiicbmgompnehaaArRange
import Derived.Sort.LoopGhostIn
namespace Go.Proofs.Ytiicbmgompnehaa
open Go.RowKit Go.Shelf
attribute [local go_sem] Oper.semAt_some

noncomputable def restL : Code := (Try.f4.body.bind restRange).getD .skip

set_option maxRecDepth 100000 in
set_option maxHeartbeats 4000000 in
theorem leaves_half (w W : World) (ao : Option Addr) (cap : Nat) (zs : List Int) (nn : Int) (hn0 : 0 ≤ nn) (hn1 : nn ≤ 255) (hz : zs.length ≤ 60) (A bk q : Nat) (X : List Nat) (D1 : Nat) (hD1 : w.heap.size ≤ D1) (hK1 : W.heap[D1]? = some (.deferred (some [])))
    (HR : Hid (REnv w (.slice ao zs.length cap) nn A X zs bk q W)) (hq : (q : Int) = min (zs.length : Int) (nn + 1)) (hbk : bk < W.heap.size)
    (c0 c1 c6 c7 c8 c9 c11 c12 c13 c14 c15 c16 c17 c18 c19 c20 c21 c22 c23 c24 c25 c26 c27 c28 c29 c30 c31 c32 c33 c34 c35 c36 c37 c38 c39 c40 c41 c42 c43 c44 c45 c46 c47 c48 c49 c50 c51 c52 c53 c54 c55 c56 c57 c58 c59 c60 c61 c62 c63 c64 c65 c66 c67 c68 c69 c70 c71 c72 c73 c74 c75 c76 c77 c78 c79 c80 c81 c82 c83 c84 c85 c86 c87 c88 c89 c90 c91 c92 c93 c94 c95 c96 c97 c98 c99 c100 c101 c102 c103 c104 c105 c106 c107 c108 c109 c110 c111 c112 c113 c114 c115 c116 c117 c118 c119 c120 c121 c122 c123 c124 c125 c126 c127 c128 c129 c130 c131 c132 c133 c134 c135 c136 : Value) :
    Code.wp Try.prog restL (bodyPostM Fence.wide 20 Try.prog Try.f4 fun e w' => e = Ending.returned (Value.bool true) ∧ Below w.heap.size w w') { tmps := #[c0, c1, .pointer (some ⟨w.heap.size, 0, none⟩), .pointer (some ⟨w.heap.size + 1, 0, none⟩), .pointer (some ⟨w.heap.size + 1 + 1, 0, none⟩), .pointer (some ⟨A, 0, none⟩), c6, c7, c8, c9, .pointer (some ⟨bk, 0, none⟩), c11, c12, c13, c14, c15, c16, c17, c18, c19, c20, c21, c22, c23, c24, c25, c26, c27, c28, c29, c30, c31, c32, c33, c34, c35, c36, c37, c38, c39, c40, c41, c42, c43, c44, c45, c46, c47, c48, c49, c50, c51, c52, c53, c54, c55, c56, c57, c58, c59, c60, c61, c62, c63, c64, c65, c66, c67, c68, c69, c70, c71, c72, c73, c74, c75, c76, c77, c78, c79, c80, c81, c82, c83, c84, c85, c86, c87, c88, c89, c90, c91, c92, c93, c94, c95, c96, c97, c98, c99, c100, c101, c102, c103, c104, c105, c106, c107, c108, c109, c110, c111, c112, c113, c114, c115, c116, c117, c118, c119, c120, c121, c122, c123, c124, c125, c126, c127, c128, c129, c130, c131, c132, c133, c134, c135, c136], defers := [{ target := .collected D1, args := #[] }] } W := by
  have HK1 := Lib.hid hK1
  have HQ := Lib.hid hq
  have HBD := Lib.hid (lt_of_block hK1)
  clear hK1 hq
  conv => arg 2; whnf
  have tq : Turned [] W (W.alloc (.cells #[.int .i64 0] 3)) := (Turned.refl _ _).alloc _
  have HR0 := Lib.hid (HR.out.turned tq)
  have HK2 := Lib.hid (tq.same HK1.out (by simp))
  have HA0 := Lib.hid (Boxed.new W 3 (.int .i64 0))
  clear tq
  go_wp2_with fail
  refine (Pr.all_any HR0.out.a (by rw [mk_len]; omega)).mono ?_
  rintro e wz ⟨B, rfl, hK, hT⟩
  have HK := Lib.hid hK
  have HR1 := Lib.hid (HR0.out.turned hT)
  have HK3 := Lib.hid (hT.same HK2.out (by simp))
  have HA1 := Lib.hid (Boxed.turned HA0.out hT (by simp))
  have hw1 : W.heap.size + 1 ≤ wz.heap.size := by have := hT.size; simpa using this
  have hws : w.heap.size ≤ W.heap.size := HR.out.e.b.size
  have hDz : D1 < wz.heap.size := by have := HBD.out; omega
  clear hK hT HR0 HK2 HA0
  go_wp2_with fail
  have hn1' : (W.alloc (.cells #[.int .i64 0] 3)).heap.size = W.heap.size + 1 := by simp
  rw [hn1'] at HK
  clear hn1'
  generalize W.heap.size = ba at hbk hw1 hws HK HA1 ⊢
  refine (wpIn_wide (n := 20)).1 ?_
  refine wpIn_rangeFunc_ownG rfl (by omega) (gf := 38) (lb := #[.pointer (some ⟨B, 0, none⟩)]) rfl trivial (enters_of Try.func38 (by kernel_rfl) rfl)
    (Pr.all_stops Fence.wide 19 trivial rfl (by omega) B wz.heap.size _ [ba] (mk zs zs.length) (by rw [mk_len]; omega) wz (Nat.le_refl _) HK.out (by intro x hx; simp at hx; omega) (Nat.le_refl _)) keptK_t (keptK_b (Nat.le_refl _)) (Below.refl _ _) (fun _ => rfl)
    (fun pre V => REnv w (.slice ao zs.length cap) nn A X zs bk q V ∧ Boxed V ba 3 (.int .i64 ((pre.length : Nat) : Int)) ∧ V.heap[D1]? = some (.deferred (some [])))
    (fun _ _ _ => False) ?hI (fun _ _ _ _ _ hs _ _ => hs) ⟨HR1.out, HA1.out, HK3.out⟩ ?a1 ?assign ?body ?done ?stop
  case hI =>
    exact fun pre V V' row hs hg hr => ⟨hs.1.abides hg hr (by omega), block_abides hs.2.1 hg (fun r e => (hr r e).2), (hg.block D1 (lt_of_block hs.2.2) (fun e => by have := (hr D1 e.symm).1; omega)).trans hs.2.2⟩
  case assign =>
    intro l x V K hK
    gi_wp2
    exact hK
  case stop =>
    rintro D c pre V _ _ h _
    exact h.elim
  case body =>
    rintro l pre x V ⟨hR, hA, hKD⟩ hlen
    rw [mk_len] at hlen
    have ca := hA.cell
    have fa := hA.frozen
    have HRR := Lib.hid hR
    have HAA := Lib.hid hA
    have HKD := Lib.hid hKD
    clear hR hA hKD HR1 HK HA1 HK3
    gi_wp2
    have ht : Turned [ba] V (V.setCell ⟨ba, 0, none⟩ (.int .i64 ((pre.length : Int) + 1))) := (Turned.refl _ _).setCell (.inl (by simp)) _
    exact ⟨(KeepsOthers.setCell _ _ _).from _, (Kept.refl _ _ _).setCell (.inl (by simp)) _, HRR.out.setO hbk _, by rw [List.length_append, List.length_singleton]; exact HAA.out.set _, (KeepsOthers.setCell _ _ _).same D1 _ HKD.out rfl⟩
  case done =>
    rintro D2 ys V hD2 rfl ⟨hR, hA, hKD⟩ hK2
    have hyl : (items (mk zs zs.length)).length = zs.length := by
      have h := items_mk zs zs.length zs.length (Nat.le_refl _)
      rw [List.take_of_length_le (by rw [mk_len]; exact Nat.le_refl _)] at h
      rw [h, got_len]
    rw [hyl] at hA
    have hDV : D1 < V.heap.size := lt_of_block hKD
    have hDV2 : D2 < V.heap.size := lt_of_block hK2
    have hVs : w.heap.size ≤ V.heap.size := hR.e.b.size
    have hD2w : w.heap.size ≤ D2 := by omega
    have HRR := Lib.hid hR
    have HAA := Lib.hid hA
    have HKD := Lib.hid hKD
    have HKD2 := Lib.hid hK2
    clear hR hA hKD hK2 hyl HR1 HK HA1 HK3 HR
    go_wp2_with fail
    refine (put_nil _ _).mono ?_
    rintro e v1 ⟨rfl, rfl⟩
    go_wp2_with fail
    refine (get_nil _ _).mono ?_
    rintro e v2 ⟨rfl, rfl⟩
    go_wp2_with fail
    refine (drop_nil _ _).mono ?_
    rintro e v3 ⟨rfl, rfl⟩
    go_wp2_with fail
    refine (all_nil _).mono ?_
    rintro e v4 ⟨rfl, hv4⟩
    obtain rfl := hv4.symm
    go_wp2_with fail
    refine (wpIn_wide (n := 20)).1 ?_
    refine wpIn_rangeFunc_ownG rfl (by omega) (gf := 31) (lb := #[]) rfl trivial (enters_of Try.func31 (by kernel_rfl) rfl)
      (all_nil_stops Fence.wide 19 trivial rfl (Kept [] V.heap.size) V (fun x : Nat × Int => #[Value.int .i64 (x.1 : Int), Value.int .i64 x.2])) keptK_t (keptK_b (Nat.le_refl _)) (Below.refl _ _) (fun _ => rfl)
      (fun _ U => REnv w (.slice ao zs.length cap) nn A X zs bk q U ∧ Boxed U ba 3 (.int .i64 (zs.length : Int)) ∧ U.heap[D1]? = some (.deferred (some [])) ∧ U.heap[D2]? = some (.deferred (some [])))
      (fun _ _ _ => False) ?hI3 (fun _ _ _ _ _ hs _ _ => hs) ⟨HRR.out, HAA.out, HKD.out, HKD2.out⟩ ?a3 ?assign3 ?body3 ?done3 ?stop3
    case hI3 =>
      exact fun pre U U' row hs hg hr => ⟨hs.1.abides hg hr (by omega), block_abides hs.2.1 hg (fun r e => (hr r e).2),
        (hg.block D1 (lt_of_block hs.2.2.1) (fun e => by have := (hr D1 e.symm).1; omega)).trans hs.2.2.1, (hg.block D2 (lt_of_block hs.2.2.2) (fun e => by have := (hr D2 e.symm).1; omega)).trans hs.2.2.2⟩
    case assign3 =>
      intro l x U K hK
      gi_wp2
      exact hK
    case stop3 =>
      rintro D c pre U _ _ h _
      exact h.elim
    case body3 =>
      rintro l pre x U _ hlen
      omega
    case done3 =>
      rintro D3 ys U hD3 _ ⟨hR, hA, hKD1, hKD2⟩ hK3
      have hD3w : w.heap.size ≤ D3 := by omega
      have cl := hR.e.l.cell
      have cn := hR.e.n.cell
      have cr := hR.e.r.cell
      have fr := hR.e.r.frozen
      have ck := hR.k.cell
      have ca := hA.cell
      have n12 : D2 ≠ D1 := by omega
      have n13 : D3 ≠ D1 := by omega
      have n23 : D3 ≠ D2 := by omega
      have hbU : Boxed (U.setCell ⟨w.heap.size + 2, 0, none⟩ (.bool true)) (w.heap.size + 2) 4 (.bool true) := hR.e.r.set _
      have hB := hR.e.b.setCell (p := ⟨w.heap.size + 2, 0, none⟩) (by show w.heap.size ≤ w.heap.size + 2; omega) (.bool true)
      have k3 := (KeepsOthers.setCell U ⟨w.heap.size + 2, 0, none⟩ (.bool true)).same D3 _ hK3 rfl
      have k2 := (KeepsOthers.setCell U ⟨w.heap.size + 2, 0, none⟩ (.bool true)).same D2 _ hKD2 rfl
      have k1 := (KeepsOthers.setCell U ⟨w.heap.size + 2, 0, none⟩ (.bool true)).same D1 _ hKD1 rfl
      have K3 := Lib.hid k3
      have K2 := Lib.hid k2
      have K1 := Lib.hid k1
      have HBU := Lib.hid hbU
      have HB := Lib.hid hB
      clear hR hA hKD1 hKD2 hK3 hbU hB k1 k2 k3 HRR HAA HKD HKD2
      by_cases hmin : (zs.length : Int) ≤ nn + 1
      · have hqz : (q : Int) = zs.length := by have := HQ.out; omega
        rw [hqz] at ck
        clear hqz
        go_wp2
        have p2 : ((U.setCell ⟨w.heap.size + 2, 0, none⟩ (.bool true)).putObj D3 (.deferred none)).heap[D2]? = some (.deferred (some [])) := (World.putObj_heap_other n23.symm).trans K2.out
        have p1 : (((U.setCell ⟨w.heap.size + 2, 0, none⟩ (.bool true)).putObj D3 (.deferred none)).putObj D2 (.deferred none)).heap[D1]? = some (.deferred (some [])) := (World.putObj_heap_other n12.symm).trans ((World.putObj_heap_other n13.symm).trans K1.out)
        refine ⟨by simp, .inl ⟨_, _, rfl, run_takeDeferred K3.out, ⟨by simp, .inl ⟨_, _, rfl, run_takeDeferred p2, ⟨by simp, .inl ⟨_, _, rfl, run_takeDeferred p1, ?_⟩⟩⟩⟩⟩⟩
        have off : ∀ D : Nat, (U.setCell ⟨w.heap.size + 2, 0, none⟩ (.bool true)).heap[D]? = some (.deferred (some [])) → w.heap.size + 2 ≠ D := fun D h e => by
          subst e
          rw [show _ = _ from HBU.out] at h
          cases h
        have hc : ((((U.setCell ⟨w.heap.size + 2, 0, none⟩ (.bool true)).putObj D3 (.deferred none)).putObj D2 (.deferred none)).putObj D1 (.deferred none)).cell? ⟨w.heap.size + 2, 0, none⟩ = some (.bool true) :=
          (World.cell?_of_block (a := ⟨w.heap.size + 2, 0, none⟩) ((World.putObj_heap_other (off D1 K1.out)).trans ((World.putObj_heap_other (off D2 K2.out)).trans (World.putObj_heap_other (off D3 K3.out))))).trans HBU.out.cell
        refine ⟨.bool true, ?_, rfl, ((HB.out.trans (belowK_b (w := w) (Nat.le_refl _) _ D3 _ _ hD3w K3.out rfl rfl)).trans (belowK_b (w := w) (Nat.le_refl _) _ D2 _ _ hD2w p2 rfl rfl)).trans (belowK_b (w := w) (Nat.le_refl _) _ D1 _ _ hD1 p1 rfl rfl)⟩
        simp [results, Try.f4, go_sem, hc]
      · have hqz : (q : Int) = nn + 1 := by have := HQ.out; omega
        have hmin' : nn + 1 < (zs.length : Int) := by omega
        rw [hqz] at ck
        clear hqz hmin
        go_wp2
        have p2 : ((U.setCell ⟨w.heap.size + 2, 0, none⟩ (.bool true)).putObj D3 (.deferred none)).heap[D2]? = some (.deferred (some [])) := (World.putObj_heap_other n23.symm).trans K2.out
        have p1 : (((U.setCell ⟨w.heap.size + 2, 0, none⟩ (.bool true)).putObj D3 (.deferred none)).putObj D2 (.deferred none)).heap[D1]? = some (.deferred (some [])) := (World.putObj_heap_other n12.symm).trans ((World.putObj_heap_other n13.symm).trans K1.out)
        refine ⟨by simp, .inl ⟨_, _, rfl, run_takeDeferred K3.out, ⟨by simp, .inl ⟨_, _, rfl, run_takeDeferred p2, ⟨by simp, .inl ⟨_, _, rfl, run_takeDeferred p1, ?_⟩⟩⟩⟩⟩⟩
        have off : ∀ D : Nat, (U.setCell ⟨w.heap.size + 2, 0, none⟩ (.bool true)).heap[D]? = some (.deferred (some [])) → w.heap.size + 2 ≠ D := fun D h e => by
          subst e
          rw [show _ = _ from HBU.out] at h
          cases h
        have hc : ((((U.setCell ⟨w.heap.size + 2, 0, none⟩ (.bool true)).putObj D3 (.deferred none)).putObj D2 (.deferred none)).putObj D1 (.deferred none)).cell? ⟨w.heap.size + 2, 0, none⟩ = some (.bool true) :=
          (World.cell?_of_block (a := ⟨w.heap.size + 2, 0, none⟩) ((World.putObj_heap_other (off D1 K1.out)).trans ((World.putObj_heap_other (off D2 K2.out)).trans (World.putObj_heap_other (off D3 K3.out))))).trans HBU.out.cell
        refine ⟨.bool true, ?_, rfl, ((HB.out.trans (belowK_b (w := w) (Nat.le_refl _) _ D3 _ _ hD3w K3.out rfl rfl)).trans (belowK_b (w := w) (Nat.le_refl _) _ D2 _ _ hD2w p2 rfl rfl)).trans (belowK_b (w := w) (Nat.le_refl _) _ D1 _ _ hD1 p1 rfl rfl)⟩
        simp [results, Try.f4, go_sem, hc]

theorem into_rest {K : Act → World → Prop} {Q : Exit → Act → World → Prop} (hrest : ∀ a w', Code.wp Try.prog restL Q a w' → K a w') (a : Act) (W : World) (h : Code.wp Try.prog restL Q a W) : Exit.inBlock 2 (Exit.then K Q) .normal a W := hrest _ _ h
theorem into_rest_exit {K : Act → World → Prop} {Q : Exit → Act → World → Prop} {n : Nat} (hrest : ∀ a w', Code.wp Try.prog restL Q a w' → K a w') (a : Act) (W : World) (h : Code.wp Try.prog restL Q a W) :
    (Code.exit 2).wpIn Fence.wide n Try.prog (Exit.inBlock 2 (Exit.then K Q)) a W := wpIn_exit (hrest _ _ h)
end Go.Proofs.Ytiicbmgompnehaa
