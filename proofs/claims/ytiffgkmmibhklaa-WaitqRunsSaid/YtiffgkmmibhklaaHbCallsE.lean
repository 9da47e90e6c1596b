/-
  A heap's calls (element type struct{}; made by gen_hbe.py).
-/
import Derived.Test.YtiffgkmmibhklaaHbTakeE
import Derived.Test.YtiffgkmmibhklaaGH
namespace Go.Proofs.Ytiffgkmmibhklaa.E
open Go.RowKit Go.Maps

/-- Block b holds a heap, room m, of the items D, in any order. -/
def HpC (w : World) (b : Nat) (X : List Nat) (m : Int) (D : List (Hm Unit)) : Prop := ∃ L f, HI w b X m L f L.length ∧ HeapOk D L f ∧ WfM D ∧ (D.length : Int) ≤ m ∧ D.length ≤ 4500

section
variable {w w' : World} {b : Nat} {X Y : List Nat} {m : Int} {D : List (Hm Unit)}
theorem HpC.keep (h : HpC w b X m D) (ht : Turned Y w w') (hd : ∀ k ∈ X, k ∉ Y) : HpC w' b X m D := by
  obtain ⟨L, f, h1, h2⟩ := h
  exact ⟨L, f, h1.keep ht hd, h2⟩
theorem HpC.lt (h : HpC w b X m D) : ∀ k ∈ X, k < w.heap.size := by
  obtain ⟨L, f, h1, h2⟩ := h
  exact h1.lt
theorem HpC.head (h : HpC w b X m D) : b ∈ X := by
  obtain ⟨L, f, h1, h2⟩ := h
  exact h1.head
theorem HpC.perm (h : HpC w b X m D) {D' : List (Hm Unit)} (p : D.Perm D') : HpC w b X m D' := by
  obtain ⟨L, f, h1, h2, h3, h4, h5⟩ := h
  exact ⟨L, f, h1, h2.trans p, fun x hx => h3 x (p.mem_iff.2 hx), by rw [← p.length_eq]; exact h4, by rw [← p.length_eq]; exact h5⟩
theorem HpC.one (h : HpC w b X m D) {x y : Hm Unit} (hx : x ∈ D) (hy : y ∈ D) (e : x.2.1 = y.2.1) : x = y := by
  obtain ⟨L, f, h1, h2, _⟩ := h
  exact PlaceOk.one h2 hx hy e
end

set_option maxHeartbeats 400000 in
theorem len_nil (w : World) : Calls Try.prog 73 #[.pointer none] w fun e w' => e = .returned (.int .i64 0) ∧ w = w' := by
  go_enter Try.func73, Try.ntmps73
  go_wp2
  go_ret
  exact ⟨rfl, rfl⟩
set_option maxHeartbeats 400000 in
theorem len_any {w : World} {b : Nat} {X : List Nat} {m : Int} {D : List (Hm Unit)} (h : HpC w b X m D) : Calls Try.prog 73 #[.pointer (some ⟨b, 0, none⟩)] w fun e w' => e = .returned (.int .i64 (D.length : Nat)) ∧ w = w' := by
  obtain ⟨L, f, h1, h2, _⟩ := h
  have HL := Lib.hid h2.perm.length_eq
  obtain ⟨a, cap, gm, c0, c1, c2, hc1, hc2⟩ := h1.fields
  rw [← HL.out]
  clear h1 h2 hc1 hc2
  go_enter Try.func73, Try.ntmps73
  go_wp2
  go_ret
  exact ⟨rfl, rfl⟩

set_option maxHeartbeats 800000 in
theorem new_any (q : Int) (w : World) : Calls Try.prog 25 #[.int .i64 q] w fun e w' => e = .returned (.pointer (some ⟨w.heap.size + 1, 0, none⟩)) ∧
    HpC w' (w.heap.size + 1) [w.heap.size, w.heap.size + 1] (min (max q 0) 4096) [] ∧ Turned [] w w' := by
  have hmm := @run_makeMap Try.prog
  have hfin : ∀ v : Int, 0 ≤ v → HpC ((w.alloc (.map #[] 0)).alloc (.cells #[.int .i64 v, .slice none 0 0, .map (some w.heap.size)] tHp)) (w.heap.size + 1) [w.heap.size, w.heap.size + 1] v [] ∧ Turned [] w ((w.alloc (.map #[] 0)).alloc (.cells #[.int .i64 v, .slice none 0 0, .map (some w.heap.size)] tHp)) := by
    intro v hv
    refine ⟨⟨[], fun _ => none, ⟨w.heap.size, [w.heap.size + 1], .map [], ⟨.slice none 0 0, ?_, World.ownsRow_nil _ _ _ _, rfl⟩, ?_, by simp [Maps.size], ReadsF.empty, rfl⟩, ⟨fun j h0 h1 => by simp at h1, ⟨fun j hj => by simp at hj, fun i v h => by cases h⟩, List.Perm.refl _⟩, fun x hx => by simp at hx, by simpa using hv, by simp⟩, ((Turned.refl _ w).alloc _).alloc _⟩
    · have := heap_alloc_new (w.alloc (.map #[] 0)) (.cells #[.int .i64 v, .slice none 0 0, .map (some w.heap.size)] tHp)
      simp only [World.size_alloc] at this
      exact this
    · exact (World.ownsMap_made w _ _ _).alloc _
  have HF := Lib.hid hfin
  clear hfin
  go_enter Try.func25, Try.ntmps25
  go_wp2
  all_goals
    go_ret
    first
      | (rw [show min (max q 0) 4096 = 0 by omega]; exact ⟨rfl, HF.out _ (by omega)⟩)
      | (rw [show min (max q 0) 4096 = 4096 by omega]; exact ⟨rfl, HF.out _ (by omega)⟩)
      | (rw [show min (max q 0) 4096 = q by omega]; exact ⟨rfl, HF.out _ (by omega)⟩)


set_option maxHeartbeats 800000 in
theorem push_met {w : World} {b : Nat} {X : List Nat} {m : Int} {D : List (Hm Unit)} (h : HpC w b X m D) (x : Hm Unit) (hx : (litN x.2.1).wf = true) (hm : ∃ y ∈ D, y.2.1 = x.2.1) :
    Calls Try.prog 28 #[.pointer (some ⟨b, 0, none⟩), .agg #[.int .u64 x.1, .int .i64 x.2.1], .agg #[]] w fun e w' => e = .returned (.int .i64 12) ∧ Turned [] w w' := by
  have hb := h.lt b h.head
  obtain ⟨L, f, h1, h2, _⟩ := h
  obtain ⟨y, hy, hyx⟩ := hm
  obtain ⟨j, hj, hfj, _⟩ := h2.some_of hy
  rw [hyx] at hfj
  obtain ⟨x1, x2, x3⟩ := x
  simp only at hx hyx hfj ⊢
  obtain ⟨W, hW⟩ : ∃ W, (w.alloc (.cells #[.int .u64 x1, .int .i64 x2] tKy)).alloc (.cells #[] tEm) = W := ⟨_, rfl⟩
  have TW : Turned [] w W := hW ▸ ((Turned.refl [] w).alloc _).alloc _
  have KW : W.heap[w.heap.size]? = some (.cells #[.int .u64 x1, .int .i64 x2] tKy (0, 0)) := hW ▸ (Below.heap_alloc _ _ _ (by simp)).trans (heap_alloc_new w _)
  have h3 := h1.keep TW (by simp)
  obtain ⟨a, cap, gm, DD, hb0, ho0, hc1, hc2, hm0, hs0, hf0, hX⟩ := HI.view h3
  obtain ⟨c0, c1, c2, _⟩ := cells3' hb0
  obtain ⟨k0, k1, _⟩ := two_cells KW
  have hlook := fun q => look_eq (w := W.drewN q) hm0 hf0 hx
  simp only [hfj] at hlook
  have HT := Lib.hid TW
  clear h1 h2 h3 hm0 hf0 ho0 hb0 TW KW hX
  go_enter Try.func28, Try.ntmps28
  go_wp2_with fail
  go_quiet (fail)
  go_wp2
  go_ret
  exact ⟨rfl, HT.out.drewN _⟩

set_option maxHeartbeats 800000 in
theorem push_full {w : World} {b : Nat} {X : List Nat} {m : Int} {D : List (Hm Unit)} (h : HpC w b X m D) (x : Hm Unit) (hx : (litN x.2.1).wf = true) (hm : ∀ y ∈ D, y.2.1 ≠ x.2.1) (hful : m ≤ D.length) :
    Calls Try.prog 28 #[.pointer (some ⟨b, 0, none⟩), .agg #[.int .u64 x.1, .int .i64 x.2.1], .agg #[]] w fun e w' => e = .returned (.int .i64 3) ∧ Turned [] w w' := by
  have hb := h.lt b h.head
  obtain ⟨L, f, h1, h2, _, hmm, _⟩ := h
  have hfj := h2.none_of hm
  have hfu : ((L.length : Int) == m) = true := by
    have := h2.perm.length_eq
    simp
    omega
  obtain ⟨x1, x2, x3⟩ := x
  simp only at hx hfj ⊢
  obtain ⟨W, hW⟩ : ∃ W, (w.alloc (.cells #[.int .u64 x1, .int .i64 x2] tKy)).alloc (.cells #[] tEm) = W := ⟨_, rfl⟩
  have TW : Turned [] w W := hW ▸ ((Turned.refl [] w).alloc _).alloc _
  have KW : W.heap[w.heap.size]? = some (.cells #[.int .u64 x1, .int .i64 x2] tKy (0, 0)) := hW ▸ (Below.heap_alloc _ _ _ (by simp)).trans (heap_alloc_new w _)
  have h3 := h1.keep TW (by simp)
  obtain ⟨a, cap, gm, DD, hb0, ho0, hc1, hc2, hm0, hs0, hf0, hX⟩ := HI.view h3
  obtain ⟨c0, c1, c2, _⟩ := cells3' hb0
  obtain ⟨k0, k1, _⟩ := two_cells KW
  have hlook := fun q => look_eq (w := W.drewN q) hm0 hf0 hx
  simp only [hfj] at hlook
  have HT := Lib.hid TW
  clear h1 h2 h3 hm0 hf0 ho0 hb0 TW KW hX hm hful hmm
  go_enter Try.func28, Try.ntmps28
  go_wp2_with fail
  go_quiet (fail)
  go_wp2_with fail
  go_quiet (fail)
  go_wp2
  go_ret
  exact ⟨rfl, (HT.out.drewN _).drewN _⟩

theorem infoHi : (Try.prog.info? tHi).map (fun i => (i.zero, i.size, i.bytes)) = some (some (.agg #[.int .u64 0, .int .i64 0]), 2, 24) := by kernel_rfl
theorem two_new (w : World) (B : Nat) (hB : w.heap.size = B) (x y : Value) (t : TypeId) : ∀ j u, [x, y][j]? = some u → (w.alloc (.cells #[x, y] t)).cell? ((⟨B, 0, none⟩ : Addr).add j) = some u := by
  subst hB
  intro j u hj
  have hh := heap_alloc_new w (.cells #[x, y] t)
  rw [Addr.add_lit]
  simp only [World.cell?, hh]
  match j, hj with
  | 0, hj => simpa using hj
  | 1, hj => simpa using hj
theorem encH_one (x : Hm Unit) : ∀ u ∈ encH x, u.oneCell' = true := by
  intro u hu
  simp at hu
  rcases hu with rfl | rfl <;> rfl

set_option maxRecDepth 100000 in
set_option maxHeartbeats 1600000 in
theorem push_yes {w : World} {b : Nat} {X : List Nat} {m : Int} {D : List (Hm Unit)} (h : HpC w b X m D) (x : Hm Unit) (hx : (litN x.2.1).wf = true) (hm : ∀ y ∈ D, y.2.1 ≠ x.2.1) (hful : (D.length : Int) < m) (hD : D.length < 4500) :
    Calls Try.prog 28 #[.pointer (some ⟨b, 0, none⟩), .agg #[.int .u64 x.1, .int .i64 x.2.1], .agg #[]] w fun e w' => e = .returned (.int .i64 0) ∧
      ∃ X', HpC w' b X' m (D ++ [x]) ∧ Turned X w w' ∧ Newer X w.heap.size X' := by
  have hb := h.lt b h.head
  obtain ⟨L, f, h1, h2, hwD, hmm, _⟩ := h
  have hfj := h2.none_of hm
  have hle := h2.perm.length_eq
  have hfu : ((L.length : Int) == m) = false := by simp; omega
  have hL : L.length < 4500 := by omega
  have hoo := h2.opened (0, 0, ()) x hfj
  have HOO := Lib.hid hoo
  have HWM : Hid (WfM (D ++ [x])) := Lib.hid (by
    intro y hy
    rcases List.mem_append.1 hy with hy | hy
    · exact hwD y hy
    · simp at hy
      rw [hy]
      exact hx)
  have HLE := Lib.hid hle
  have HMM : Hid (((D ++ [x]).length : Int) ≤ m ∧ (D ++ [x]).length ≤ 4500) := Lib.hid (by simp; omega)
  obtain ⟨x1, x2, x3⟩ := x
  simp only at hx hfj HOO HWM HMM ⊢
  obtain ⟨W, hW⟩ : ∃ W, (w.alloc (.cells #[.int .u64 x1, .int .i64 x2] tKy)).alloc (.cells #[] tEm) = W := ⟨_, rfl⟩
  have TW : Turned [] w W := hW ▸ ((Turned.refl [] w).alloc _).alloc _
  have SW : W.heap.size = w.heap.size + 2 := by rw [← hW]; simp
  have KW : W.heap[w.heap.size]? = some (.cells #[.int .u64 x1, .int .i64 x2] tKy (0, 0)) := hW ▸ (Below.heap_alloc _ _ _ (by simp)).trans (heap_alloc_new w _)
  have h3 := h1.keep TW (by simp)
  have H3 := Lib.hid h3
  obtain ⟨a, cap, gm, DD, hb0, ho0, hc1, hc2, hm0, hs0, hf0, hX⟩ := HI.view h3
  obtain ⟨c0, c1, c2, cf⟩ := cells3' hb0
  obtain ⟨k0, k1, _⟩ := two_cells KW
  have hlook := fun q => look_eq (w := W.drewN q) hm0 hf0 hx
  simp only [hfj] at hlook
  have HT := Lib.hid TW
  have HKW := Lib.hid KW
  have HSW := Lib.hid SW
  have HB0 := Lib.hid hb0
  have HO0 := Lib.hid ho0
  have HM0 := Lib.hid hm0
  have HS0 := Lib.hid hs0
  have HF0 := Lib.hid hf0
  have HX := Lib.hid hX
  have cf1 := cf 1
  obtain ⟨ii, hi, hz0, hz1, hz2⟩ := info_parts infoHi
  clear h1 h2 h3 hm0 hf0 ho0 hb0 TW KW hX hm hful hmm hs0 SW cf hwD hoo hle hD
  go_enter Try.func28, Try.ntmps28
  go_wp2_with fail
  go_quiet (fail)
  obtain ⟨n1, hn1⟩ : ∃ n1, nq = n1 := ⟨_, rfl⟩
  rw [hn1]
  clear hn1
  go_wp2_with fail
  go_quiet (fail)
  obtain ⟨V, hV⟩ : ∃ V, (W.drewN n1).drewN nq = V := ⟨_, rfl⟩
  have TV : Turned [] W V := hV ▸ ((Turned.refl [] W).drewN _).drewN _
  have SV : V.heap.size = W.heap.size := by rw [← hV]; rfl
  have hbV := TV.same HB0.out (by simp)
  have hoV := ownsRow_same (w' := V) HO0.out fun k _ hl => TV.block k hl (by simp)
  have hmV := ownsMap_same (w' := V) HM0.out (TV.block gm HM0.out.lt (by simp))
  obtain ⟨v0, v1, v2, vf⟩ := cells3' hbV
  have vf1 := vf 1
  have n0 : b < V.heap.size := by have := HSW.out; omega
  have KV := TV.same HKW.out (by simp)
  have HBV := Lib.hid hbV
  have HOV := Lib.hid hoV
  have HMV := Lib.hid hmV
  have HTV := Lib.hid (HT.out.j TV)
  have HKV := Lib.hid KV
  have HSV := Lib.hid SV
  rw [hV]
  clear hV TV SV hbV hoV hmV vf KV c0 c1 c2 cf1 k0 k1 hlook hW
  go_wp2_with (at_builtin; refine wpList_append_any _ rfl _ _ 86 rfl tHi ii (.agg #[.int .u64 0, .int .i64 0]) 2 24 Try.underlying86 hi hz0 hz1 hz2 rfl (by decide) _ L.length (cellsOf encH L) rfl (HOV.out.alloc _) (some ⟨V.heap.size, 0, none⟩) 1 1 [.int .u64 0, .int .i64 0] rfl rfl (by simp) (by intro ad had; cases had; exact two_new _ V.heap.size rfl _ _ _) (encH_one (0, 0, ())) (by unfold maxLen; omega) (by omega) ?_)
  intro a' cap' W1 hown hgrow hnew
  have R := LAt.appended (W := V) (W2 := V.alloc (.cells #[.int .u64 0, .int .i64 0] tHi)) (W1 := W1) (tS := tHp) (tE := tHi) (k := 2) (enc := encH) (cs := fun v => #[.int .i64 m, v, .map (some gm)]) (v := .slice a L.length cap) (i := 1) (v' := .slice a' (L.length + 1) cap') (M := L ++ [(0, 0, ())]) (by decide) rfl HBV.out HOV.out ((Turned.refl [] V).alloc _) hgrow (by rw [cellsOf_snoc, List.length_append]; exact hown) (by intro q hq; have := hnew q (by simpa using hq); simpa using this)
  obtain ⟨w1b, R1, R2, R3⟩ := R
  obtain ⟨V2, hV2⟩ : ∃ V2, W1.setCell ⟨b, 1, none⟩ (.slice a' (L.length + 1) cap') = V2 := ⟨_, rfl⟩
  rw [hV2] at R1 R2
  obtain ⟨_, y1, _, yf⟩ := cells3' w1b
  have yf1 := yf 1
  have hgv : gm ∉ b :: (Value.slice a L.length cap).ownBlock.toList := by
    intro hg
    rcases List.mem_cons.1 hg with hg | hg
    · exact ownsMap_off HMV.out HBV.out hg
    · exact ownsMap_row HMV.out HOV.out hg
  have hI2 : HAt tHp tHi encH V2 b (gm :: b :: (Value.slice a' (L.length + 1) cap').ownBlock.toList) m (L ++ [(0, 0, ())]) f L.length :=
    ⟨gm, _, DD, R1, ownsMap_same HMV.out (R2.block gm HMV.out.lt hgv), HS0.out, HF0.out, rfl⟩
  have hX := HX.out
  have tall : Turned X w V2 := (HTV.out.up : Turned X w V).trans (R2.mono (fun k hk => .inl (by rw [hX]; exact List.mem_cons_of_mem _ hk))) (Newer.refl _ _)
  have new2 : Newer X w.heap.size (gm :: b :: (Value.slice a' (L.length + 1) cap').ownBlock.toList) := by
    intro k hk
    rcases List.mem_cons.1 hk with rfl | hk
    · exact .inl (by rw [hX]; simp)
    · rcases R3 k hk with h | h
      · exact .inl (by rw [hX]; exact List.mem_cons_of_mem _ h)
      · have := HSV.out
        have := HSW.out
        exact .inr (by omega)
  have hKx : w.heap.size ∉ b :: (Value.slice a L.length cap).ownBlock.toList := by
    intro hk
    have := H3.out.lt
    rcases List.mem_cons.1 hk with hk | hk
    · omega
    · obtain ⟨cur, hc⟩ := ownsRow_type HOV.out _ hk
      rw [HKV.out] at hc
      cases hc
  have KV2 := R2.same HKV.out hKx
  obtain ⟨V3, hV3⟩ : ∃ V3, V2.drew = V3 := ⟨_, rfl⟩
  have T23 : Turned [] V2 V3 := hV3 ▸ (Turned.refl [] V2).drew
  have hset := settle_any (hI2.keep T23 (by simp)) HOO.out HWM.out (by have := HMM.out.2; omega) (by omega)
  simp only [hfj, Option.isSome_none, Bool.false_eq_true, if_false] at hset
  obtain ⟨k0, k1, _⟩ := two_cells (T23.same KV2 (by simp))
  have z1 : V3.cell? ⟨b, 1, none⟩ = some (.slice a' (L.length + 1) cap') := by
    obtain ⟨v, h1, h2, h3⟩ := R1
    have h4 := (cells3' (T23.same h1 (by simp))).2.1
    have h5 : (W1.setCell ⟨b, 1, none⟩ (.slice a' (L.length + 1) cap')).heap[b]? = some (.cells #[.int .i64 m, .slice a' (L.length + 1) cap', .map (some gm)] tHp (0, 0)) := by
      rw [heap_setCell_same _ _ _ _ _ _ w1b]
      rfl
    rw [hV2] at h5
    exact (cells3' (T23.same h5 (by simp))).2.1
  have HSet := Lib.hid hset
  have HEnd := Lib.hid (And.intro ((tall.trans T23.up (Newer.refl _ _)) : Turned X w V3) (And.intro new2 (show w.heap.size ≤ V3.heap.size from (tall.trans T23.up (Newer.refl _ _) : Turned X w V3).size)))
  have HXn := Lib.hid hX
  have HVs := Lib.hid (show V.heap.size ≤ V3.heap.size by have := R2.size; have := T23.size; omega)
  clear hown hgrow hnew w1b R1 R2 R3 yf hgv hI2 hX tall new2 hKx KV2 T23 hset hi hz0 hz1 hz2 v0 v1 vf1
  go_wp2_with fail
  refine tail_at 10 hV3 (by kernel_rfl) (by kernel_rfl) ?_
  clear hV3
  simp only [List.take_succ_cons, List.take_zero, List.drop_succ_cons, List.drop_zero]
  repeat still_step
  refine wpStill_nil ?_
  go_wp2_with fail
  refine HSet.out.mono ?_
  rintro e V4 ⟨rfl, L', f', h4, o4, t4⟩
  have HF := Lib.hid (And.intro h4 (And.intro o4 t4))
  clear h4 o4 t4 k0 k1 z1
  go_wp2
  go_ret
  obtain ⟨h4, o4, t4⟩ := HF.out
  obtain ⟨t3, nw, _⟩ := HEnd.out
  have e4 : L'.length = L.length + 1 := by
    have := o4.perm.length_eq
    have := HLE.out
    simp at *
    omega
  refine ⟨rfl, _, ⟨L', f', ?_, o4, HWM.out, HMM.out⟩, t3.trans t4 nw, nw⟩
  rw [e4]
  exact h4

set_option maxHeartbeats 800000 in
theorem pop_none {w : World} (b : Option Nat) (hb : ∀ k, b = some k → ∃ X m, HpC w k X m []) :
    Calls Try.prog 57 #[.pointer (b.map (⟨·, 0, none⟩))] w fun e w' => e = .returned (.tuple #[.agg #[.int .u64 0, .int .i64 0], .agg #[], .bool false]) ∧ Turned [] w w' := by
  obtain ⟨W, hW⟩ : ∃ W, (w.alloc (.cells #[.int .u64 0, .int .i64 0] tKy)).alloc (.cells #[] tEm) = W := ⟨_, rfl⟩
  have TW : Turned [] w W := hW ▸ ((Turned.refl [] w).alloc _).alloc _
  have KW : W.heap[w.heap.size]? = some (.cells #[.int .u64 0, .int .i64 0] tKy (0, 0)) := hW ▸ (Below.heap_alloc _ _ _ (by simp)).trans (heap_alloc_new w _)
  have hlen : Calls Try.prog 73 #[.pointer (b.map (⟨·, 0, none⟩))] W fun e w' => e = .returned (.int .i64 0) ∧ W = w' := by
    cases b with
    | none => exact len_nil W
    | some k =>
      obtain ⟨X, m, h⟩ := hb k rfl
      exact len_any (h.keep TW (by simp))
  have HL := Lib.hid hlen
  have HN := Lib.hid (nothing_any W)
  have HT := Lib.hid TW
  have HK := Lib.hid KW
  clear hlen TW KW hb
  obtain ⟨p, hp⟩ : ∃ p, b.map (fun k => (⟨k, 0, none⟩ : Addr)) = p := ⟨_, rfl⟩
  rw [hp] at HL ⊢
  clear hp
  go_enter Try.func57, Try.ntmps57
  go_wp2_with fail
  with_reducible refine HL.out.mono ?_
  rintro e w1 ⟨rfl, rfl⟩
  go_wp2_with fail
  with_reducible refine HN.out.mono ?_
  rintro e V ⟨rfl, t1⟩
  have MM := Lib.hid (t1.same HK.out (by simp))
  obtain ⟨b0, b1, bf⟩ := two_cells MM.out
  have bf0 := bf 0
  have bf1 := bf 1
  have ht : Turned [] w ((V.setCell ⟨w.heap.size, 0, none⟩ (.int .u64 0)).setCell ⟨w.heap.size, 1, none⟩ (.int .i64 0)) := ((HT.out.j t1).setCell (.inr (by simp)) _).setCell (.inr (by simp)) _
  have HE := Lib.hid ht
  clear t1 bf ht
  go_wp2
  (try simp only [Exit.inBlock, Exit.then])
  refine bodyPost_ret (key_result rfl rfl rfl rfl (key_stored MM.out)) rfl ?_
  exact ⟨rfl, HE.out⟩

set_option maxHeartbeats 800000 in
theorem pop_some {w : World} {b : Nat} {X : List Nat} {m : Int} {D : List (Hm Unit)} (h : HpC w b X m D) (hD : 0 < D.length) :
    Calls Try.prog 57 #[.pointer (some ⟨b, 0, none⟩)] w fun e w' => ∃ x D', e = .returned (.tuple #[.agg #[.int .u64 x.1, .int .i64 x.2.1], .agg #[], .bool true]) ∧
      D.Perm (x :: D') ∧ (∀ y ∈ D, ¬ KLt (y.1, y.2.1) (x.1, x.2.1)) ∧ HpC w' b X m D' ∧ Turned X w w' := by
  obtain ⟨W, hW⟩ : ∃ W, (w.alloc (.cells #[.int .u64 0, .int .i64 0] tKy)).alloc (.cells #[] tEm) = W := ⟨_, rfl⟩
  have TW : Turned [] w W := hW ▸ ((Turned.refl [] w).alloc _).alloc _
  have KW : W.heap[w.heap.size]? = some (.cells #[.int .u64 0, .int .i64 0] tKy (0, 0)) := hW ▸ (Below.heap_alloc _ _ _ (by simp)).trans (heap_alloc_new w _)
  have hXl := h.lt
  have hRX : w.heap.size ∉ X := fun hx => by have := hXl _ hx; omega
  have hb := h.lt b h.head
  have h1 := h.keep TW (by simp)
  have HL := Lib.hid (len_any h1)
  obtain ⟨L, f, i1, i2, i3, i4, i5⟩ := h1
  have hle := i2.perm.length_eq
  have hL0 : 0 < L.length := by omega
  have hwL : WfM L := fun x hx => i3 x (i2.perm.mem_iff.1 hx)
  have HTk := Lib.hid (show Calls Try.prog 51 #[.pointer (some ⟨b, 0, none⟩), .int .i64 0] W _ from take_any i1 i2 hwL (by omega) (Nat.le_refl _) 0 hL0)
  obtain ⟨hmem, hlow⟩ := i2.top hL0
  have hpm := i2.perm.symm.trans (get_perm L 0 hL0)
  obtain ⟨x, hx⟩ : ∃ x, L[0] = x := ⟨_, rfl⟩
  rw [hx] at HTk hpm hlow hmem
  have HP := Lib.hid hpm
  have HLo := Lib.hid hlow
  have HW : Hid (WfM (L.eraseIdx 0) ∧ ((L.eraseIdx 0).length : Int) ≤ m ∧ (L.eraseIdx 0).length ≤ 4500 ∧ (L.eraseIdx 0).length = L.length - 1) := Lib.hid ⟨fun y hy => hwL y (List.mem_of_mem_eraseIdx hy), by rw [List.length_eraseIdx, if_pos hL0]; omega, by rw [List.length_eraseIdx, if_pos hL0]; omega, by rw [List.length_eraseIdx, if_pos hL0]⟩
  have HT := Lib.hid TW
  have HK := Lib.hid KW
  have hne : ((D.length : Int) == 0) = false := by simp; exact fun e => by simp [e] at hD
  obtain ⟨x1, x2, x3⟩ := x
  simp only at HTk HP HLo
  clear TW KW h i1 i2 i3 hXl hmem hpm hlow hx hwL hle
  go_enter Try.func57, Try.ntmps57
  go_wp2_with fail
  with_reducible refine HL.out.mono ?_
  rintro e w1 ⟨rfl, rfl⟩
  go_wp2_with fail
  with_reducible refine HTk.out.mono ?_
  rintro e V ⟨rfl, L', f', g1, g2, g3⟩
  have MM := Lib.hid (g3.same HK.out hRX)
  obtain ⟨b0, b1, bf⟩ := two_cells MM.out
  have bf0 := bf 0
  have bf1 := bf 1
  have HG := Lib.hid (And.intro g1 (And.intro g2 g3))
  clear g1 g2 g3 bf
  go_wp2
  (try simp only [Exit.inBlock, Exit.then])
  refine bodyPost_ret (key_result rfl rfl rfl rfl (key_stored MM.out)) rfl ?_
  obtain ⟨g1, g2, g3⟩ := HG.out
  obtain ⟨w1, w2, w3, w4⟩ := HW.out
  have ht : Turned [w.heap.size] V ((V.setCell ⟨w.heap.size, 0, none⟩ (.int .u64 x1)).setCell ⟨w.heap.size, 1, none⟩ (.int .i64 x2)) := ((Turned.refl _ V).setCell (.inl (by simp)) _).setCell (.inl (by simp)) _
  have e4 : L'.length = L.length - 1 := by rw [g2.perm.length_eq, w4]
  refine ⟨(x1, x2, x3), L.eraseIdx 0, rfl, HP.out, HLo.out, ⟨L', f', ?_, g2, w1, w2, w3⟩, ?_⟩
  · rw [e4]
    exact HAt.keep g1 ht (fun k hk hw => by simp at hw; subst hw; exact hRX hk)
  · exact ((HT.out.up : Turned X w W).trans g3 (Newer.refl _ _)).trans ht (fun k hk => .inr (by simp at hk; omega))
end Go.Proofs.Ytiffgkmmibhklaa.E
