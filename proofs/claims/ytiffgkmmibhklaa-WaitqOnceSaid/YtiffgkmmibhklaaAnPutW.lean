/-
  Arena[node[int]]: open, Put, Set, Drop (element type api.Wait; made by gen_ffw.py).
-/
import Derived.Test.YtiffgkmmibhklaaAnHasW
namespace Go.Proofs.Ytiffgkmmibhklaa.Wq
open Go.RowKit

theorem infoSn : (Try.prog.info? tSn).map (fun i => (i.zero, i.size, i.bytes)) = some (some (.agg #[.int .i64 0, .int .i64 0, .int .u64 0, .int .i64 0, .int .i64 0, .int .i64 0, .bool false]), 7, 56) := by kernel_rfl
abbrev nd0 : Nd Wt := ((0, 0, 0), 0, 0, 0)

set_option maxHeartbeats 400000 in
theorem anopen_new {w : World} {b : Nat} {X : List Nat} {m : Int} {S : List (Nd Wt × Bool)} (h : AnI w b X m S []) (hS : S.length ≤ 1000000) :
    Calls Try.prog 85 #[.pointer (some ⟨b, 0, none⟩)] w fun e w' => e = .returned (.int .i64 (S.length : Int)) ∧ ∃ X', AnI w' b X' m (S ++ [(nd0, false)]) [] ∧ Turned X w w' ∧ Newer X w.heap.size X' := by
  obtain ⟨sv, fv, h1, h2, h3, rfl⟩ := h
  obtain ⟨_, c1, c2, hf⟩ := cells3a h1
  obtain ⟨a, cap, hsv, _, _⟩ := ownsRow_shape h2
  obtain ⟨a', cap', hfv, _, _⟩ := ownsRow_shape h3
  obtain ⟨i0, hi, hz0, hz1, hz2⟩ := info_parts infoSn
  have hf1 := hf 1
  have hf2 := hf 2
  have H1 := Lib.hid h1
  have H2 := Lib.hid h2
  have H3 := Lib.hid h3
  have HS := Lib.hid hsv
  have hsl := hS
  rw [hsv] at c1
  rw [hfv] at c2
  clear h1 h2 h3 hf hsv hfv hS
  go_enter Try.func85, Try.ntmps85
  go_wp2_with (at_builtin; refine wpList_append_at _ rfl _ _ 123 rfl tSn i0 (.agg #[.int .i64 0, .int .i64 0, .int .u64 0, .int .i64 0, .int .i64 0, .int .i64 0, .bool false]) 7 56 Try.underlying123 hi hz0 hz1 hz2 rfl (by decide) _ S.length (slots encN S) rfl (by rw [← HS.out]; exact H2.out.alloc _) ⟨w.heap.size, 0, none⟩ 1 1 [.int .i64 0, .int .i64 0, .int .u64 0, .int .i64 0, .int .i64 0, .int .i64 0, .bool false] rfl (by decide) rfl (seven_new _ _ _ _ _ _ _ _ _) (by intro u hu; simp at hu; rcases hu with rfl | rfl | rfl | rfl | rfl | rfl | rfl <;> rfl) (by unfold maxLen; omega) (by omega) ?_)
  intro g cp w1 hown hgrow hw _ _
  rw [← HS.out] at hgrow hw
  obtain ⟨hb1, _⟩ := ArAt.appended1 (k := 6) H1.out H2.out H3.out (by decide) (by decide) _ hgrow
  have R := ArAt.appended2 (k := 6) H1.out H2.out H3.out (by decide) (by decide) (by decide) _ hgrow (n := S.length + 1) (T := S ++ [(nd0, false)]) (by simp) (by rw [slots_append]; exact hown) (by simpa using hw)
  obtain ⟨_, d1, _, hf⟩ := cells3a hb1
  have e1 := hf 1
  have RR := Lib.hid R
  clear hown hgrow hw R hb1 hf c1 c2 hf1 hf2
  go_wp2
  go_ret
  exact ⟨rfl, RR.out⟩

set_option maxHeartbeats 400000 in
theorem anopen_old {w : World} {b : Nat} {X : List Nat} {m : Int} {S : List (Nd Wt × Bool)} {F : List Nat} {f : Nat} (h : AnI w b X m S (F ++ [f])) (hF : F.length ≤ 1000000) :
    Calls Try.prog 85 #[.pointer (some ⟨b, 0, none⟩)] w fun e w' => e = .returned (.int .i64 (f : Int)) ∧ AnI w' b X m S F ∧ Turned X w w' := by
  obtain ⟨sv, fv, h1, h2, h3, rfl⟩ := h
  have hl : (F ++ [f]).length = F.length + 1 := by simp
  rw [hl] at h3
  obtain ⟨g, cap, rfl, hc, hm⟩ := ownsRow_pos h3 (by omega)
  obtain ⟨_, c1, c2, hf⟩ := cells3a h1
  have R := ArAt.popped (k := 6) h1 h2 h3 (by decide) (by decide)
  have hf2 := hf 2
  have hcell : w.cell? ⟨g, F.length, none⟩ = some (.int .i64 (f : Int)) := by
    rw [h3.cellAt _ (by omega), places_snoc, List.getElem?_append_right (by rw [places_len]; omega), places_len]
    simp
  have i0 : (0 : Int) ≤ (F.length : Int) := by omega
  have i1 : (F.length : Int) < (F.length : Int) + 1 := by omega
  have i2 : F.length ≤ cap := by omega
  have RR := Lib.hid R
  clear h1 h2 h3 hf R hl
  go_enter Try.func85, Try.ntmps85
  go_wp2
  go_ret
  exact ⟨rfl, RR.out⟩

set_option maxHeartbeats 800000 in
theorem anput_new {w : World} {b : Nat} {X : List Nat} {m : Int} {S : List (Nd Wt × Bool)} (h : AnI w b X m S []) (v : Nd Wt) (hS : S.length ≤ 1000000) (hm : (S.length : Int) ≠ m) :
    Calls Try.prog 77 #[.pointer (some ⟨b, 0, none⟩), ndV v] w fun e w' => e = .returned (.tuple #[.int .i64 (S.length : Int), .int .i64 0]) ∧
      ∃ X', AnI w' b X' m (S ++ [(v, true)]) [] ∧ Turned X w w' ∧ Newer X w.heap.size X' := by
  obtain ⟨v1, v2, v3, v4⟩ := v
  obtain ⟨W, hW⟩ : ∃ W, w.alloc (ndC (v1, v2, v3, v4)) = W := ⟨_, rfl⟩
  have T0 : Turned [] w W := hW ▸ (Turned.refl [] w).alloc _
  have K0 : W.heap[w.heap.size]? = some (ndC (v1, v2, v3, v4)) := hW ▸ heap_alloc_new w _
  have hlt := h.lt
  have h' := h.keep T0 (by simp)
  have HLT := Lib.hid hlt
  have HL := Lib.hid (fun q : Nat => anlen_any (w := W.drewN q) h' hS (by simp))
  have HO := Lib.hid (fun q : Nat => anopen_new (w := W.drewN q) h' hS)
  obtain ⟨sv, fv, h1, h2, h3, _⟩ := h'
  obtain ⟨c0, _, _, _⟩ := cells3a h1
  have hb : ((S.length : Int) == m) = false := by rw [beq_eq_false_iff_ne]; exact hm
  have HK0 := Lib.hid K0
  have HT0 := Lib.hid T0
  clear h1 h2 h3 hm h hlt K0 T0
  go_enter Try.func77, Try.ntmps77
  go_wp2
  (try rw [hW])
  clear hW
  go_quiet ((go_at_call 61; exact Calls.quiet_of (HL.out _)))
  go_wp2_with fail
  refine (HO.out _).mono ?_
  rintro e w1 ⟨rfl, X1, hA, hT, hN⟩
  have HT := Lib.hid hT
  have HN := Lib.hid hN
  have k0 := hT.same (show (W.drewN _).heap[w.heap.size]? = _ from HK0.out) (fun hx => by have := HLT.out _ hx; omega)
  obtain ⟨m0, m1, m2, m3, m4, m5, _⟩ := cells6 k0
  have nz : ∀ q ∈ X1, q ≠ w.heap.size := fun q hq e => by
    rcases hN q hq with h | h
    · have := HLT.out q h; omega
    · have h2 : w.heap.size < W.heap.size := lt_of_block HK0.out
      simp at h; omega
  have NZ := Lib.hid nz
  obtain ⟨sv1, fv1, k1, k2, k3, hX1⟩ := hA
  have hl : (S ++ [(nd0, false)]).length = S.length + 1 := by simp
  rw [hl] at k2
  obtain ⟨g, cap, rfl, _, _⟩ := ownsRow_pos k2 (by omega)
  have R := ArAt.stored7 encN_len hl.symm k1 k2 k3 (by decide) (by decide) S.length (v1, v2, v3, v4) true rfl
  obtain ⟨s0, s1, s2, s3, s4, s5, s6, ff⟩ := an_slot (j := S.length) (v := nd0) (t := false) (by rw [hl]; exact k2) rfl (by simp)
  have f0 := ff (S.length * 7)
  have f1 := ff (S.length * 7 + 1)
  have f2 := ff (S.length * 7 + 2)
  have f3 := ff (S.length * 7 + 3)
  have f4 := ff (S.length * 7 + 4)
  have f5 := ff (S.length * 7 + 5)
  have f6 := ff (S.length * 7 + 6)
  obtain ⟨_, d1, _, _⟩ := cells3a k1
  have i0 : (0 : Int) ≤ (S.length : Int) := by omega
  have i1 : (S.length : Int) < (S.length : Int) + 1 := by omega
  have RR := Lib.hid R
  have HX := Lib.hid hX1
  clear hT hN k1 k2 k3 hl R hX1 c0 hb k0 nz ff
  go_wp2_with fail
  go_region
  go_wp2_with fail
  go_ret2
  obtain rfl : X1 = b :: ([g] ++ fv1.ownBlock.toList) := HX.out
  have hA := RR.out.1.keep ((Turned.refl [] _).drew) (by simp)
  rw [List.set_append_right _ _ (Nat.le_refl _), Nat.sub_self] at hA
  have hs := HT0.out.size
  exact ⟨rfl, _, hA, (((((HT0.out.mono (fun k hk => by simp at hk)).drewN _).trans HT.out (Newer.refl _ _)).trans RR.out.2 (HN.out.mono hs)).drew), HN.out.mono hs⟩

set_option maxHeartbeats 800000 in
theorem anput_old {w : World} {b : Nat} {X : List Nat} {m : Int} {S : List (Nd Wt × Bool)} {F : List Nat} {f : Nat} (h : AnI w b X m S (F ++ [f])) (v : Nd Wt) (hS : S.length ≤ 1000000) (hF : (F ++ [f]).length ≤ 1000000) (hf : f < S.length) (hm : (S.length : Int) - (F ++ [f]).length ≠ m) :
    Calls Try.prog 77 #[.pointer (some ⟨b, 0, none⟩), ndV v] w fun e w' => e = .returned (.tuple #[.int .i64 (f : Int), .int .i64 0]) ∧
      AnI w' b X m (S.set f (v, true)) F ∧ Turned X w w' := by
  obtain ⟨v1, v2, v3, v4⟩ := v
  obtain ⟨W, hW⟩ : ∃ W, w.alloc (ndC (v1, v2, v3, v4)) = W := ⟨_, rfl⟩
  have T0 : Turned [] w W := hW ▸ (Turned.refl [] w).alloc _
  have K0 : W.heap[w.heap.size]? = some (ndC (v1, v2, v3, v4)) := hW ▸ heap_alloc_new w _
  have HLT := Lib.hid h.lt
  have h' := h.keep T0 (by simp)
  have HL := Lib.hid (fun q : Nat => anlen_any (w := W.drewN q) h' hS hF)
  have HO := Lib.hid (fun q : Nat => anopen_old (w := W.drewN q) h' (by simp at hF; omega))
  obtain ⟨sv, fv, h1, h2, h3, _⟩ := h'
  obtain ⟨c0, _, _, _⟩ := cells3a h1
  have hb : ((S.length : Int) - ((F ++ [f]).length : Int) == m) = false := by rw [beq_eq_false_iff_ne]; exact hm
  obtain ⟨q, hq⟩ : ∃ q : Nat, (F ++ [f]).length = q := ⟨_, rfl⟩
  rw [hq] at HL hb
  have HK0 := Lib.hid K0
  have HT0 := Lib.hid T0
  clear h1 h2 h3 hm h hF hq K0 T0
  go_enter Try.func77, Try.ntmps77
  go_wp2
  (try rw [hW])
  clear hW
  go_quiet ((go_at_call 61; exact Calls.quiet_of (HL.out _)))
  go_wp2_with fail
  refine (HO.out _).mono ?_
  rintro e w1 ⟨rfl, hA, hT⟩
  have HT := Lib.hid hT
  have k0 := hT.same (show (W.drewN _).heap[w.heap.size]? = _ from HK0.out) (fun hx => by have := HLT.out _ hx; omega)
  obtain ⟨m0, m1, m2, m3, m4, m5, _⟩ := cells6 k0
  obtain ⟨sv1, fv1, k1, k2, k3, hX1⟩ := hA
  obtain ⟨g, cap, rfl, _, _⟩ := ownsRow_pos k2 (by omega)
  have R := ArAt.stored7 encN_len rfl k1 k2 k3 (by decide) (by decide) f (v1, v2, v3, v4) true rfl
  obtain ⟨⟨⟨u1, u2, u3, u4⟩, u5⟩, hu⟩ : ∃ u, S[f]? = some u := ⟨_, List.getElem?_eq_getElem hf⟩
  obtain ⟨s0, s1, s2, s3, s4, s5, s6, ff⟩ := an_slot k2 rfl hu
  have f0 := ff (f * 7)
  have f1 := ff (f * 7 + 1)
  have f2 := ff (f * 7 + 2)
  have f3 := ff (f * 7 + 3)
  have f4 := ff (f * 7 + 4)
  have f5 := ff (f * 7 + 5)
  have f6 := ff (f * 7 + 6)
  obtain ⟨_, d1, _, _⟩ := cells3a k1
  have i0 : (0 : Int) ≤ (f : Int) := by omega
  have i1 : (f : Int) < (S.length : Int) := by omega
  have RR := Lib.hid R
  have HX := Lib.hid hX1
  clear hT k1 k2 k3 R hX1 c0 hb k0 ff hu
  go_wp2_with fail
  go_region
  go_wp2_with fail
  go_ret2
  obtain rfl : X = b :: ([g] ++ fv1.ownBlock.toList) := HX.out
  exact ⟨rfl, RR.out.1.keep ((Turned.refl [] _).drew) (by simp), (((((HT0.out.mono (fun k hk => by simp at hk)).drewN _).trans HT.out (Newer.refl _ _)).trans RR.out.2 (Newer.refl _ _)).drew)⟩

set_option maxHeartbeats 800000 in
theorem anset_yes {w : World} {b : Nat} {X : List Nat} {m : Int} {S : List (Nd Wt × Bool)} {F : List Nat} (h : AnI w b X m S F) (n : Int) (j : Nat) (hn : n = j) (u v : Nd Wt) (hj : S[j]? = some (u, true)) :
    Calls Try.prog 86 #[.pointer (some ⟨b, 0, none⟩), .int .i64 n, ndV v] w fun e w' => e = .returned (.bool true) ∧ AnI w' b X m (S.set j (v, true)) F ∧ Turned X w w' := by
  subst hn
  obtain ⟨v1, v2, v3, v4⟩ := v
  obtain ⟨u1, u2, u3, u4⟩ := u
  obtain ⟨W, hW⟩ : ∃ W, w.alloc (ndC (v1, v2, v3, v4)) = W := ⟨_, rfl⟩
  have T0 : Turned [] w W := hW ▸ (Turned.refl [] w).alloc _
  have K0 : W.heap[w.heap.size]? = some (ndC (v1, v2, v3, v4)) := hW ▸ heap_alloc_new w _
  have hlt := h.lt
  have h' := h.keep T0 (by simp)
  have hh := anhas_any h' (j : Int)
  rw [isB_mk hj] at hh
  have H := Lib.hid hh
  obtain ⟨sv, fv, h1, h2, h3, hX⟩ := h'
  obtain ⟨_, c1, _, _⟩ := cells3a h1
  have hl : j < S.length := (List.getElem?_eq_some_iff.1 hj).1
  obtain ⟨g, cap, rfl, _, _⟩ := ownsRow_pos h2 (by omega)
  obtain ⟨s0, s1, s2, s3, s4, s5, s6, ff⟩ := an_slot h2 rfl hj
  have f0 := ff (j * 7)
  have f1 := ff (j * 7 + 1)
  have f2 := ff (j * 7 + 2)
  have f3 := ff (j * 7 + 3)
  have f4 := ff (j * 7 + 4)
  have f5 := ff (j * 7 + 5)
  obtain ⟨m0, m1, m2, m3, m4, m5, _⟩ := cells6 K0
  obtain rfl : X = b :: ([g] ++ fv.ownBlock.toList) := hX
  have R := ArAt.stored6 encN_len rfl h1 h2 h3 (by decide) (by decide) j (v1, v2, v3, v4) _ true hj rfl
  have i0 : (0 : Int) ≤ j := by omega
  have i1 : (j : Int) < S.length := by omega
  have RR := Lib.hid (show AnI _ _ _ _ _ _ ∧ Turned (b :: ([g] ++ fv.ownBlock.toList)) w _ from ⟨R.1.keep ((Turned.refl [] _).drew) (by simp), (((T0.mono (fun k hk => by simp at hk)).trans R.2 (Newer.refl _ _)).drew)⟩)
  clear hh hj h1 h2 h3 R h K0 T0 hlt ff
  go_enter Try.func86, Try.ntmps86
  go_wp2_with fail
  (try rw [hW])
  clear hW
  refine H.out.mono ?_
  rintro e w' ⟨rfl, rfl⟩
  go_wp2_with fail
  go_region
  go_wp2_with fail
  go_ret
  exact ⟨rfl, RR.out⟩
end Go.Proofs.Ytiffgkmmibhklaa.Wq
