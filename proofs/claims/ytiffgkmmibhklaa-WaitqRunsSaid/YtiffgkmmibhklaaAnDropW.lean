/-
  Arena[node[int]]: Drop (element type api.Wait; made by gen_ffw.py).
-/
import Derived.Test.YtiffgkmmibhklaaAnPutW
namespace Go.Proofs.Ytiffgkmmibhklaa.Wq
open Go.RowKit

set_option maxHeartbeats 1600000 in
theorem androp_yes {w : World} {b : Nat} {X : List Nat} {m : Int} {S : List (Nd Wt × Bool)} {F : List Nat} (h : AnI w b X m S F) (n : Int) (j : Nat) (hn : n = j) (v : Nd Wt) (hj : S[j]? = some (v, true)) (hF : F.length ≤ 1000000) :
    Calls Try.prog 82 #[.pointer (some ⟨b, 0, none⟩), .int .i64 n] w fun e w' => e = .returned (.tuple #[ndV v, .bool true]) ∧
      ∃ X', AnI w' b X' m (S.set j (nd0, false)) (F ++ [j]) ∧ Turned X w w' ∧ Newer X w.heap.size X' := by
  subst hn
  obtain ⟨v1, v2, v3, v4⟩ := v
  have HLT := Lib.hid h.lt
  obtain ⟨W0, hW0⟩ : ∃ W0, w.alloc (ndC nd0) = W0 := ⟨_, rfl⟩
  have T0 : Turned [] w W0 := hW0 ▸ (Turned.refl [] w).alloc _
  have K0 : W0.heap[w.heap.size]? = some (ndC nd0) := hW0 ▸ heap_alloc_new w _
  have hA := h.keep T0 (by simp)
  have HK0 := Lib.hid K0
  have HT0 := Lib.hid T0
  have HA := Lib.hid hA
  have H := Lib.hid (anget_yes hA (j : Int) j (v1, v2, v3, v4) rfl hj)
  clear T0 K0 hA h
  go_enter Try.func82, Try.ntmps82
  go_wp2_with fail
  (try rw [hW0])
  clear hW0
  refine H.out.mono ?_
  rintro e w1 ⟨rfl, hT1⟩
  have k1 := hT1.same HK0.out (by simp)
  have a1 := HA.out.keep hT1 (by simp)
  obtain ⟨W, hW⟩ : ∃ W, w1.alloc (ndC (v1, v2, v3, v4)) = W := ⟨_, rfl⟩
  have T2 : Turned [] w1 W := hW ▸ (Turned.refl [] w1).alloc _
  have K2 : W.heap[w1.heap.size]? = some (ndC (v1, v2, v3, v4)) := hW ▸ heap_alloc_new w1 _
  have k2 := T2.same k1 (by simp)
  have hA := a1.keep T2 (by simp)
  have hne : w.heap.size < w1.heap.size := lt_of_block k1
  obtain ⟨sv, fv, h1, h2, h3, hX⟩ := hA
  obtain ⟨_, c1, _, _⟩ := cells3a h1
  have hl : j < S.length := (List.getElem?_eq_some_iff.1 hj).1
  obtain ⟨g, cap, rfl, _, _⟩ := ownsRow_pos h2 (by omega)
  obtain ⟨s0, s1, s2, s3, s4, s5, s6, ff⟩ := an_slot h2 rfl hj
  have f0 := ff (j * 7)
  have f1 := ff (j * 7 + 1)
  have f2 := ff (j * 7 + 2)
  have f3 := ff (j * 7 + 3)
  have f4 := ff (j * 7 + 4)
  have f5 := ff (j * 7 + 5)
  have f6 := ff (j * 7 + 6)
  have R := ArAt.stored7 encN_len rfl h1 h2 h3 (by decide) (by decide) j nd0 false rfl
  obtain rfl : X = b :: ([g] ++ fv.ownBlock.toList) := hX
  obtain ⟨W3, hW3⟩ : ∃ W3, ((((((W.setCell ⟨g, j * 7, none⟩ (.int .i64 0)).setCell ⟨g, j * 7 + 1, none⟩ (.int .i64 0)).setCell ⟨g, j * 7 + 2, none⟩ (.int .u64 0)).setCell ⟨g, j * 7 + 3, none⟩ (.int .i64 0)).setCell ⟨g, j * 7 + 4, none⟩ (.int .i64 0)).setCell ⟨g, j * 7 + 5, none⟩ (.int .i64 0)).setCell ⟨g, j * 7 + 6, none⟩ (.bool false) = W3 := ⟨_, rfl⟩
  rw [hW3] at R
  obtain ⟨⟨sv2, fv2, q1, q2, q3, qX⟩, hT3⟩ := R
  have i0 : (0 : Int) ≤ (j : Int) := by omega
  have i1 : (j : Int) < (S.length : Int) := by omega
  obtain ⟨_, d1, d2, df⟩ := cells3a q1
  obtain ⟨a', cap', hfv, _, _⟩ := ownsRow_shape q3
  have df2 := df 2
  have n0 : ∀ x ∈ b :: ([g] ++ fv.ownBlock.toList), x ≠ w.heap.size := fun x hx e => by have := HLT.out x hx; omega
  have n1 : ∀ x ∈ b :: ([g] ++ fv.ownBlock.toList), x ≠ w1.heap.size := fun x hx e => by have := HLT.out x hx; omega
  have p0 := hT3.same k2 (fun hx => n0 _ hx rfl)
  have p1 := hT3.same K2 (fun hx => n1 _ hx rfl)
  obtain ⟨ii, hi, hz0, hz1, hz2⟩ := info_parts infoN
  have Q1 := Lib.hid q1
  have Q2 := Lib.hid q2
  have Q3 := Lib.hid q3
  have QX := Lib.hid qX
  have HT := Lib.hid (((HT0.out.mono (fun k hk => by simp at hk) : Turned (b :: ([g] ++ fv.ownBlock.toList)) w W0).trans (hT1.mono (fun k hk => by simp at hk)) (Newer.refl _ _)).trans (T2.mono (fun k hk => by simp at hk) : Turned (b :: ([g] ++ fv.ownBlock.toList)) w1 W) (Newer.refl _ _) |>.trans hT3 (Newer.refl _ _))
  have HF := Lib.hid hfv
  have P0 := Lib.hid p0
  have P1 := Lib.hid p1
  have N0 := Lib.hid n0
  have N1 := Lib.hid n1
  have HS3 := Lib.hid hT3.size
  have hWl : w1.heap.size < W.heap.size := lt_of_block K2
  rw [hfv] at d2
  clear h1 h2 h3 q1 q2 q3 qX hT3 hfv df hj ff p0 p1 n0 n1 K2 k2 k1 a1 hT1 T2
  go_wp2_with (at_builtin; (try simp only [hW, hW3]); refine wpList_append_at _ rfl _ _ 29 rfl 3 ii (.int .i64 0) 1 8 Try.underlying29 hi hz0 hz1 hz2 rfl (by decide) _ F.length (places F) rfl (by rw [← HF.out]; exact Q3.out.alloc _) ⟨W3.heap.size, 0, none⟩ 1 1 [.int .i64 (j : Int)] rfl (by decide) rfl (one_cell_at _ W3.heap.size rfl _ _) (by intro u hu; simp at hu; subst hu; rfl) (by unfold maxLen; omega) (by omega) ?_)
  intro g' cp wz hown hgrow hw _ _
  rw [← HF.out] at hgrow hw
  obtain ⟨hb1, _⟩ := ArAt.freed1 (k := 6) Q1.out Q2.out Q3.out (by decide) (by decide) _ hgrow
  have R := ArAt.freed2 (k := 6) Q1.out Q2.out Q3.out (by decide) (by decide) (by decide) _ hgrow (n := F.length + 1) (G := F ++ [j]) (by simp) (by rw [places_snoc]; exact hown) (by simpa using hw)
  obtain ⟨_, _, e2, hf⟩ := cells3a hb1
  have e3 := hf 2
  obtain ⟨V, hV⟩ : ∃ V, wz.setCell ⟨b, 2, none⟩ (.slice (some ⟨g', 0, none⟩) (F.length + 1) cp) = V := ⟨_, rfl⟩
  rw [hV] at R
  obtain ⟨X', r1, r2, r3⟩ := R
  rw [← QX.out] at r2 r3
  have p0 := r2.same P0.out (fun hx => N0.out _ hx rfl)
  have p1 := r2.same P1.out (fun hx => N1.out _ hx rfl)
  obtain ⟨u0, u1, u2, u3, u4, u5, _⟩ := cells6 p1
  obtain ⟨t0, t1, t2, t3, t4, t5, tf⟩ := cells6 p0
  have tf0 := tf 0
  have tf1 := tf 1
  have tf2 := tf 2
  have tf3 := tf 3
  have tf4 := tf 4
  have tf5 := tf 5
  have KK := Lib.hid (stored6 (a' := .int .i64 v1.1) (b' := .int .i64 v1.2.1) (c' := .int .u64 v1.2.2) (y' := .int .i64 v2) (z' := .int .i64 v3) (u' := .int .i64 v4) p0)
  have RR1 := Lib.hid r1
  have RT := Lib.hid (HT.out.trans r2 (Newer.refl _ _))
  have HW0 : w.heap.size < W3.heap.size := by have := HS3.out; omega
  have RN : Hid (Newer (b :: ([g] ++ fv.ownBlock.toList)) w.heap.size X' ∧ ∀ x ∈ X', x ≠ w.heap.size) := Lib.hid ⟨r3.mono (by omega), fun x hx e => by
    rcases r3 x hx with h | h
    · exact N0.out x h e
    · omega⟩
  clear hown hgrow hw hb1 hf c1 d1 d2 df2 s0 s1 s2 s3 s4 s5 s6 f0 f1 f2 f3 f4 f5 f6 r1 r2 r3 p0 p1 tf HLT HT HT0 P0 P1 Q1 Q2 Q3 QX HF
  go_wp2_with fail
  (try rw [hV])
  clear hV
  go_wp2_with fail
  refine bodyPost_ret (nd_result rfl rfl rfl KK.out) rfl ?_
  have ht : Turned [w.heap.size] V ((((((V.setCell ⟨w.heap.size, 0, none⟩ (.int .i64 v1.1)).setCell ⟨w.heap.size, 1, none⟩ (.int .i64 v1.2.1)).setCell ⟨w.heap.size, 2, none⟩ (.int .u64 v1.2.2)).setCell ⟨w.heap.size, 3, none⟩ (.int .i64 v2)).setCell ⟨w.heap.size, 4, none⟩ (.int .i64 v3)).setCell ⟨w.heap.size, 5, none⟩ (.int .i64 v4)) := (Turned.refl _ V).set6 (.inl (by simp)) _ _ _ _ _ _
  refine ⟨rfl, X', RR1.out.keep ht (fun k hk hw => ?_), RT.out.trans ht (fun k hk => .inr (by simp at hk; omega)), RN.out.1⟩
  simp at hw
  exact RN.out.2 k hk hw
end Go.Proofs.Ytiffgkmmibhklaa.Wq
