/-
  A queue's setBehind, setAhead (element type api.Wait; made by gen_ffw.py).
-/
import Derived.Test.YtiffgkmmibhklaaFqAtW
namespace Go.Proofs.Ytiffgkmmibhklaa.Wq
open Go.RowKit Go.Maps

section
variable {w : World} {b : Nat} {X : List Nat} {m : Int} {S : List (Nd Wt × Bool)} {F : List Nat} {f : Int → Option Int} {s : Nat} {fst lst l : Int}
set_option maxHeartbeats 800000 in
theorem fqbehind_no (h : FqRaw w b X m S F f s fst lst l) (i v : Int) (hi : isB S i = false) :
    Calls Try.prog 78 #[.pointer (some ⟨b, 0, none⟩), .int .i64 i, .int .i64 v] w fun e w' => e = .returned (.tuple #[]) ∧ FqRaw w' b X m S F f s v lst l ∧ Turned X w w' := by
  have HH := Lib.hid h
  obtain ⟨ab, gm, Y, D, hb, ha, hm, hs, hf, rfl⟩ := h
  have HG := Lib.hid (anget_no ha i hi)
  have HB := Lib.hid hb
  obtain ⟨c0, _, _, _, _, _⟩ := cells5 hb
  clear hb ha hm hs hf hi
  go_enter Try.func78, Try.ntmps78
  go_wp2_with fail
  refine HG.out.mono ?_
  rintro e w1 ⟨rfl, hT⟩
  have T1 : Turned [] w (w1.alloc (ndC nd0)) := hT.j ((Turned.refl [] w1).alloc _)
  have h1 := HH.out.keep T1 (by simp)
  obtain ⟨ab1, gm1, Y1, D1, hb1, ha1, hm1, hs1, hf1, hX1⟩ := h1
  have R := FqRaw.field hb1 ha1 hm1 hs1 hf1 (i := 2) (u := .int .i64 v) (fst' := v) (lst' := lst) (l' := l) rfl
  have HX := Lib.hid hX1
  have HT := Lib.hid T1
  have RR := Lib.hid R
  obtain ⟨d0, d1, d2, d3, d4, df⟩ := cells5 hb1
  have df2 := df 2
  clear hT T1 hb1 ha1 hm1 hs1 hf1 hX1 R df
  go_wp2_with fail
  refine bodyPost_ret (results_none rfl _ _ _) rfl ?_
  refine ⟨rfl, ?_, ?_⟩
  · rw [HX.out]
    exact RR.out.1
  · rw [HX.out]
    exact (HT.out.mono (fun k hk => by simp at hk)).trans RR.out.2 (Newer.refl _ _)
set_option maxRecDepth 100000 in
set_option maxHeartbeats 1600000 in
theorem fqbehind_yes (h : FqRaw w b X m S F f s fst lst l) (j : Nat) (n : Nd Wt) (v : Int) (hj : S[j]? = some (n, true)) :
    Calls Try.prog 78 #[.pointer (some ⟨b, 0, none⟩), .int .i64 (j : Int), .int .i64 v] w fun e w' => e = .returned (.tuple #[]) ∧ FqRaw w' b X m (S.set j ((n.1, n.2.1, n.2.2.1, v), true)) F f s fst lst l ∧ Turned X w w' := by
  have HH := Lib.hid h
  obtain ⟨ab, gm, Y, D, hb, ha, hm, hs, hf, rfl⟩ := h
  obtain ⟨n1, n2, n3, n4⟩ := n
  have HG := Lib.hid (anget_yes ha (j : Int) j _ rfl hj)
  have HJ := Lib.hid hj
  obtain ⟨c0, _, _, _, _, _⟩ := cells5 hb
  clear hb ha hm hs hf hj
  go_enter Try.func78, Try.ntmps78
  go_wp2_with fail
  refine HG.out.mono ?_
  rintro e w1 ⟨rfl, hT⟩
  go_wp2_with fail
  obtain ⟨W, hW⟩ : ∃ W, w1.alloc (ndC (n1, n2, n3, v)) = W := ⟨_, rfl⟩
  obtain ⟨V, hV⟩ : ∃ V, W.drew = V := ⟨_, rfl⟩
  have T1 : Turned [] w V := hV ▸ (hT.j (hW ▸ (Turned.refl [] w1).alloc _)).drew
  have K1 : V.heap[w1.heap.size]? = some (ndC (n1, n2, n3, v)) := by rw [← hV, ← hW]; exact heap_alloc_new w1 _
  have h1 := HH.out.keep T1 (by simp)
  obtain ⟨ab1, gm1, Y1, D1, hb1, ha1, hm1, hs1, hf1, hX1⟩ := h1
  have HS := Lib.hid (anset_yes ha1 (j : Int) j rfl _ (n1, n2, n3, v) HJ.out)
  have HX := Lib.hid hX1
  have HT := Lib.hid T1
  obtain ⟨d0, _, _, _, _, _⟩ := cells5 hb1
  obtain ⟨e0, e1, e2, e3, e4, e5, _⟩ := cells6 K1
  have HR := Lib.hid (fun (w' : World) (ha' : AnI w' ab1 Y1 m (S.set j ((n1, n2, n3, v), true)) F) ht => FqRaw.arena (w' := w') hb1 ha1 hm1 hs1 hf1 ha' ht (Newer.refl _ _))
  rw [hW]
  refine tail_at 6 hV (by kernel_rfl) (by kernel_rfl) ?_
  clear hT T1 hb1 ha1 hm1 hs1 hf1 hX1 K1 hV hW
  simp only [List.take_succ_cons, List.take_zero, List.drop_succ_cons, List.drop_zero]
  repeat still_step
  refine wpStill_nil ?_
  go_wp2_with fail
  with_reducible refine HS.out.mono ?_
  rintro e w2 ⟨rfl, ha2, ht2⟩
  have RR := Lib.hid (HR.out w2 ha2 ht2)
  clear ha2 ht2
  go_wp2
  go_end0
  refine ⟨rfl, ?_, ?_⟩
  · rw [HX.out]
    exact RR.out.1
  · rw [HX.out]
    exact (HT.out.mono (fun k hk => by simp at hk)).trans RR.out.2.1 (Newer.refl _ _)
theorem fqbehind_any (h : FqRaw w b X m S F f s fst lst l) (i v : Int) :
    Calls Try.prog 78 #[.pointer (some ⟨b, 0, none⟩), .int .i64 i, .int .i64 v] w fun e w' => e = .returned (.tuple #[]) ∧ FqRaw w' b X m (sbS S i v) F f s (sbF S i v fst) lst l ∧ Turned X w w' := by
  cases hi : isB S i with
  | false =>
    rw [sbS_no hi, sbF, hi]
    exact fqbehind_no h i v hi
  | true =>
    obtain ⟨j, n, rfl, _, hj⟩ := isB_true hi
    rw [sbS_yes hj, sbF, hi]
    exact fqbehind_yes h j n v hj

set_option maxHeartbeats 800000 in
theorem fqahead_no (h : FqRaw w b X m S F f s fst lst l) (i v : Int) (hi : isB S i = false) :
    Calls Try.prog 83 #[.pointer (some ⟨b, 0, none⟩), .int .i64 i, .int .i64 v] w fun e w' => e = .returned (.tuple #[]) ∧ FqRaw w' b X m S F f s fst v l ∧ Turned X w w' := by
  have HH := Lib.hid h
  obtain ⟨ab, gm, Y, D, hb, ha, hm, hs, hf, rfl⟩ := h
  have HG := Lib.hid (anget_no ha i hi)
  have HB := Lib.hid hb
  obtain ⟨c0, _, _, _, _, _⟩ := cells5 hb
  clear hb ha hm hs hf hi
  go_enter Try.func83, Try.ntmps83
  go_wp2_with fail
  refine HG.out.mono ?_
  rintro e w1 ⟨rfl, hT⟩
  have T1 : Turned [] w (w1.alloc (ndC nd0)) := hT.j ((Turned.refl [] w1).alloc _)
  have h1 := HH.out.keep T1 (by simp)
  obtain ⟨ab1, gm1, Y1, D1, hb1, ha1, hm1, hs1, hf1, hX1⟩ := h1
  have R := FqRaw.field hb1 ha1 hm1 hs1 hf1 (i := 3) (u := .int .i64 v) (fst' := fst) (lst' := v) (l' := l) rfl
  have HX := Lib.hid hX1
  have HT := Lib.hid T1
  have RR := Lib.hid R
  obtain ⟨d0, d1, d2, d3, d4, df⟩ := cells5 hb1
  have df3 := df 3
  clear hT T1 hb1 ha1 hm1 hs1 hf1 hX1 R df
  go_wp2_with fail
  refine bodyPost_ret (results_none rfl _ _ _) rfl ?_
  refine ⟨rfl, ?_, ?_⟩
  · rw [HX.out]
    exact RR.out.1
  · rw [HX.out]
    exact (HT.out.mono (fun k hk => by simp at hk)).trans RR.out.2 (Newer.refl _ _)
set_option maxRecDepth 100000 in
set_option maxHeartbeats 1600000 in
theorem fqahead_yes (h : FqRaw w b X m S F f s fst lst l) (j : Nat) (n : Nd Wt) (v : Int) (hj : S[j]? = some (n, true)) :
    Calls Try.prog 83 #[.pointer (some ⟨b, 0, none⟩), .int .i64 (j : Int), .int .i64 v] w fun e w' => e = .returned (.tuple #[]) ∧ FqRaw w' b X m (S.set j ((n.1, n.2.1, v, n.2.2.2), true)) F f s fst lst l ∧ Turned X w w' := by
  have HH := Lib.hid h
  obtain ⟨ab, gm, Y, D, hb, ha, hm, hs, hf, rfl⟩ := h
  obtain ⟨n1, n2, n3, n4⟩ := n
  have HG := Lib.hid (anget_yes ha (j : Int) j _ rfl hj)
  have HJ := Lib.hid hj
  obtain ⟨c0, _, _, _, _, _⟩ := cells5 hb
  clear hb ha hm hs hf hj
  go_enter Try.func83, Try.ntmps83
  go_wp2_with fail
  refine HG.out.mono ?_
  rintro e w1 ⟨rfl, hT⟩
  go_wp2_with fail
  obtain ⟨W, hW⟩ : ∃ W, w1.alloc (ndC (n1, n2, v, n4)) = W := ⟨_, rfl⟩
  obtain ⟨V, hV⟩ : ∃ V, W.drew = V := ⟨_, rfl⟩
  have T1 : Turned [] w V := hV ▸ (hT.j (hW ▸ (Turned.refl [] w1).alloc _)).drew
  have K1 : V.heap[w1.heap.size]? = some (ndC (n1, n2, v, n4)) := by rw [← hV, ← hW]; exact heap_alloc_new w1 _
  have h1 := HH.out.keep T1 (by simp)
  obtain ⟨ab1, gm1, Y1, D1, hb1, ha1, hm1, hs1, hf1, hX1⟩ := h1
  have HS := Lib.hid (anset_yes ha1 (j : Int) j rfl _ (n1, n2, v, n4) HJ.out)
  have HX := Lib.hid hX1
  have HT := Lib.hid T1
  obtain ⟨d0, _, _, _, _, _⟩ := cells5 hb1
  obtain ⟨e0, e1, e2, e3, e4, e5, _⟩ := cells6 K1
  have HR := Lib.hid (fun (w' : World) (ha' : AnI w' ab1 Y1 m (S.set j ((n1, n2, v, n4), true)) F) ht => FqRaw.arena (w' := w') hb1 ha1 hm1 hs1 hf1 ha' ht (Newer.refl _ _))
  rw [hW]
  refine tail_at 6 hV (by kernel_rfl) (by kernel_rfl) ?_
  clear hT T1 hb1 ha1 hm1 hs1 hf1 hX1 K1 hV hW
  simp only [List.take_succ_cons, List.take_zero, List.drop_succ_cons, List.drop_zero]
  repeat still_step
  refine wpStill_nil ?_
  go_wp2_with fail
  with_reducible refine HS.out.mono ?_
  rintro e w2 ⟨rfl, ha2, ht2⟩
  have RR := Lib.hid (HR.out w2 ha2 ht2)
  clear ha2 ht2
  go_wp2
  go_end0
  refine ⟨rfl, ?_, ?_⟩
  · rw [HX.out]
    exact RR.out.1
  · rw [HX.out]
    exact (HT.out.mono (fun k hk => by simp at hk)).trans RR.out.2.1 (Newer.refl _ _)
theorem fqahead_any (h : FqRaw w b X m S F f s fst lst l) (i v : Int) :
    Calls Try.prog 83 #[.pointer (some ⟨b, 0, none⟩), .int .i64 i, .int .i64 v] w fun e w' => e = .returned (.tuple #[]) ∧ FqRaw w' b X m (saS S i v) F f s fst (saL S i v lst) l ∧ Turned X w w' := by
  cases hi : isB S i with
  | false =>
    rw [saS_no hi, saL, hi]
    exact fqahead_no h i v hi
  | true =>
    obtain ⟨j, n, rfl, _, hj⟩ := isB_true hi
    rw [saS_yes hj, saL, hi]
    exact fqahead_yes h j n v hj

end
end Go.Proofs.Ytiffgkmmibhklaa.Wq
