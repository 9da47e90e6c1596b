/-
  A queue's Pop, of one that holds somebody (element type api.Wait).
-/
import Derived.Test.YtiffgkmmibhklaaFqOpsW
namespace Go.Proofs.Ytiffgkmmibhklaa.Wq
open Go.RowKit Go.Maps
section
variable {w w' : World} {b : Nat} {X Y : List Nat} {m l : Int} {P A B : List (Pl Wt)} {x : Pl Wt}
set_option maxRecDepth 100000 in
set_option maxHeartbeats 8000000 in
theorem fqpop_some (h0 : FQ w b X m l (x :: B)) :
    Calls Try.prog 48 #[.pointer (some ⟨b, 0, none⟩)] w fun e w' => e = .returned (.tuple #[aggW x.2.2, .bool true]) ∧
      ∃ X', FQ w' b X' m l B ∧ Turned X w w' ∧ Newer X w.heap.size X' := by
  obtain ⟨W, hW⟩ : ∃ W, w.alloc (wtC (0, 0, 0)) = W := ⟨_, rfl⟩
  have TW : Turned [] w W := hW ▸ (Turned.refl [] w).alloc _
  have KW : W.heap[w.heap.size]? = some (wtC (0, 0, 0)) := hW ▸ heap_alloc_new w _
  have HXl := Lib.hid h0.lt
  have HTW := Lib.hid TW
  have HKW := Lib.hid KW
  have hlt : w.heap.size < W.heap.size := lt_of_block KW
  have h := h0.keep0 TW
  have H := Lib.hid (fqlen_yes h)
  have HH := Lib.hid h
  obtain ⟨S, F, f, fst, lst, h1, h2, h3, h4⟩ := h
  obtain ⟨x1, x2, x3⟩ := x
  have hfst : fst = (x1 : Int) := h2.first
  have hseg := h2.seg.1
  simp only at hseg ⊢
  obtain ⟨c, hc⟩ : ∃ c, hdP B (-1) = c := ⟨_, rfl⟩
  rw [hc] at hseg
  obtain ⟨ab, gm, Y, D, hb, ha, _⟩ := h1
  rw [hfst] at hb
  have HS : Hid (∀ w', Turned [] W w' → w'.cell? ⟨b, 0, none⟩ = some (.pointer (some ⟨ab, 0, none⟩)) ∧ w'.cell? ⟨b, 2, none⟩ = some (.int .i64 (x1 : Int)) ∧ Turned [] W w') := Lib.hid (fun w' ht => by
    obtain ⟨d0, _, d2, _, _, _⟩ := cells5 (ht.same hb (by simp))
    exact ⟨d0, d2, ht⟩)
  have HG := Lib.hid (fun (w' : World) (ht : Turned [] W w') => anget_yes (ha.keep ht (by simp)) (x1 : Int) x1 _ rfl hseg)
  have HR := Lib.hid (fun (w' : World) (ht : Turned [] W w') => fqremove_yes (A := []) (HH.out.keep0 ht) x2 rfl)
  simp only [List.nil_append] at HR
  clear h2 hfst hseg hc hb ha h3 h4 h0 TW KW
  go_enter Try.func48, Try.ntmps48
  go_wp2_with fail
  (try rw [hW])
  clear hW
  refine H.out.mono ?_
  rintro e w1 ⟨rfl, n, rfl⟩
  have hl0 : ((((x1, x2, x3) :: B).length : Nat) : Int) ≠ 0 := by simp; omega
  obtain ⟨q, hq⟩ : ∃ q : Nat, ((x1, x2, x3) :: B).length = q := ⟨_, rfl⟩
  rw [hq] at hl0 ⊢
  have hq0 : ((q : Int) == 0) = false := by simpa using hl0
  obtain ⟨V, hV⟩ : ∃ V, W.drewN n = V := ⟨_, rfl⟩
  have TV := Lib.hid (show Turned [] W V.drew by rw [← hV]; exact (((Turned.refl [] W).drewN n).drew))
  have TA := Lib.hid (show Turned [] W (V.alloc (ndC nd0)).drew by rw [← hV]; exact ((((Turned.refl [] W).drewN n).alloc _).drew))
  have HVs : W.heap.size ≤ V.heap.size := by rw [← hV]; exact Nat.le_refl _
  rw [hV]
  clear hV hq
  obtain ⟨d0, d2, dt⟩ := HS.out _ TV.out
  go_wp2_with fail
  go_region_held3 (fun w' => w'.cell? ⟨b, 0, none⟩ = some (.pointer (some ⟨ab, 0, none⟩)) ∧ w'.cell? ⟨b, 2, none⟩ = some (.int .i64 (x1 : Int)) ∧ Turned [] W w')
    (first | with_reducible exact ⟨f0, f2, ft⟩ | with_reducible exact ⟨d0, d2, dt⟩ | with_reducible exact HS.out _ TA.out | with_reducible exact HS.out _ (dt.alloc _) | with_reducible exact HS.out _ (ft.alloc _) | with_reducible exact HS.out _ (ft.set6 (.inr HVs) _ _ _ _ _ _))
    (first
      | (go_at_call 54
         first
           | (with_reducible refine (HG.out _ dt).mono ?_
              rintro e w2 ⟨rfl, t2⟩
              obtain ⟨f0, f2, ft⟩ := HS.out _ (dt.j t2)
              clear t2)
           | (with_reducible refine (HG.out _ TA.out).mono ?_
              rintro e w2 ⟨rfl, t2⟩
              have k2 := t2.same (show (V.alloc (ndC nd0)).drew.heap[V.heap.size]? = _ from heap_alloc_new V (ndC nd0)) (by simp)
              obtain ⟨z0, z1, z2, z3, z4, z5, zf⟩ := cells6 k2
              have zf0 := zf 0
              have zf1 := zf 1
              have zf2 := zf 2
              have zf3 := zf 3
              have zf4 := zf 4
              have zf5 := zf 5
              obtain ⟨f0, f2, ft⟩ := HS.out _ (TA.out.j t2)
              clear t2 k2 zf)))
  all_goals
    go_wp2_with fail
    obtain ⟨W1, hW1⟩ : ∃ W1, w2.alloc (.cells #[.int .i64 x3.1, .int .i64 x3.2.1, .int .u64 x3.2.2, .int .i64 x2, .int .i64 (-1), .int .i64 c] tNd) = W1 := ⟨_, rfl⟩
    obtain ⟨W2, hW2⟩ : ∃ W2, (((((w2.setCell ⟨V.heap.size, 0, none⟩ (.int .i64 x3.1)).setCell ⟨V.heap.size, 1, none⟩ (.int .i64 x3.2.1)).setCell ⟨V.heap.size, 2, none⟩ (.int .u64 x3.2.2)).setCell ⟨V.heap.size, 3, none⟩ (.int .i64 x2)).setCell ⟨V.heap.size, 4, none⟩ (.int .i64 (-1))).setCell ⟨V.heap.size, 5, none⟩ (.int .i64 c) = W2 := ⟨_, rfl⟩
    have T1 := Lib.hid (show Turned [] W W1 by rw [← hW1]; exact ft.alloc _)
    have T2 := Lib.hid (show Turned [] W W2 by rw [← hW2]; exact ft.set6 (.inr HVs) _ _ _ _ _ _)
    first
      | (simp only [hW1]
         with_reducible refine (HR.out _ T1.out).mono ?_
         rintro e w3 ⟨rfl, X', r1, r2, r3⟩
         have R := Lib.hid (show ∃ X', FQ w3 b X' m l B ∧ Turned X W w3 ∧ Newer X W.heap.size X' from ⟨X', r1, (T1.out.mono (fun k hk => by simp at hk)).trans r2 (Newer.refl _ _), r3.mono T1.out.size⟩)
         clear r1 r2 r3)
      | (simp only [hW2]
         with_reducible refine (HR.out _ T2.out).mono ?_
         rintro e w3 ⟨rfl, X', r1, r2, r3⟩
         have R := Lib.hid (show ∃ X', FQ w3 b X' m l B ∧ Turned X W w3 ∧ Newer X W.heap.size X' from ⟨X', r1, (T2.out.mono (fun k hk => by simp at hk)).trans r2 (Newer.refl _ _), r3.mono T2.out.size⟩)
         clear r1 r2 r3)
    clear hW1 hW2 T1 T2
    have kk := R.out
    obtain ⟨X', r1, r2, r3⟩ := kk
    have kk := r2.same HKW.out (fun hx => by have := HXl.out _ hx; omega)
    have MM := Lib.hid kk
    obtain ⟨k0, k1, k2, kf⟩ := cells3a kk
    have kf0 := kf 0
    have kf1 := kf 1
    have kf2 := kf 2
    have RR := Lib.hid (And.intro r1 (And.intro r2 r3))
    clear r1 r2 r3 kf kk R
    go_wp2_with fail
    (try simp only [Exit.inBlock, Exit.then])
    refine bodyPost_ret (wt_result rfl rfl rfl (wt_stored MM.out)) rfl ?_
    obtain ⟨r1, r2, r3⟩ := RR.out
    have ht3 : Turned [w.heap.size] w3 (((w3.setCell ⟨w.heap.size, 0, none⟩ (.int .i64 x3.1)).setCell ⟨w.heap.size, 1, none⟩ (.int .i64 x3.2.1)).setCell ⟨w.heap.size, 2, none⟩ (.int .u64 x3.2.2)) := (Turned.refl _ w3).set3w (.inl (by simp)) _ _ _
    exact ⟨rfl, X', r1.keep ht3 (own_off HXl.out r3 hlt), ((HTW.out.up : Turned X w W).trans r2 (Newer.refl _ _)).trans ht3 (fun k hk => .inr (by simp at hk; omega)), r3.mono HTW.out.size⟩

end
end Go.Proofs.Ytiffgkmmibhklaa.Wq
