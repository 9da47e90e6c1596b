/-
  A queue's link (element type api.Wait; made by gen_ffw.py).
-/
import Derived.Test.YtiffgkmmibhklaaFqLinkW
import Derived.Deep.RegionHeld3
namespace Go.Proofs.Ytiffgkmmibhklaa.Wq
open Go.RowKit Go.Maps

theorem anput_any {w : World} {b : Nat} {X : List Nat} {m : Int} {S : List (Nd Wt × Bool)} {F : List Nat} (h : AnI w b X m S F) (v : Nd Wt) (hS : S.length ≤ 1000000) (hF : F.length ≤ 1000000) (hf : ∀ f ∈ F, f < S.length) (hm : (S.length : Int) - F.length ≠ m) :
    Calls Try.prog 77 #[.pointer (some ⟨b, 0, none⟩), ndV v] w fun e w' => e = .returned (.tuple #[.int .i64 (anAt S F : Nat), .int .i64 0]) ∧
      ∃ X', AnI w' b X' m (anS S F v) F.dropLast ∧ Turned X w w' ∧ Newer X w.heap.size X' := by
  rcases List.eq_nil_or_concat F with rfl | ⟨F', f, rfl⟩
  · exact anput_new h v hS (by simpa using hm)
  · simp only [List.concat_eq_append, anS, anAt, List.getLast?_append, List.getLast?_singleton, Option.some_or, List.dropLast_concat] at *
    exact (anput_old h v hS hF (hf f (by simp)) hm).mono fun e w' ⟨he, h1, h2⟩ => ⟨he, X, h1, h2, Newer.refl _ _⟩

set_option maxRecDepth 100000 in
set_option maxHeartbeats 1600000 in
theorem fqlink_any {w : World} {b : Nat} {X : List Nat} {m : Int} {S : List (Nd Wt × Bool)} {F : List Nat} {f : Int → Option Int} {s : Nat} {fst lst l : Int} (h : FqRaw w b X m S F f s fst lst l) (v : Wt) (t : Int) (ht : (litN t).wf = true)
    (hS : S.length ≤ 5000) (hF : F.length ≤ 5000) (hs : s ≤ 5000) (hf : ∀ f ∈ F, f < S.length) (hm : (S.length : Int) - F.length ≠ m) (hfr : f t = none) :
    Calls Try.prog 64 #[.pointer (some ⟨b, 0, none⟩), ndV (v, t, 0, 0)] w fun e w' => e = .returned (.tuple #[]) ∧
      ∃ X', FqRaw w' b X' m (sbS (anS S F (v, t, lst, -1)) lst (anAt S F)) F.dropLast (updF f t (some (anAt S F : Int))) (s + 1) (sbF (anS S F (v, t, lst, -1)) lst (anAt S F) fst) (anAt S F) l ∧ Turned X w w' ∧ Newer X w.heap.size X' := by
  have hat : anAt S F ≤ 5000 := by
    unfold anAt
    cases hg : F.getLast? with
    | none => simp; omega
    | some g =>
      have := hf g (List.mem_of_getLast? hg)
      simp; omega
  obtain ⟨S1, hS1⟩ : ∃ S1, anS S F (v, t, lst, -1) = S1 := ⟨_, rfl⟩
  obtain ⟨p, hp⟩ : ∃ p, anAt S F = p := ⟨_, rfl⟩
  have HLT := Lib.hid h.lt
  have T1 : Turned [] w (w.alloc (ndC (v, t, lst, -1))) := (Turned.refl [] w).alloc _
  obtain ⟨V, hV⟩ : ∃ V, (w.alloc (ndC (v, t, lst, -1))).drew = V := ⟨_, rfl⟩
  have TV : Turned [] w V := hV ▸ T1.drew
  have K0 : V.heap[w.heap.size]? = some (ndC (v, t, lst, -1)) := by rw [← hV]; exact heap_alloc_new w _
  have HK0 := Lib.hid K0
  have HTV := Lib.hid TV
  have h' := h.keep (T1.drew) (by simp)
  have hbc : w.heap.size < V.heap.size := lt_of_block K0
  obtain ⟨ab0, gm0, Y0, D0, hb0, _⟩ := h
  obtain ⟨_, _, _, b3, _, _⟩ := cells5 (T1.same hb0 (by simp))
  obtain ⟨_, _, _, a3, _, _⟩ := cells5 (((Turned.refl [] w).alloc (ndC (v, t, 0, 0))).same hb0 (by simp))
  rw [hV] at h'
  obtain ⟨ab, gm, Y, D, hb, ha, hmm, hsz, hff, rfl⟩ := h'
  have HP := Lib.hid (anput_any ha (v, t, lst, -1) (by omega) (by omega) hf hm)
  rw [hS1, hp] at HP
  have HAR := Lib.hid (fun (w' : World) (Y' : List Nat) (ha' : AnI w' ab Y' m S1 F.dropLast) ht hn => FqRaw.arena (w' := w') (Y' := Y') hb ha hmm hsz hff ha' ht hn)
  obtain ⟨d0, _, _, _, _, _⟩ := cells5 hb
  obtain ⟨e0, e1, e2, e3, e4, e5, _⟩ := cells6 K0
  have HB0 := Lib.hid hb
  have NB := Lib.hid (fq_apart hb ha hmm).1
  have hab : ab < w.heap.size := HLT.out ab (by simp [ArAt.head ha])
  simp only [hS1, hp] at hat ⊢
  clear hb ha hmm hsz hff T1 TV K0 hb0 hf hm hS1 hp hS hF
  go_enter Try.func64, Try.ntmps64
  go_wp2_with fail
  go_region_held3 (fun w' => w'.cell? ⟨b, 0, none⟩ = some (.pointer (some ⟨ab, 0, none⟩)) ∧ w'.cell? ⟨w.heap.size, 0, none⟩ = some (.int .i64 v.1) ∧ w'.cell? ⟨w.heap.size, 1, none⟩ = some (.int .i64 v.2.1) ∧ w'.cell? ⟨w.heap.size, 2, none⟩ = some (.int .u64 v.2.2) ∧ w'.cell? ⟨w.heap.size, 3, none⟩ = some (.int .i64 t) ∧ w'.cell? ⟨w.heap.size, 4, none⟩ = some (.int .i64 lst) ∧ w'.cell? ⟨w.heap.size, 5, none⟩ = some (.int .i64 (-1)))
    (first | exact ⟨f0, f1, f2, f3, f4, f5, f6⟩ | (rw [hV]; exact ⟨d0, e0, e1, e2, e3, e4, e5⟩))
    (first
      | (go_at_call 77
         first
           | (with_reducible refine HP.out.mono ?_
              rintro e w2 ⟨rfl, Y', ha2, ht2, hn2⟩
              obtain ⟨r1, r2, r3⟩ := HAR.out w2 Y' ha2 ht2 hn2
              have k2 := r2.same HK0.out (fun hx => by have := HLT.out _ hx; omega)
              have nz : ∀ x ∈ b :: gm :: Y', x ≠ w.heap.size := fun x hx e => by
                rcases r3 x hx with h | h
                · have := HLT.out x h; omega
                · omega
              have HB := Lib.hid (fqbehind_any r1 lst (p : Int))
              obtain ⟨f0, _, _, c3, _, _⟩ := cells5 (ht2.same HB0.out NB.out)
              obtain ⟨f1, f2, f3, f4, f5, f6, _⟩ := cells6 k2
              have R1 := Lib.hid r1
              have R2 := Lib.hid r2
              have R3 := Lib.hid r3
              have HK2 := Lib.hid k2
              have NZ := Lib.hid nz
              clear ha2 ht2 hn2 r1 r2 r3 k2 nz)))
  all_goals
    clear hV
    go_wp2_with fail
    with_reducible refine HB.out.mono ?_
    rintro e w3 ⟨rfl, q1, q2⟩
    obtain ⟨w4, h4⟩ : ∃ w4, w3.setCell ⟨b, 3, none⟩ (.int .i64 (p : Int)) = w4 := ⟨_, rfl⟩
    obtain ⟨ab3, gm3, Z3, D3, hb3, ha3, hm3, hs3, hf3, hX3⟩ := q1
    obtain ⟨g1, g2⟩ := FqRaw.field hb3 ha3 hm3 hs3 hf3 (i := 3) (u := .int .i64 (p : Int)) (fst' := sbF S1 lst p fst) (lst' := (p : Int)) (l' := l) rfl
    have c33 := (cells5 hb3).2.2.2.2.2 3
    have c3v := (cells5 hb3).2.2.2.1
    rw [h4] at g1 g2
    rw [← hX3] at g1 g2
    have q3 := q2.trans g2 (Newer.refl _ _)
    have k4 := q3.same HK2.out (fun hx => NZ.out _ hx rfl)
    obtain ⟨ab4, gm4, Z4, D4, hb4, ha4, hm4, hs4, hf4, hX4⟩ := g1
    obtain ⟨_, m1, _, _, _, _⟩ := cells5 hb4
    obtain ⟨_, _, _, n1, _, _, _⟩ := cells6 k4
    have hlt : Maps.size D4 < maxLen := by unfold maxLen; omega
    have hpw : (litN (p : Int)).wf = true := WalkArith.wf_i64 (by omega)
    obtain ⟨w5, hrun, hown5, hturn5⟩ := hm4.drew.store lawN Try.underlying85 hlt (keyOf_int_mk Try.underlying3 ht) (plainElem_int Try.underlying3 hpw)
    have hsz5 : Maps.size (D4.put (litN t) (.lit (litN (p : Int)))) ≤ s + 1 := by
      rw [size_put (hm4.tidy lawN), hf4.has t, hfr]
      simp
      omega
    have W5 := Lib.hid (FqRaw.map (w := w4.drew) hb4 (ha4.keep ((Turned.refl [] w4).drew) (by simp)) hm4.drew hown5 hturn5 hsz5 (hf4.put t (p : Int)))
    have Q3 := Lib.hid q3
    have HX4 := Lib.hid hX4
    clear hb3 ha3 hm3 hs3 hf3 g2 q2 q3 k4 hb4 ha4 hm4 hs4 hf4 hX4 hlt hown5 hturn5 hsz5
    go_wp2_with fail
    go_region
    all_goals
      clear hrun
      go_end0
      have hs := HTV.out.size
      have h5 := W5.out
      rw [← HX4.out] at h5
      have t1 : Turned (b :: gm :: Y) w w2 := (HTV.out.mono (fun k hk => by simp at hk)).trans R2.out (Newer.refl _ _)
      have n1 : Newer (b :: gm :: Y) w.heap.size (b :: gm :: Y') := R3.out.mono hs
      exact ⟨rfl, _, h5.1, (t1.trans Q3.out n1).trans ((Turned.refl _ w4).drew.trans h5.2 (Newer.refl _ _)) n1, n1⟩
end Go.Proofs.Ytiffgkmmibhklaa.Wq
