/-
  A queue's New, Push, Remove, Pop, Len (element type int; made by gen_ff.py).
-/
import Derived.Test.YtnoiifnknkakoaaFqDrop
namespace Go.Proofs.Ytnoiifnknkakoaa
open Go.RowKit Go.Maps

/-- Block b holds a queue: room m, last ticket l; P stands in it, in order. -/
def FQ (w : World) (b : Nat) (X : List Nat) (m l : Int) (P : List (Pl Int)) : Prop :=
  ∃ S F f fst lst, FqRaw w b X m S F f P.length fst lst l ∧ QOk m l S F P f fst lst ∧ 0 ≤ l ∧ l ≤ 1000000

section
variable {w w' : World} {b : Nat} {X Y : List Nat} {m l : Int} {P A B : List (Pl Int)} {x : Pl Int}
theorem FQ.keep (h : FQ w b X m l P) (ht : Turned Y w w') (hd : ∀ k ∈ X, k ∉ Y) : FQ w' b X m l P := by
  obtain ⟨S, F, f, fst, lst, h1, h2⟩ := h
  exact ⟨S, F, f, fst, lst, h1.keep ht hd, h2⟩
theorem FQ.keep0 (h : FQ w b X m l P) (ht : Turned [] w w') : FQ w' b X m l P := h.keep ht (by simp)
theorem FQ.lt (h : FQ w b X m l P) : ∀ k ∈ X, k < w.heap.size := by
  obtain ⟨S, F, f, fst, lst, h1, h2⟩ := h
  exact h1.lt
theorem FQ.head (h : FQ w b X m l P) : b ∈ X := by
  obtain ⟨S, F, f, fst, lst, h1, h2⟩ := h
  exact h1.head
theorem FQ.room (h : FQ w b X m l P) : (P.length : Int) ≤ m ∧ m ≤ 4096 := by
  obtain ⟨S, F, f, fst, lst, h1, h2, _⟩ := h
  exact ⟨h2.room, h2.top⟩
set_option maxHeartbeats 400000 in
theorem fqnew_any (q : Int) (w : World) : Calls Try.prog 7 #[.int .i64 q] w fun e w' => ∃ b X, e = .returned (.pointer (some ⟨b, 0, none⟩)) ∧ FQ w' b X (min (max q 0) 4096) 0 [] ∧ Turned [] w w' ∧ ∀ k ∈ X, w.heap.size ≤ k := by
  have hmm := @run_makeMap Try.prog
  obtain ⟨v, hv⟩ : ∃ v, min (max q 0) 4096 = v := ⟨_, rfl⟩
  have hq : QOk v 0 ([] : List (Nd Int × Bool)) [] [] (fun _ => none) (-1) (-1) := hv ▸ QOk.new (q := q)
  have H := Lib.hid (annew_any q w)
  have hfin : FQ (((w.alloc (.cells #[.int .i64 v, .slice none 0 0, .slice none 0 0] tAn)).alloc (.map #[] 0)).alloc (quC w.heap.size (w.heap.size + 1) (-1) (-1) 0)) (w.heap.size + 2) [w.heap.size + 2, w.heap.size + 1, w.heap.size] v 0 [] ∧
      Turned [] w (((w.alloc (.cells #[.int .i64 v, .slice none 0 0, .slice none 0 0] tAn)).alloc (.map #[] 0)).alloc (quC w.heap.size (w.heap.size + 1) (-1) (-1) 0)) := by
    refine ⟨⟨[], [], fun _ => none, -1, -1, ⟨w.heap.size, w.heap.size + 1, [w.heap.size], .map [], ?_, ⟨.slice none 0 0, .slice none 0 0, ?_, World.ownsRow_nil _ _ _ _, World.ownsRow_nil _ _ _ _, rfl⟩, ?_, by simp [Maps.size], ReadsF.empty, rfl⟩, hq, by omega, by omega⟩, (((Turned.refl _ w).alloc _).alloc _).alloc _⟩
    · have := heap_alloc_new ((w.alloc (.cells #[.int .i64 v, .slice none 0 0, .slice none 0 0] tAn)).alloc (.map #[] 0)) (quC w.heap.size (w.heap.size + 1) (-1) (-1) 0)
      simp only [World.size_alloc] at this
      exact this
    · exact (Below.heap_alloc _ _ _ (by simp; omega)).trans ((Below.heap_alloc _ _ _ (by simp)).trans (heap_alloc_new w _))
    · have := (World.ownsMap_made (P := Try.prog) (k := tN) (R := plainElem (H := Unit) Try.prog tN) (w.alloc (.cells #[.int .i64 v, .slice none 0 0, .slice none 0 0] tAn))).alloc (quC w.heap.size (w.heap.size + 1) (-1) (-1) 0)
      simp only [World.size_alloc] at this
      exact this
  have HF := Lib.hid hfin
  rw [hv] at H ⊢
  clear hfin hq hv
  go_enter Try.func7, Try.ntmps7
  go_wp2_with fail
  refine H.out.mono ?_
  rintro e w1 ⟨rfl, rfl⟩
  go_wp2
  go_ret
  exact ⟨_, _, rfl, HF.out.1, HF.out.2, by intro k hk; simp at hk; omega⟩

set_option maxHeartbeats 400000 in
theorem fqlen_yes (h : FQ w b X m l P) : Calls Try.prog 20 #[.pointer (some ⟨b, 0, none⟩)] w fun e w' => e = .returned (.int .i64 (P.length : Nat)) ∧ ∃ n, w' = w.drewN n := by
  obtain ⟨S, F, f, fst, lst, h1, h2, _⟩ := h
  obtain ⟨l1, l2, l3, l4⟩ := h2.lens
  rw [← l4]
  exact fqlen_any h1 (by omega) (by omega)
set_option maxHeartbeats 400000 in
theorem fqlen_nil (w : World) : Calls Try.prog 20 #[.pointer none] w fun e w' => e = .returned (.int .i64 0) ∧ w' = w := by
  go_enter Try.func20, Try.ntmps20
  go_wp2
  go_ret
  exact ⟨rfl, rfl⟩
theorem fqhas_any (h : FQ w b X m l P) : Calls Try.prog 27 #[.pointer (some ⟨b, 0, none⟩)] w fun e w' => e = .returned (.bool (decide ((P.length : Int) < m))) ∧ ∃ n, w' = w.drewN n := by
  obtain ⟨S, F, f, fst, lst, h1, h2, _⟩ := h
  obtain ⟨l1, l2, l3, l4⟩ := h2.lens
  rw [← l4]
  exact fqroom_any h1 (by omega) (by omega)

set_option maxHeartbeats 400000 in
theorem fqpush_full (h : FQ w b X m l P) (v : Int) (hm : m ≤ P.length) :
    Calls Try.prog 9 #[.pointer (some ⟨b, 0, none⟩), .int .i64 v] w fun e w' => e = .returned (.tuple #[.int .i64 0, .int .i64 3]) ∧ ∃ n, w' = w.drewN n := by
  have hh := fqhas_any h
  rw [show decide ((P.length : Int) < m) = false by simp; omega] at hh
  have H := Lib.hid hh
  clear hh h hm
  go_enter Try.func9, Try.ntmps9
  go_wp2_with fail
  refine H.out.mono ?_
  rintro e w1 ⟨rfl, n, rfl⟩
  go_wp2
  go_ret2
  exact ⟨rfl, n, rfl⟩
set_option maxHeartbeats 400000 in
theorem fqpush_nil (v : Int) (w : World) :
    Calls Try.prog 9 #[.pointer none, .int .i64 v] w fun e w' => e = .returned (.tuple #[.int .i64 0, .int .i64 1]) ∧ w' = w := by
  go_enter Try.func9, Try.ntmps9
  go_wp2
  go_ret2
  exact ⟨rfl, rfl⟩

set_option maxRecDepth 100000 in
set_option maxHeartbeats 800000 in
theorem fqpush_yes (h : FQ w b X m l P) (v : Int) (hm : (P.length : Int) < m) (hl : l ≤ 100000) :
    Calls Try.prog 9 #[.pointer (some ⟨b, 0, none⟩), .int .i64 v] w fun e w' => e = .returned (.tuple #[.int .i64 (l + 1), .int .i64 0]) ∧
      ∃ X' p, FQ w' b X' m (l + 1) (P ++ [(p, l + 1, v)]) ∧ Turned X w w' ∧ Newer X w.heap.size X' := by
  have hh := fqhas_any h
  rw [show decide ((P.length : Int) < m) = true by simp; omega] at hh
  have H := Lib.hid hh
  obtain ⟨S, F, f, fst, lst, h1, h2, hl0, _⟩ := h
  have HO := Lib.hid (h2.pushed hm hl0 v)
  have HL := Lib.hid h2.lens
  have HI := Lib.hid h2.inb
  have hfr : f (l + 1) = none := by
    rw [h2.fs]
    cases hc : lookP P (l + 1) with
    | none => rfl
    | some q =>
      obtain ⟨A, y, B, rfl, hy, _, _⟩ := lookP_some hc
      have := h2.bnd y (by simp)
      omega
  have HFR := Lib.hid hfr
  have H1 := Lib.hid h1
  have hw1 : IntKind.i64.wrap (l + 1) = l + 1 := by rw [IntKind.wrap_i64]; omega
  obtain ⟨ab, gm, Y, D, hb, _⟩ := id h1
  obtain ⟨_, _, _, _, c4, cf⟩ := cells5 hb
  have cf4 := cf 4
  clear hb h1 h2 hh cf hfr
  go_enter Try.func9, Try.ntmps9
  go_wp2_with fail
  refine H.out.mono ?_
  rintro e w1 ⟨rfl, n, rfl⟩
  obtain ⟨ab1, gm1, Y1, D1, hb1, ha1, hm1, hs1, hf1, hX1⟩ := H1.out.drewN n
  have R := FqRaw.field hb1 ha1 hm1 hs1 hf1 (i := 4) (u := .int .i64 (l + 1)) (fst' := fst) (lst' := lst) (l' := l + 1) rfl
  rw [← hX1] at R
  obtain ⟨_, _, _, _, d4, df⟩ := cells5 hb1
  have df4 := df 4
  obtain ⟨W, hW⟩ : ∃ W, (w.drewN n).setCell ⟨b, 4, none⟩ (.int .i64 (l + 1)) = W := ⟨_, rfl⟩
  rw [hW] at R
  obtain ⟨R1, R2⟩ := R
  obtain ⟨l1, l2, l3, l4⟩ := HL.out
  have HK := Lib.hid (fqlink_any R1 v (l + 1) (WalkArith.wf_i64 (by omega)) l1 l2 l3 (fun i hi => HI.out i (List.mem_append_left _ hi)) (by omega) HFR.out)
  have HT := Lib.hid (((Turned.refl X w).drewN n).trans R2 (Newer.refl _ _))
  obtain ⟨ab2, gm2, Y2, D2, hb2, _⟩ := id R1
  obtain ⟨_, _, _, _, e4, _⟩ := cells5 hb2
  clear hb1 ha1 hm1 hs1 hf1 hX1 df R1 R2 hb2 l1 l2 l3 l4
  go_wp2_with fail
  (try rw [hW])
  clear hW
  with_reducible refine HK.out.mono ?_
  rintro e w2 ⟨rfl, X', r1, r2, r3⟩
  have T2 := Lib.hid (HT.out.trans r2 (Newer.refl _ _))
  have N2 := Lib.hid (r3.mono HT.out.size)
  have R1 := Lib.hid r1
  obtain ⟨ab3, gm3, Y3, D3, hb3, _⟩ := id r1
  obtain ⟨_, _, _, _, g4, _⟩ := cells5 hb3
  clear r1 r2 r3 hb3
  go_wp2
  go_ret2
  exact ⟨rfl, X', _, ⟨_, _, _, _, _, by simpa using R1.out, HO.out, by omega, by omega⟩, T2.out, N2.out⟩

set_option maxHeartbeats 400000 in
theorem fqremove_no (h : FQ w b X m l P) (t : Int) (ht : (litN t).wf = true) (hn : lookP P t = none) :
    Calls Try.prog 13 #[.pointer (some ⟨b, 0, none⟩), .int .i64 t] w fun e w' => e = .returned (.tuple #[.int .i64 0, .bool false]) ∧ w = w' := by
  obtain ⟨S, F, f, fst, lst, h1, h2, _⟩ := h
  have hp := fqplace_any h1 t ht
  rw [h2.fs, hn] at hp
  have H := Lib.hid hp
  clear hp h1 h2 hn
  go_enter Try.func13, Try.ntmps13
  go_wp2_with fail
  refine H.out.mono ?_
  rintro e w1 ⟨rfl, rfl⟩
  simp only [Option.getD_none, Option.isSome_none]
  go_wp2
  go_ret2
  exact ⟨rfl, rfl⟩
theorem nd_field (v : Int) (t a c : Int) (w : World) : (Instr.field tNd (ndV (v, t, a, c)) 0).run Try.prog w = .ok (.int .i64 v) w := by kernel_rfl
set_option maxRecDepth 100000 in
set_option maxHeartbeats 400000 in
theorem fqremove_yes (h : FQ w b X m l (A ++ x :: B)) (t : Int) (ht : t = x.2.1) :
    Calls Try.prog 13 #[.pointer (some ⟨b, 0, none⟩), .int .i64 t] w fun e w' => e = .returned (.tuple #[.int .i64 x.2.2, .bool true]) ∧
      ∃ X', FQ w' b X' m l (A ++ B) ∧ Turned X w w' ∧ Newer X w.heap.size X' := by
  subst ht
  obtain ⟨S, F, f, fst, lst, h1, h2, h3, h4⟩ := h
  have hb := h2.bnd x (by simp)
  have ht : (litN x.2.1).wf = true := WalkArith.wf_i64 (by omega)
  obtain ⟨l1, l2, l3, l4⟩ := h2.lens
  obtain ⟨s1, s2, s3⟩ := h2.split
  have hp := fqplace_any h1 x.2.1 ht
  rw [s2] at hp
  have hln : (A ++ x :: B).length = (A ++ B).length + 1 := by simp; omega
  rw [hln] at h1
  have hu := fqunlink_any h1 x.1 x.2.2 x.2.1 _ _ s1 ht l2 (by rw [s2]; rfl)
  have HO := Lib.hid (h2.dropped nd0)
  obtain ⟨x1, x2, x3⟩ := x
  simp only at hp hu HO ⊢
  have H := Lib.hid hp
  have HU := Lib.hid hu
  have hfd := nd_field x3 x2 (lsP (-1) A) (hdP B (-1))
  clear hp hu h1 h2 hb ht s1 s2 s3 hln
  go_enter Try.func13, Try.ntmps13
  go_wp2_with fail
  refine H.out.mono ?_
  rintro e w1 ⟨rfl, rfl⟩
  simp only [Option.getD_some, Option.isSome_some]
  go_wp2_with fail
  with_reducible refine HU.out.mono ?_
  rintro e w2 ⟨rfl, X', r1, r2, r3⟩
  have R := Lib.hid (And.intro r1 (And.intro r2 r3))
  clear r1 r2 r3
  go_wp2
  go_ret2
  obtain ⟨r1, r2, r3⟩ := R.out
  exact ⟨rfl, X', ⟨_, _, _, _, _, r1, HO.out, h3, h4⟩, r2, r3⟩
theorem fqremove_nil (t : Int) (w : World) :
    Calls Try.prog 13 #[.pointer none, .int .i64 t] w fun e w' => e = .returned (.tuple #[.int .i64 0, .bool false]) ∧ w' = w := by
  have H : Calls Try.prog 30 #[.pointer none, .int .i64 t] w fun e w' => e = .returned (.tuple #[.int .i64 (-1), .bool false]) ∧ w' = w := by
    go_enter Try.func30, Try.ntmps30
    go_wp2
    go_ret2
    exact ⟨rfl, rfl⟩
  go_enter Try.func13, Try.ntmps13
  go_wp2_with fail
  refine H.mono ?_
  rintro e w1 ⟨rfl, rfl⟩
  go_wp2
  go_ret2
  exact ⟨rfl, rfl⟩

set_option maxHeartbeats 400000 in
theorem fqpop_none (h : FQ w b X m l []) :
    Calls Try.prog 11 #[.pointer (some ⟨b, 0, none⟩)] w fun e w' => e = .returned (.tuple #[.int .i64 0, .bool false]) ∧ ∃ n, w' = w.drewN n := by
  have H := Lib.hid (fqlen_yes h)
  clear h
  go_enter Try.func11, Try.ntmps11
  go_wp2_with fail
  refine H.out.mono ?_
  rintro e w1 ⟨rfl, n, rfl⟩
  simp only [List.length_nil]
  go_wp2
  go_ret2
  exact ⟨rfl, n, rfl⟩
theorem fqpop_nil (w : World) :
    Calls Try.prog 11 #[.pointer none] w fun e w' => e = .returned (.tuple #[.int .i64 0, .bool false]) ∧ w' = w := by
  go_enter Try.func11, Try.ntmps11
  go_wp2_with fail
  refine (fqlen_nil w).mono ?_
  rintro e w1 ⟨rfl, rfl⟩
  go_wp2
  go_ret2
  exact ⟨rfl, rfl⟩

set_option maxRecDepth 100000 in
set_option maxHeartbeats 800000 in
theorem fqpop_some (h : FQ w b X m l (x :: B)) :
    Calls Try.prog 11 #[.pointer (some ⟨b, 0, none⟩)] w fun e w' => e = .returned (.tuple #[.int .i64 x.2.2, .bool true]) ∧
      ∃ X', FQ w' b X' m l B ∧ Turned X w w' ∧ Newer X w.heap.size X' := by
  have H := Lib.hid (fqlen_yes h)
  have HH := Lib.hid h
  obtain ⟨S, F, f, fst, lst, h1, h2, h3, h4⟩ := h
  obtain ⟨x1, x2, x3⟩ := x
  have hfst : fst = (x1 : Int) := h2.first
  have hseg := h2.seg.1
  simp only at hseg ⊢
  obtain ⟨c, hc⟩ : ∃ c, hdP B (-1) = c := ⟨_, rfl⟩
  rw [hc] at hseg
  obtain ⟨ab, gm, Y, D, hb, ha, _⟩ := h1
  rw [hfst] at hb
  have HS : Hid (∀ w', Turned [] w w' → w'.cell? ⟨b, 0, none⟩ = some (.pointer (some ⟨ab, 0, none⟩)) ∧ w'.cell? ⟨b, 2, none⟩ = some (.int .i64 (x1 : Int)) ∧ Turned [] w w') := Lib.hid (fun w' ht => by
    obtain ⟨d0, _, d2, _, _, _⟩ := cells5 (ht.same hb (by simp))
    exact ⟨d0, d2, ht⟩)
  have HG := Lib.hid (fun (w' : World) (ht : Turned [] w w') => anget_yes (ha.keep ht (by simp)) (x1 : Int) x1 _ rfl hseg)
  have HR := Lib.hid (fun (w' : World) (ht : Turned [] w w') => fqremove_yes (A := []) (HH.out.keep0 ht) x2 rfl)
  simp only [List.nil_append] at HR
  clear h2 hfst hseg hc hb ha h3 h4
  go_enter Try.func11, Try.ntmps11
  go_wp2_with fail
  refine H.out.mono ?_
  rintro e w1 ⟨rfl, n, rfl⟩
  have hl0 : ((((x1, x2, x3) :: B).length : Nat) : Int) ≠ 0 := by simp; omega
  obtain ⟨q, hq⟩ : ∃ q : Nat, ((x1, x2, x3) :: B).length = q := ⟨_, rfl⟩
  rw [hq] at hl0 ⊢
  have hq0 : ((q : Int) == 0) = false := by simpa using hl0
  obtain ⟨V, hV⟩ : ∃ V, w.drewN n = V := ⟨_, rfl⟩
  have TV := Lib.hid (show Turned [] w V.drew by rw [← hV]; exact (((Turned.refl [] w).drewN n).drew))
  have TA := Lib.hid (show Turned [] w (V.alloc (ndC nd0)).drew by rw [← hV]; exact ((((Turned.refl [] w).drewN n).alloc _).drew))
  have HVs : w.heap.size ≤ V.heap.size := by rw [← hV]; exact Nat.le_refl _
  rw [hV]
  clear hV hq
  obtain ⟨d0, d2, dt⟩ := HS.out _ TV.out
  go_wp2_with fail
  go_region_held3 (fun w' => w'.cell? ⟨b, 0, none⟩ = some (.pointer (some ⟨ab, 0, none⟩)) ∧ w'.cell? ⟨b, 2, none⟩ = some (.int .i64 (x1 : Int)) ∧ Turned [] w w')
    (first | exact ⟨f0, f2, ft⟩ | exact HS.out _ (ft.alloc _) | exact HS.out _ (ft.set4 (.inr HVs) _ _ _ _) | exact ⟨d0, d2, dt⟩ | exact HS.out _ (dt.alloc _) | exact HS.out _ TA.out)
    (first
      | (go_at_call 29
         first
           | (with_reducible refine (HG.out _ dt).mono ?_
              rintro e w2 ⟨rfl, t2⟩
              obtain ⟨f0, f2, ft⟩ := HS.out _ (dt.j t2)
              clear t2)
           | (with_reducible refine (HG.out _ TA.out).mono ?_
              rintro e w2 ⟨rfl, t2⟩
              have k2 := t2.same (show (V.alloc (ndC nd0)).drew.heap[V.heap.size]? = _ from heap_alloc_new V (ndC nd0)) (by simp)
              obtain ⟨z0, z1, z2, z3, zf⟩ := cells4 k2
              have zf0 := zf 0
              have zf1 := zf 1
              have zf2 := zf 2
              have zf3 := zf 3
              obtain ⟨f0, f2, ft⟩ := HS.out _ (TA.out.j t2)
              clear t2 k2 zf)))
  all_goals
    go_wp2_with fail
    obtain ⟨W1, hW1⟩ : ∃ W1, w2.alloc (.cells #[.int .i64 x3, .int .i64 x2, .int .i64 (-1), .int .i64 c] tNd) = W1 := ⟨_, rfl⟩
    obtain ⟨W2, hW2⟩ : ∃ W2, (((w2.setCell ⟨V.heap.size, 0, none⟩ (.int .i64 x3)).setCell ⟨V.heap.size, 1, none⟩ (.int .i64 x2)).setCell ⟨V.heap.size, 2, none⟩ (.int .i64 (-1))).setCell ⟨V.heap.size, 3, none⟩ (.int .i64 c) = W2 := ⟨_, rfl⟩
    have T1 := Lib.hid (show Turned [] w W1 by rw [← hW1]; exact ft.alloc _)
    have T2 := Lib.hid (show Turned [] w W2 by rw [← hW2]; exact ft.set4 (.inr HVs) _ _ _ _)
    first
      | (simp only [hW1]
         with_reducible refine (HR.out _ T1.out).mono ?_
         rintro e w3 ⟨rfl, X', r1, r2, r3⟩
         have R := Lib.hid (show ∃ X', FQ w3 b X' m l B ∧ Turned X w w3 ∧ Newer X w.heap.size X' from ⟨X', r1, (T1.out.mono (fun k hk => by simp at hk)).trans r2 (Newer.refl _ _), r3.mono T1.out.size⟩)
         clear r1 r2 r3)
      | (simp only [hW2]
         with_reducible refine (HR.out _ T2.out).mono ?_
         rintro e w3 ⟨rfl, X', r1, r2, r3⟩
         have R := Lib.hid (show ∃ X', FQ w3 b X' m l B ∧ Turned X w w3 ∧ Newer X w.heap.size X' from ⟨X', r1, (T2.out.mono (fun k hk => by simp at hk)).trans r2 (Newer.refl _ _), r3.mono T2.out.size⟩)
         clear r1 r2 r3)
    clear hW1 hW2 T1 T2
    go_wp2
    go_ret2
    exact ⟨rfl, R.out⟩
end
end Go.Proofs.Ytnoiifnknkakoaa
