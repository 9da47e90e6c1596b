/-
  A queue's New, Push, Remove, Pop, Len (element type api.Wait; made by gen_ffw.py).
-/
import Derived.Test.YtiffgkmmibhklaaFqDropW
namespace Go.Proofs.Ytiffgkmmibhklaa.Wq
open Go.RowKit Go.Maps

/-- Block b holds a queue: room m, last ticket l; P stands in it, in order. -/
def FQ (w : World) (b : Nat) (X : List Nat) (m l : Int) (P : List (Pl Wt)) : Prop :=
  ∃ S F f fst lst, FqRaw w b X m S F f P.length fst lst l ∧ QOk m l S F P f fst lst ∧ 0 ≤ l ∧ l ≤ 1000000

section
variable {w w' : World} {b : Nat} {X Y : List Nat} {m l : Int} {P A B : List (Pl Wt)} {x : Pl Wt}
theorem FQ.keep (h : FQ w b X m l P) (ht : Turned Y w w') (hd : ∀ k ∈ X, k ∉ Y) : FQ w' b X m l P := by
  obtain ⟨S, F, f, fst, lst, h1, h2⟩ := h
  exact ⟨S, F, f, fst, lst, h1.keep ht hd, h2⟩
theorem FQ.keep0 (h : FQ w b X m l P) (ht : Turned [] w w') : FQ w' b X m l P := h.keep ht (by simp)
theorem FQ.lt (h : FQ w b X m l P) : ∀ k ∈ X, k < w.heap.size := by
  obtain ⟨S, F, f, fst, lst, h1, h2⟩ := h
  exact h1.lt
theorem FQ.head (h : FQ w b X m l P) : b ∈ X := by
  obtain ⟨S, F, f, fst, lst, h1, h2⟩ := h
  exact h1.head
theorem FQ.room (h : FQ w b X m l P) : (P.length : Int) ≤ m ∧ m ≤ 4096 := by
  obtain ⟨S, F, f, fst, lst, h1, h2, _⟩ := h
  exact ⟨h2.room, h2.top⟩
set_option maxHeartbeats 400000 in
theorem fqnew_any (q : Int) (w : World) : Calls Try.prog 62 #[.int .i64 q] w fun e w' => ∃ b X, e = .returned (.pointer (some ⟨b, 0, none⟩)) ∧ FQ w' b X (min (max q 0) 4096) 0 [] ∧ Turned [] w w' ∧ ∀ k ∈ X, w.heap.size ≤ k := by
  have hmm := @run_makeMap Try.prog
  obtain ⟨v, hv⟩ : ∃ v, min (max q 0) 4096 = v := ⟨_, rfl⟩
  have hq : QOk v 0 ([] : List (Nd Wt × Bool)) [] [] (fun _ => none) (-1) (-1) := hv ▸ QOk.new (q := q)
  have H := Lib.hid (annew_any q w)
  have hfin : FQ (((w.alloc (.cells #[.int .i64 v, .slice none 0 0, .slice none 0 0] tAn)).alloc (.map #[] 0)).alloc (quC w.heap.size (w.heap.size + 1) (-1) (-1) 0)) (w.heap.size + 2) [w.heap.size + 2, w.heap.size + 1, w.heap.size] v 0 [] ∧
      Turned [] w (((w.alloc (.cells #[.int .i64 v, .slice none 0 0, .slice none 0 0] tAn)).alloc (.map #[] 0)).alloc (quC w.heap.size (w.heap.size + 1) (-1) (-1) 0)) := by
    refine ⟨⟨[], [], fun _ => none, -1, -1, ⟨w.heap.size, w.heap.size + 1, [w.heap.size], .map [], ?_, ⟨.slice none 0 0, .slice none 0 0, ?_, World.ownsRow_nil _ _ _ _, World.ownsRow_nil _ _ _ _, rfl⟩, ?_, by simp [Maps.size], ReadsF.empty, rfl⟩, hq, by omega, by omega⟩, (((Turned.refl _ w).alloc _).alloc _).alloc _⟩
    · have := heap_alloc_new ((w.alloc (.cells #[.int .i64 v, .slice none 0 0, .slice none 0 0] tAn)).alloc (.map #[] 0)) (quC w.heap.size (w.heap.size + 1) (-1) (-1) 0)
      simp only [World.size_alloc] at this
      exact this
    · exact (Below.heap_alloc _ _ _ (by simp; omega)).trans ((Below.heap_alloc _ _ _ (by simp)).trans (heap_alloc_new w _))
    · have := (World.ownsMap_made (P := Try.prog) (k := tN) (R := plainElem (H := Unit) Try.prog tN) (w.alloc (.cells #[.int .i64 v, .slice none 0 0, .slice none 0 0] tAn))).alloc (quC w.heap.size (w.heap.size + 1) (-1) (-1) 0)
      simp only [World.size_alloc] at this
      exact this
  have HF := Lib.hid hfin
  rw [hv] at H ⊢
  clear hfin hq hv
  go_enter Try.func62, Try.ntmps62
  go_wp2_with fail
  refine H.out.mono ?_
  rintro e w1 ⟨rfl, rfl⟩
  go_wp2
  go_ret
  exact ⟨_, _, rfl, HF.out.1, HF.out.2, by intro k hk; simp at hk; omega⟩

set_option maxHeartbeats 400000 in
theorem fqlen_yes (h : FQ w b X m l P) : Calls Try.prog 44 #[.pointer (some ⟨b, 0, none⟩)] w fun e w' => e = .returned (.int .i64 (P.length : Nat)) ∧ ∃ n, w' = w.drewN n := by
  obtain ⟨S, F, f, fst, lst, h1, h2, _⟩ := h
  obtain ⟨l1, l2, l3, l4⟩ := h2.lens
  rw [← l4]
  exact fqlen_any h1 (by omega) (by omega)
set_option maxHeartbeats 400000 in
theorem fqlen_nil (w : World) : Calls Try.prog 44 #[.pointer none] w fun e w' => e = .returned (.int .i64 0) ∧ w' = w := by
  go_enter Try.func44, Try.ntmps44
  go_wp2
  go_ret
  exact ⟨rfl, rfl⟩
theorem fqhas_any (h : FQ w b X m l P) : Calls Try.prog 63 #[.pointer (some ⟨b, 0, none⟩)] w fun e w' => e = .returned (.bool (decide ((P.length : Int) < m))) ∧ ∃ n, w' = w.drewN n := by
  obtain ⟨S, F, f, fst, lst, h1, h2, _⟩ := h
  obtain ⟨l1, l2, l3, l4⟩ := h2.lens
  rw [← l4]
  exact fqroom_any h1 (by omega) (by omega)

set_option maxRecDepth 100000 in
set_option maxHeartbeats 1600000 in
theorem fqpush_yes (h : FQ w b X m l P) (v : Wt) (hm : (P.length : Int) < m) (hl : l ≤ 100000) :
    Calls Try.prog 46 #[.pointer (some ⟨b, 0, none⟩), aggW v] w fun e w' => e = .returned (.tuple #[.int .i64 (l + 1), .int .i64 0]) ∧
      ∃ X' p, FQ w' b X' m (l + 1) (P ++ [(p, l + 1, v)]) ∧ Turned X w w' ∧ Newer X w.heap.size X' := by
  obtain ⟨W, hW⟩ : ∃ W, w.alloc (wtC v) = W := ⟨_, rfl⟩
  have TW : Turned [] w W := hW ▸ (Turned.refl [] w).alloc _
  have KW : W.heap[w.heap.size]? = some (wtC v) := hW ▸ heap_alloc_new w _
  have hXl := h.lt
  have hRX : w.heap.size ∉ X := fun hx => by have := hXl _ hx; omega
  have h0 := h.keep0 TW
  have hh := fqhas_any h0
  rw [show decide ((P.length : Int) < m) = true by simp; omega] at hh
  have H := Lib.hid hh
  obtain ⟨S, F, f, fst, lst, h1, h2, hl0, _⟩ := h0
  have HO := Lib.hid (h2.pushed hm hl0 v)
  have HL := Lib.hid h2.lens
  have HI := Lib.hid h2.inb
  have hfr : f (l + 1) = none := by
    rw [h2.fs]
    cases hc : lookP P (l + 1) with
    | none => rfl
    | some q =>
      obtain ⟨A, y, B, rfl, hy, _, _⟩ := lookP_some hc
      have := h2.bnd y (by simp)
      omega
  have HFR := Lib.hid hfr
  have H1 := Lib.hid h1
  have HTW := Lib.hid TW
  have HKW := Lib.hid KW
  have hw1 : IntKind.i64.wrap (l + 1) = l + 1 := by rw [IntKind.wrap_i64]; omega
  obtain ⟨ab, gm, Y, D, hb, _⟩ := id h1
  obtain ⟨_, _, _, _, c4, cf⟩ := cells5 hb
  have cf4 := cf 4
  clear hb h1 h2 hh cf hfr h TW KW hXl
  go_enter Try.func46, Try.ntmps46
  go_wp2_with fail
  (try rw [hW])
  clear hW
  refine H.out.mono ?_
  rintro e w1 ⟨rfl, n, rfl⟩
  obtain ⟨ab1, gm1, Y1, D1, hb1, ha1, hm1, hs1, hf1, hX1⟩ := H1.out.drewN n
  have R := FqRaw.field hb1 ha1 hm1 hs1 hf1 (i := 4) (u := .int .i64 (l + 1)) (fst' := fst) (lst' := lst) (l' := l + 1) rfl
  rw [← hX1] at R
  obtain ⟨_, _, _, _, d4, df⟩ := cells5 hb1
  have df4 := df 4
  obtain ⟨V, hV⟩ : ∃ V, (W.drewN n).setCell ⟨b, 4, none⟩ (.int .i64 (l + 1)) = V := ⟨_, rfl⟩
  rw [hV] at R
  obtain ⟨R1, R2⟩ := R
  have KV : V.heap[w.heap.size]? = some (wtC v) := R2.same (show (W.drewN n).heap[w.heap.size]? = _ from HKW.out) hRX
  obtain ⟨DD, hDD⟩ : ∃ DD, V.drew = DD := ⟨_, rfl⟩
  have TD : Turned [] V DD := hDD ▸ (Turned.refl [] V).drew
  have R1 := R1.keep TD (by simp)
  have KD := TD.same KV (by simp)
  obtain ⟨k0, k1, k2, _⟩ := cells3a KD
  obtain ⟨l1, l2, l3, l4⟩ := HL.out
  have HK := Lib.hid (fqlink_any R1 v (l + 1) (WalkArith.wf_i64 (by omega)) l1 l2 l3 (fun i hi => HI.out i (List.mem_append_left _ hi)) (by omega) HFR.out)
  have HT := Lib.hid (((((Turned.refl X W).drewN n).trans R2 (Newer.refl _ _)).trans (TD.up : Turned X V DD) (Newer.refl _ _)))
  obtain ⟨ab2, gm2, Y2, D2, hb2, _⟩ := id R1
  obtain ⟨_, _, _, _, e4, _⟩ := cells5 hb2
  clear hb1 ha1 hm1 hs1 hf1 hX1 df R1 R2 hb2 l1 l2 l3 l4 TD KV KD
  go_wp2_with fail
  (try rw [hV])
  refine tail_at 7 hDD (by kernel_rfl) (by kernel_rfl) ?_
  clear hV hDD
  simp only [List.take_succ_cons, List.take_zero, List.drop_succ_cons, List.drop_zero]
  repeat still_step
  refine wpStill_nil ?_
  go_wp2_with fail
  with_reducible refine HK.out.mono ?_
  rintro e w2 ⟨rfl, X', r1, r2, r3⟩
  have T2 := Lib.hid ((HTW.out.up : Turned X w W).trans (HT.out.trans r2 (Newer.refl _ _)) (Newer.refl _ _))
  have N2 := Lib.hid (r3.mono (Nat.le_trans HTW.out.size HT.out.size))
  have R1 := Lib.hid r1
  obtain ⟨ab3, gm3, Y3, D3, hb3, _⟩ := id r1
  obtain ⟨_, _, _, _, g4, _⟩ := cells5 hb3
  clear r1 r2 r3 hb3
  go_wp2
  go_ret2
  exact ⟨rfl, X', _, ⟨_, _, _, _, _, by simpa using R1.out, HO.out, by omega, by omega⟩, T2.out, N2.out⟩

theorem nd_field (v : Wt) (t a c : Int) (w : World) : (Instr.field tNd (ndV (v, t, a, c)) 0).run Try.prog w = .ok (aggW v) w := by kernel_rfl
set_option maxRecDepth 100000 in
set_option maxHeartbeats 800000 in
theorem fqremove_yes (h : FQ w b X m l (A ++ x :: B)) (t : Int) (ht : t = x.2.1) :
    Calls Try.prog 52 #[.pointer (some ⟨b, 0, none⟩), .int .i64 t] w fun e w' => e = .returned (.tuple #[aggW x.2.2, .bool true]) ∧
      ∃ X', FQ w' b X' m l (A ++ B) ∧ Turned X w w' ∧ Newer X w.heap.size X' := by
  subst ht
  obtain ⟨W, hW⟩ : ∃ W, w.alloc (wtC (0, 0, 0)) = W := ⟨_, rfl⟩
  have TW : Turned [] w W := hW ▸ (Turned.refl [] w).alloc _
  have KW : W.heap[w.heap.size]? = some (wtC (0, 0, 0)) := hW ▸ heap_alloc_new w _
  have HXl := Lib.hid h.lt
  have HTW := Lib.hid TW
  have HKW := Lib.hid KW
  have hlt : w.heap.size < W.heap.size := lt_of_block KW
  obtain ⟨S, F, f, fst, lst, h1, h2, h3, h4⟩ := h.keep0 TW
  have hb := h2.bnd x (by simp)
  have ht : (litN x.2.1).wf = true := WalkArith.wf_i64 (by omega)
  obtain ⟨l1, l2, l3, l4⟩ := h2.lens
  obtain ⟨s1, s2, s3⟩ := h2.split
  have hp := fqplace_any h1 x.2.1 ht
  rw [s2] at hp
  have hln : (A ++ x :: B).length = (A ++ B).length + 1 := by simp; omega
  rw [hln] at h1
  have hu := fqunlink_any h1 x.1 x.2.2 x.2.1 _ _ s1 ht l2 (by rw [s2]; rfl)
  have HO := Lib.hid (h2.dropped nd0)
  obtain ⟨x1, x2, x3⟩ := x
  simp only at hp hu HO ⊢
  have H := Lib.hid hp
  have HU := Lib.hid hu
  have hfd := nd_field x3 x2 (lsP (-1) A) (hdP B (-1))
  clear hp hu h1 h2 hb ht s1 s2 s3 hln h TW KW
  go_enter Try.func52, Try.ntmps52
  go_wp2_with fail
  (try rw [hW])
  clear hW
  refine H.out.mono ?_
  rintro e w1 ⟨rfl, rfl⟩
  simp only [Option.getD_some, Option.isSome_some]
  go_wp2_with fail
  with_reducible refine HU.out.mono ?_
  rintro e w2 ⟨rfl, X', r1, r2, r3⟩
  have kk := r2.same HKW.out (fun hx => by have := HXl.out _ hx; omega)
  have MM := Lib.hid kk
  obtain ⟨k0, k1, k2, kf⟩ := cells3a kk
  have kf0 := kf 0
  have kf1 := kf 1
  have kf2 := kf 2
  have R := Lib.hid (And.intro r1 (And.intro r2 r3))
  clear r1 r2 r3 kf kk
  go_wp2_with fail
  (try simp only [Exit.inBlock, Exit.then])
  refine bodyPost_ret (wt_result rfl rfl rfl (wt_stored MM.out)) rfl ?_
  obtain ⟨r1, r2, r3⟩ := R.out
  have ht3 : Turned [w.heap.size] w2 (((w2.setCell ⟨w.heap.size, 0, none⟩ (.int .i64 x3.1)).setCell ⟨w.heap.size, 1, none⟩ (.int .i64 x3.2.1)).setCell ⟨w.heap.size, 2, none⟩ (.int .u64 x3.2.2)) := (Turned.refl _ w2).set3w (.inl (by simp)) _ _ _
  refine ⟨rfl, X', FQ.keep ⟨_, _, _, _, _, r1, HO.out, h3, h4⟩ ht3 (own_off HXl.out r3 hlt), ((HTW.out.up : Turned X w W).trans r2 (Newer.refl _ _)).trans ht3 (fun k hk => .inr (by simp at hk; omega)), r3.mono HTW.out.size⟩
theorem fqplace_nil (t : Int) (w : World) : Calls Try.prog 53 #[.pointer none, .int .i64 t] w fun e w' => e = .returned (.tuple #[.int .i64 (-1), .bool false]) ∧ w' = w := by
  go_enter Try.func53, Try.ntmps53
  go_wp2
  go_ret2
  exact ⟨rfl, rfl⟩
set_option maxHeartbeats 800000 in
theorem fqremove_nil (t : Int) (w : World) :
    Calls Try.prog 52 #[.pointer none, .int .i64 t] w fun e w' => e = .returned (.tuple #[aggW (0, 0, 0), .bool false]) ∧ Turned [] w w' := by
  have H := Lib.hid (fqplace_nil t (w.alloc (wtC (0, 0, 0))))
  have kk : ((w.alloc (wtC (0, 0, 0))).alloc (wtC (0, 0, 0))).heap[w.heap.size]? = some (wtC (0, 0, 0)) := (Below.heap_alloc _ _ _ (by simp)).trans (heap_alloc_new w _)
  have HT := Lib.hid (((Turned.refl [] w).alloc (wtC (0, 0, 0))).alloc (wtC (0, 0, 0)))
  obtain ⟨V, hV⟩ : ∃ V, (w.alloc (wtC (0, 0, 0))).alloc (wtC (0, 0, 0)) = V := ⟨_, rfl⟩
  have k2 : V.heap[w.heap.size + 1]? = some (wtC (0, 0, 0)) := by
    rw [← hV]
    have := heap_alloc_new (w.alloc (wtC (0, 0, 0))) (wtC (0, 0, 0))
    simp only [World.size_alloc] at this
    exact this
  rw [hV] at kk HT
  have MM := Lib.hid kk
  obtain ⟨q0, q1, q2, qf⟩ := cells3a kk
  have qf0 := qf 0
  have qf1 := qf 1
  have qf2 := qf 2
  obtain ⟨p0, p1, p2, _⟩ := cells3a k2
  clear kk k2 qf
  go_enter Try.func52, Try.ntmps52
  go_wp2_with fail
  refine H.out.mono ?_
  rintro e w1 ⟨rfl, rfl⟩
  go_wp2_with fail
  (try simp only [Exit.inBlock, Exit.then])
  (try simp only [hV])
  refine bodyPost_ret (wt_result rfl rfl rfl (wt_stored MM.out)) rfl ?_
  exact ⟨rfl, HT.out.set3w (.inr (Nat.le_refl _)) _ _ _⟩

set_option maxHeartbeats 800000 in
theorem fqpop_nil (w : World) :
    Calls Try.prog 48 #[.pointer none] w fun e w' => e = .returned (.tuple #[aggW (0, 0, 0), .bool false]) ∧ Turned [] w w' := by
  have H := Lib.hid (fqlen_nil (w.alloc (wtC (0, 0, 0))))
  have kk : ((w.alloc (wtC (0, 0, 0))).alloc (wtC (0, 0, 0))).heap[w.heap.size]? = some (wtC (0, 0, 0)) := (Below.heap_alloc _ _ _ (by simp)).trans (heap_alloc_new w _)
  have HT := Lib.hid (((Turned.refl [] w).alloc (wtC (0, 0, 0))).alloc (wtC (0, 0, 0)))
  obtain ⟨V, hV⟩ : ∃ V, (w.alloc (wtC (0, 0, 0))).alloc (wtC (0, 0, 0)) = V := ⟨_, rfl⟩
  have k2 : V.heap[w.heap.size + 1]? = some (wtC (0, 0, 0)) := by
    rw [← hV]
    have := heap_alloc_new (w.alloc (wtC (0, 0, 0))) (wtC (0, 0, 0))
    simp only [World.size_alloc] at this
    exact this
  rw [hV] at kk HT
  have MM := Lib.hid kk
  obtain ⟨q0, q1, q2, qf⟩ := cells3a kk
  have qf0 := qf 0
  have qf1 := qf 1
  have qf2 := qf 2
  obtain ⟨p0, p1, p2, _⟩ := cells3a k2
  clear kk k2 qf
  go_enter Try.func48, Try.ntmps48
  go_wp2_with fail
  refine H.out.mono ?_
  rintro e w1 ⟨rfl, rfl⟩
  go_wp2_with fail
  (try simp only [Exit.inBlock, Exit.then])
  (try simp only [hV])
  refine bodyPost_ret (wt_result rfl rfl rfl (wt_stored MM.out)) rfl ?_
  exact ⟨rfl, HT.out.set3w (.inr (Nat.le_refl _)) _ _ _⟩

set_option maxRecDepth 100000 in
set_option maxHeartbeats 800000 in
theorem fqget_yes (h0 : FQ w b X m l (A ++ x :: B)) (t : Int) (ht : t = x.2.1) :
    Calls Try.prog 36 #[.pointer (some ⟨b, 0, none⟩), .int .i64 t] w fun e w' => e = .returned (.tuple #[aggW x.2.2, .bool true]) ∧ Turned [] w w' := by
  subst ht
  obtain ⟨W, hW⟩ : ∃ W, w.alloc (wtC (0, 0, 0)) = W := ⟨_, rfl⟩
  have TW : Turned [] w W := hW ▸ (Turned.refl [] w).alloc _
  have KW : W.heap[w.heap.size]? = some (wtC (0, 0, 0)) := hW ▸ heap_alloc_new w _
  have HTW := Lib.hid TW
  have HKW := Lib.hid KW
  have hlt : w.heap.size < W.heap.size := lt_of_block KW
  obtain ⟨S, F, f, fst, lst, h1, h2, h3, h4⟩ := h0.keep0 TW
  have hb := h2.bnd x (by simp)
  have ht : (litN x.2.1).wf = true := WalkArith.wf_i64 (by omega)
  obtain ⟨s1, s2, s3⟩ := h2.split
  have hp := fqplace_any h1 x.2.1 ht
  rw [s2] at hp
  obtain ⟨ab, gm, Y, D, hbb, ha, _⟩ := h1
  have HG := Lib.hid (anget_yes ha (x.1 : Int) x.1 _ rfl s1)
  obtain ⟨c0, _, _, _, _, _⟩ := cells5 hbb
  obtain ⟨x1, x2, x3⟩ := x
  simp only at hp HG ⊢
  have H := Lib.hid hp
  clear hp h2 hb ht s1 s2 s3 hbb ha h0 TW KW
  go_enter Try.func36, Try.ntmps36
  go_wp2_with fail
  (try rw [hW])
  clear hW
  refine H.out.mono ?_
  rintro e w1 ⟨rfl, rfl⟩
  simp only [Option.getD_some, Option.isSome_some]
  go_wp2_with fail
  with_reducible refine HG.out.mono ?_
  rintro e w2 ⟨rfl, t2⟩
  have kk := (t2.alloc (ndC (x3, x2, lsP (-1) A, hdP B (-1)))).same HKW.out (by simp)
  have TT := Lib.hid (HTW.out.j (t2.alloc (ndC (x3, x2, lsP (-1) A, hdP B (-1)))))
  have k2 := heap_alloc_new w2 (ndC (x3, x2, lsP (-1) A, hdP B (-1)))
  obtain ⟨V, hV⟩ : ∃ V, w2.alloc (ndC (x3, x2, lsP (-1) A, hdP B (-1))) = V := ⟨_, rfl⟩
  have hw2 : w.heap.size < w2.heap.size := Nat.lt_of_lt_of_le hlt t2.size
  rw [hV] at kk TT k2
  have MM := Lib.hid kk
  obtain ⟨q0, q1, q2, qf⟩ := cells3a kk
  have qf0 := qf 0
  have qf1 := qf 1
  have qf2 := qf 2
  obtain ⟨p0, p1, p2, p3, p4, p5, _⟩ := cells6 k2
  clear t2 kk k2 qf
  go_wp2_with fail
  (try simp only [hV])
  clear hV
  go_wp2_with fail
  (try simp only [Exit.inBlock, Exit.then])
  refine bodyPost_ret (wt_result rfl rfl rfl (wt_stored MM.out)) rfl ?_
  exact ⟨rfl, TT.out.set3w (.inr (Nat.le_refl _)) _ _ _⟩
set_option maxHeartbeats 800000 in
theorem fqget_nil (t : Int) (w : World) :
    Calls Try.prog 36 #[.pointer none, .int .i64 t] w fun e w' => e = .returned (.tuple #[aggW (0, 0, 0), .bool false]) ∧ Turned [] w w' := by
  have H := Lib.hid (fqplace_nil t (w.alloc (wtC (0, 0, 0))))
  have kk : ((w.alloc (wtC (0, 0, 0))).alloc (wtC (0, 0, 0))).heap[w.heap.size]? = some (wtC (0, 0, 0)) := (Below.heap_alloc _ _ _ (by simp)).trans (heap_alloc_new w _)
  have HT := Lib.hid (((Turned.refl [] w).alloc (wtC (0, 0, 0))).alloc (wtC (0, 0, 0)))
  obtain ⟨V, hV⟩ : ∃ V, (w.alloc (wtC (0, 0, 0))).alloc (wtC (0, 0, 0)) = V := ⟨_, rfl⟩
  have k2 : V.heap[w.heap.size + 1]? = some (wtC (0, 0, 0)) := by
    rw [← hV]
    have := heap_alloc_new (w.alloc (wtC (0, 0, 0))) (wtC (0, 0, 0))
    simp only [World.size_alloc] at this
    exact this
  rw [hV] at kk HT
  have MM := Lib.hid kk
  obtain ⟨q0, q1, q2, qf⟩ := cells3a kk
  have qf0 := qf 0
  have qf1 := qf 1
  have qf2 := qf 2
  obtain ⟨p0, p1, p2, _⟩ := cells3a k2
  clear kk k2 qf
  go_enter Try.func36, Try.ntmps36
  go_wp2_with fail
  refine H.out.mono ?_
  rintro e w1 ⟨rfl, rfl⟩
  go_wp2_with fail
  (try simp only [Exit.inBlock, Exit.then])
  (try simp only [hV])
  refine bodyPost_ret (wt_result rfl rfl rfl (wt_stored MM.out)) rfl ?_
  exact ⟨rfl, HT.out.set3w (.inr (Nat.le_refl _)) _ _ _⟩
end
end Go.Proofs.Ytiffgkmmibhklaa.Wq
