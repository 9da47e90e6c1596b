/-
  The program's opWords. (Made by gen_opw.py.)
-/
import Derived.Test.YtmcfjlkjijaflaaDoorPgOps
import Derived.Test.YtmcfjlkjijaflaaDoorRgWds
namespace Go.Proofs.YtmcfjlkjijaflaaDoor
open Go.RowKit

/-- The words of an op so far; the boxes of the op and of its shape. -/
structure OWI (w wr : World) (S : Nat) (sh : Array Value) (k a b : Int) (v : Value) (ws : List Wd) : Prop where
  row : WRow w.heap.size wr v ws
  bel : Below w.heap.size w wr
  opb : wr.heap[w.heap.size]? = some (.cells #[.int .i64 k, .int .i64 a, .int .i64 b] 39 (0, 0))
  shp : wr.heap[S]? = some (.cells sh 83 (0, 0))
theorem OWI.more {w wr wr' : World} {S : Nat} {sh : Array Value} {k a b : Int} {v : Value} {ws : List Wd} (h : OWI w wr S sh k a b v ws) (hb : Below wr.heap.size wr wr') : OWI w wr' S sh k a b v ws :=
  ⟨row_below h.row hb, h.bel.trans (hb.mono h.bel.size), (hb.block _ (lt_of_block h.opb)).trans h.opb, (hb.block _ (lt_of_block h.shp)).trans h.shp⟩
theorem OWI.push {w wx w4 : World} {S : Nat} {sh : Array Value} {k a b : Int} {v v' : Value} {ws : List Wd} {x : Wd} (h : OWI w wx S sh k a b v ws)
    (hown : w4.ownsRow w.heap.size 74 4 v' (ws.length + 1) (wdsC ws ++ wdC x)) (hg : wx.grownBy w4 v.ownBlock) : OWI w w4 S sh k a b v' (ws ++ [x]) := by
  have hb : Below w.heap.size wx w4 := app_below (Below.refl _ _) h.bel.size (Nat.le_refl _) h.row hg
  refine ⟨?_, h.bel.trans hb, (hg.block _ (lt_of_block h.opb) (block_off h.opb h.row (by decide))).trans h.opb, (hg.block _ (lt_of_block h.shp) (block_off h.shp h.row (by decide))).trans h.shp⟩
  unfold WRow
  rw [wdsC_snoc, List.length_append, List.length_singleton]
  exact hown
theorem OWI.start {w w2 w3 : World} {S : Nat} {sh : Array Value} {k a b : Int} (hb : Below w.heap.size w w2) (ho : w2.heap[w.heap.size]? = some (.cells #[.int .i64 k, .int .i64 a, .int .i64 b] 39 (0, 0))) (hs : w2.heap[S]? = some (.cells sh 83 (0, 0)))
    (h3 : Below w2.heap.size w2 w3) {p q r t : Value} {x : Wd} (hx : wdC x = [p, q, r, t]) :
    OWI w (w3.alloc (.cells #[p, q, r, t] 74)) S sh k a b (.slice (some ⟨w3.heap.size, 0, none⟩) 1 1) [x] := by
  have h4 : Below w2.heap.size w2 (w3.alloc (.cells #[p, q, r, t] 74)) := h3.alloc h3.size _
  refine ⟨first_row w3 _ (Nat.le_trans hb.size h3.size) _ _ _ _ _ hx, hb.trans (h4.mono hb.size), (h4.block _ (lt_of_block ho)).trans ho, (h4.block _ (lt_of_block hs)).trans hs⟩
theorem shN_is3 (k : Int) : shN k = 0 ∨ shN k = 1 ∨ shN k = 2 := by
  unfold shN
  split
  · split
    · exact .inr (.inr rfl)
    · exact .inr (.inl rfl)
  · exact .inl rfl
theorem opw_shape (k a b : Int) : opW (k, a, b) = (1, nameR k, 0, 0) :: ((if 1 ≤ shN k then [(2, [], a, 0)] else []) ++ ((if 2 ≤ shN k then [(2, [], b, 0)] else []) ++ [(3, [59], 0, 0)])) := by
  unfold opW
  simp only
  by_cases hl : 0 ≤ (limR k).1
  · have q1 : 1 ≤ shN k := by
      unfold shN
      rw [if_pos hl]
      split <;> decide
    rw [if_pos hl, if_pos q1]
    by_cases h5 : k = 5
    · have q2 : 2 ≤ shN k := by
        unfold shN
        rw [if_pos hl, if_pos h5]
        decide
      rw [if_pos h5, if_pos q2]
    · have q2 : ¬ 2 ≤ shN k := by
        unfold shN
        rw [if_pos hl, if_neg h5]
        decide
      rw [if_neg h5, if_neg q2]
  · have q1 : shN k = 0 := by
      unfold shN
      rw [if_neg hl]
    have h5 : ¬ k = 5 := by
      rintro rfl
      exact hl (by decide)
    rw [if_neg hl, if_neg h5, q1]
    rfl
set_option maxRecDepth 100000 in
set_option maxHeartbeats 6400000 in
theorem opw_n0 (k a b : Int) (hn : shN k = 0) (w : World) :
    Calls Tryd.prog 40 #[.agg #[.int .i64 k, .int .i64 a, .int .i64 b]] w (WordsP (opW (k, a, b)) w) := by
  obtain ⟨i0, hi0, hz0, hz1, hz2⟩ := info_parts word_info
  have hw : opW (k, a, b) = [(1, nameR k, 0, 0)] ++ [(3, [59], 0, 0)] := by
    rw [opw_shape, hn]
    rfl
  rw [hw]
  have hsh := fun W => shape_any k W
  obtain ⟨s, n, lo, hi, lo2, hi2, es, hs, hsn, -⟩ := shape_let k
  rw [hn] at hsn
  subst hsn
  simp only [es] at hsh
  have HSH := Lib.hid hsh
  have HNM := Lib.hid (fun W => pname_any s W)
  have HMK := Lib.hid (fun W => pmark_any ⟨#[59]⟩ W)
  have HPN := Lib.hid (fun n W => pnum_any n W)
  have hx : wdC (1, nameR k, 0, 0) = [.int .i64 1, .string s, .int .i64 0, .int .i64 0] := by
    unfold wdC
    rw [← hs, Lib.mk_data]
  have HX := Lib.hid hx
  obtain ⟨x, hxx⟩ : ∃ x : Wd, (1, nameR k, 0, 0) = x := ⟨_, rfl⟩
  rw [hxx] at HX ⊢
  clear hsh es hs hn hx hxx hw
  go_enter Tryd.func40, Tryd.ntmps40
  go_wp2_with fail
  with_reducible refine (HSH.out _).mono ?_
  rintro r w1 ⟨rfl, hb1⟩
  obtain ⟨ho0, hb1w⟩ := box_kept hb1
  obtain ⟨c0, c1, c2⟩ := op_cells ho0
  have hlt := lt_of_block ho0
  have HB2 := Lib.hid (hb1w.alloc hb1w.size (.cells #[.string s, .int .i64 0, .int .i64 lo, .int .i64 hi, .int .i64 lo2, .int .i64 hi2] 83))
  have HO2 := Lib.hid ((Below.heap_alloc w1 (.cells #[.string s, .int .i64 0, .int .i64 lo, .int .i64 hi, .int .i64 lo2, .int .i64 hi2] 83) _ hlt).trans ho0)
  have HS2 := Lib.hid (heap_alloc_new w1 (.cells #[.string s, .int .i64 0, .int .i64 lo, .int .i64 hi, .int .i64 lo2, .int .i64 hi2] 83))
  clear hb1 hb1w ho0
  go_wp2_with fail
  with_reducible refine (HNM.out _).mono ?_
  rintro r w3 ⟨rfl, hb3⟩
  have HW0 := Lib.hid (OWI.start HB2.out HO2.out HS2.out hb3 HX.out)
  have hs3 := (hb3.block _ (lt_of_block HS2.out)).trans HS2.out
  have ho3 := (hb3.block _ (lt_of_block HO2.out)).trans HO2.out
  clear c0 c1 c2
  obtain ⟨c0, c1, c2⟩ := op_cells ho3
  obtain ⟨d0, d1, d2, d3, d4, d5⟩ := six_cells hs3
  have hl3 := lt_of_block hs3
  have hlo3 := lt_of_block ho3
  clear hb3 hs3 ho3
  go_wp2_with fail
  with_reducible refine (HMK.out _).mono ?_
  rintro r w8 ⟨rfl, hb8⟩
  have HW8 := Lib.hid (HW0.out.more hb8)
  clear hb8 c0 c1 c2 d0 d1 d2 d3 d4 d5
  go_wp2_with (at_builtin; refine wpList_append_own _ rfl _ _ 31 rfl w.heap.size 74 i0 (.agg #[.int .i64 0, .string ⟨#[]⟩, .int .i64 0, .int .i64 0]) 4 40 Tryd.underlying31 hi0 hz0 hz1 hz2 rfl (by decide) _ _ _ rfl (row_below HW8.out.row ((Below.refl _ _).alloc (Nat.le_refl _) _)) ⟨_, 0, none⟩ 1 1 [.int .i64 3, .string ⟨#[59]⟩, .int .i64 0, .int .i64 0] rfl rfl ?c1 ?c2 ?c3 ?c4 ?c5 ?_)
  case c1 => first | exact word_new _ _ _ _ _ _ | exact word_at (by simp) _ _ _ _ _
  case c2 => exact word_ones _ _ _ _
  case c3 => ((try simp only [List.length_append]); (try simp only [List.length_cons]); (try simp only [List.length_nil]); unfold maxLen; omega)
  case c4 => ((try simp only [List.length_append]); (try simp only [List.length_cons]); (try simp only [List.length_nil]); omega)
  case c5 => exact Nat.le_trans HW8.out.bel.size (by simp)
  intro v9 w9 hown hgrow _
  have HW9 := Lib.hid ((HW8.out.more ((Below.refl _ _).alloc (Nat.le_refl _) _)).push (x := (3, [59], 0, 0)) hown hgrow)
  clear hown hgrow
  go_wp2
  go_ret
  exact ⟨_, rfl, HW9.out.row, HW9.out.bel⟩
set_option maxRecDepth 100000 in
set_option maxHeartbeats 6400000 in
theorem opw_n1 (k a b : Int) (hn : shN k = 1) (w : World) :
    Calls Tryd.prog 40 #[.agg #[.int .i64 k, .int .i64 a, .int .i64 b]] w (WordsP (opW (k, a, b)) w) := by
  obtain ⟨i0, hi0, hz0, hz1, hz2⟩ := info_parts word_info
  have hw : opW (k, a, b) = [(1, nameR k, 0, 0)] ++ [(2, [], a, 0)] ++ [(3, [59], 0, 0)] := by
    rw [opw_shape, hn]
    rfl
  rw [hw]
  have hsh := fun W => shape_any k W
  obtain ⟨s, n, lo, hi, lo2, hi2, es, hs, hsn, -⟩ := shape_let k
  rw [hn] at hsn
  subst hsn
  simp only [es] at hsh
  have HSH := Lib.hid hsh
  have HNM := Lib.hid (fun W => pname_any s W)
  have HMK := Lib.hid (fun W => pmark_any ⟨#[59]⟩ W)
  have HPN := Lib.hid (fun n W => pnum_any n W)
  have hx : wdC (1, nameR k, 0, 0) = [.int .i64 1, .string s, .int .i64 0, .int .i64 0] := by
    unfold wdC
    rw [← hs, Lib.mk_data]
  have HX := Lib.hid hx
  obtain ⟨x, hxx⟩ : ∃ x : Wd, (1, nameR k, 0, 0) = x := ⟨_, rfl⟩
  rw [hxx] at HX ⊢
  clear hsh es hs hn hx hxx hw
  go_enter Tryd.func40, Tryd.ntmps40
  go_wp2_with fail
  with_reducible refine (HSH.out _).mono ?_
  rintro r w1 ⟨rfl, hb1⟩
  obtain ⟨ho0, hb1w⟩ := box_kept hb1
  obtain ⟨c0, c1, c2⟩ := op_cells ho0
  have hlt := lt_of_block ho0
  have HB2 := Lib.hid (hb1w.alloc hb1w.size (.cells #[.string s, .int .i64 1, .int .i64 lo, .int .i64 hi, .int .i64 lo2, .int .i64 hi2] 83))
  have HO2 := Lib.hid ((Below.heap_alloc w1 (.cells #[.string s, .int .i64 1, .int .i64 lo, .int .i64 hi, .int .i64 lo2, .int .i64 hi2] 83) _ hlt).trans ho0)
  have HS2 := Lib.hid (heap_alloc_new w1 (.cells #[.string s, .int .i64 1, .int .i64 lo, .int .i64 hi, .int .i64 lo2, .int .i64 hi2] 83))
  clear hb1 hb1w ho0
  go_wp2_with fail
  with_reducible refine (HNM.out _).mono ?_
  rintro r w3 ⟨rfl, hb3⟩
  have HW0 := Lib.hid (OWI.start HB2.out HO2.out HS2.out hb3 HX.out)
  have hs3 := (hb3.block _ (lt_of_block HS2.out)).trans HS2.out
  have ho3 := (hb3.block _ (lt_of_block HO2.out)).trans HO2.out
  clear c0 c1 c2
  obtain ⟨c0, c1, c2⟩ := op_cells ho3
  obtain ⟨d0, d1, d2, d3, d4, d5⟩ := six_cells hs3
  have hl3 := lt_of_block hs3
  have hlo3 := lt_of_block ho3
  clear hb3 hs3 ho3
  go_wp2_with fail
  with_reducible refine (HPN.out _ _).mono ?_
  rintro r w4a ⟨rfl, hb⟩
  have HW4a := Lib.hid (HW0.out.more hb)
  clear hb c0 c1 c2 d0 d1 d2 d3 d4 d5
  go_wp2_with (at_builtin; refine wpList_append_own _ rfl _ _ 31 rfl w.heap.size 74 i0 (.agg #[.int .i64 0, .string ⟨#[]⟩, .int .i64 0, .int .i64 0]) 4 40 Tryd.underlying31 hi0 hz0 hz1 hz2 rfl (by decide) _ _ _ rfl (row_below HW4a.out.row ((Below.refl _ _).alloc (Nat.le_refl _) _)) ⟨_, 0, none⟩ 1 1 [.int .i64 2, .string ⟨#[]⟩, .int .i64 a, .int .i64 0] rfl rfl ?c1 ?c2 ?c3 ?c4 ?c5 ?_)
  case c1 => first | exact word_new _ _ _ _ _ _ | exact word_at (by simp) _ _ _ _ _
  case c2 => exact word_ones _ _ _ _
  case c3 => ((try simp only [List.length_append]); (try simp only [List.length_cons]); (try simp only [List.length_nil]); unfold maxLen; omega)
  case c4 => ((try simp only [List.length_append]); (try simp only [List.length_cons]); (try simp only [List.length_nil]); omega)
  case c5 => exact Nat.le_trans HW4a.out.bel.size (by simp)
  intro v4 w4 hown hgrow _
  have HW4 := Lib.hid ((HW4a.out.more ((Below.refl _ _).alloc (Nat.le_refl _) _)).push (x := (2, [], a, 0)) hown hgrow)
  obtain ⟨ao4, cap4, hv4, _⟩ := ownsRow_shape HW4.out.row
  subst hv4
  clear hown hgrow
  obtain ⟨c0, c1, c2⟩ := op_cells HW4.out.opb
  obtain ⟨d0, d1, d2, d3, d4, d5⟩ := six_cells HW4.out.shp
  go_wp2_with fail
  with_reducible refine (HMK.out _).mono ?_
  rintro r w8 ⟨rfl, hb8⟩
  have HW8 := Lib.hid (HW4.out.more hb8)
  clear hb8 c0 c1 c2 d0 d1 d2 d3 d4 d5
  go_wp2_with (at_builtin; refine wpList_append_own _ rfl _ _ 31 rfl w.heap.size 74 i0 (.agg #[.int .i64 0, .string ⟨#[]⟩, .int .i64 0, .int .i64 0]) 4 40 Tryd.underlying31 hi0 hz0 hz1 hz2 rfl (by decide) _ _ _ rfl (row_below HW8.out.row ((Below.refl _ _).alloc (Nat.le_refl _) _)) ⟨_, 0, none⟩ 1 1 [.int .i64 3, .string ⟨#[59]⟩, .int .i64 0, .int .i64 0] rfl rfl ?c1 ?c2 ?c3 ?c4 ?c5 ?_)
  case c1 => first | exact word_new _ _ _ _ _ _ | exact word_at (by simp) _ _ _ _ _
  case c2 => exact word_ones _ _ _ _
  case c3 => ((try simp only [List.length_append]); (try simp only [List.length_cons]); (try simp only [List.length_nil]); unfold maxLen; omega)
  case c4 => ((try simp only [List.length_append]); (try simp only [List.length_cons]); (try simp only [List.length_nil]); omega)
  case c5 => exact Nat.le_trans HW8.out.bel.size (by simp)
  intro v9 w9 hown hgrow _
  have HW9 := Lib.hid ((HW8.out.more ((Below.refl _ _).alloc (Nat.le_refl _) _)).push (x := (3, [59], 0, 0)) hown hgrow)
  clear hown hgrow
  go_wp2
  go_ret
  exact ⟨_, rfl, HW9.out.row, HW9.out.bel⟩
set_option maxRecDepth 100000 in
set_option maxHeartbeats 6400000 in
theorem opw_n2 (k a b : Int) (hn : shN k = 2) (w : World) :
    Calls Tryd.prog 40 #[.agg #[.int .i64 k, .int .i64 a, .int .i64 b]] w (WordsP (opW (k, a, b)) w) := by
  obtain ⟨i0, hi0, hz0, hz1, hz2⟩ := info_parts word_info
  have hw : opW (k, a, b) = [(1, nameR k, 0, 0)] ++ [(2, [], a, 0)] ++ [(2, [], b, 0)] ++ [(3, [59], 0, 0)] := by
    rw [opw_shape, hn]
    rfl
  rw [hw]
  have hsh := fun W => shape_any k W
  obtain ⟨s, n, lo, hi, lo2, hi2, es, hs, hsn, -⟩ := shape_let k
  rw [hn] at hsn
  subst hsn
  simp only [es] at hsh
  have HSH := Lib.hid hsh
  have HNM := Lib.hid (fun W => pname_any s W)
  have HMK := Lib.hid (fun W => pmark_any ⟨#[59]⟩ W)
  have HPN := Lib.hid (fun n W => pnum_any n W)
  have hx : wdC (1, nameR k, 0, 0) = [.int .i64 1, .string s, .int .i64 0, .int .i64 0] := by
    unfold wdC
    rw [← hs, Lib.mk_data]
  have HX := Lib.hid hx
  obtain ⟨x, hxx⟩ : ∃ x : Wd, (1, nameR k, 0, 0) = x := ⟨_, rfl⟩
  rw [hxx] at HX ⊢
  clear hsh es hs hn hx hxx hw
  go_enter Tryd.func40, Tryd.ntmps40
  go_wp2_with fail
  with_reducible refine (HSH.out _).mono ?_
  rintro r w1 ⟨rfl, hb1⟩
  obtain ⟨ho0, hb1w⟩ := box_kept hb1
  obtain ⟨c0, c1, c2⟩ := op_cells ho0
  have hlt := lt_of_block ho0
  have HB2 := Lib.hid (hb1w.alloc hb1w.size (.cells #[.string s, .int .i64 2, .int .i64 lo, .int .i64 hi, .int .i64 lo2, .int .i64 hi2] 83))
  have HO2 := Lib.hid ((Below.heap_alloc w1 (.cells #[.string s, .int .i64 2, .int .i64 lo, .int .i64 hi, .int .i64 lo2, .int .i64 hi2] 83) _ hlt).trans ho0)
  have HS2 := Lib.hid (heap_alloc_new w1 (.cells #[.string s, .int .i64 2, .int .i64 lo, .int .i64 hi, .int .i64 lo2, .int .i64 hi2] 83))
  clear hb1 hb1w ho0
  go_wp2_with fail
  with_reducible refine (HNM.out _).mono ?_
  rintro r w3 ⟨rfl, hb3⟩
  have HW0 := Lib.hid (OWI.start HB2.out HO2.out HS2.out hb3 HX.out)
  have hs3 := (hb3.block _ (lt_of_block HS2.out)).trans HS2.out
  have ho3 := (hb3.block _ (lt_of_block HO2.out)).trans HO2.out
  clear c0 c1 c2
  obtain ⟨c0, c1, c2⟩ := op_cells ho3
  obtain ⟨d0, d1, d2, d3, d4, d5⟩ := six_cells hs3
  have hl3 := lt_of_block hs3
  have hlo3 := lt_of_block ho3
  clear hb3 hs3 ho3
  go_wp2_with fail
  with_reducible refine (HPN.out _ _).mono ?_
  rintro r w4a ⟨rfl, hb⟩
  have HW4a := Lib.hid (HW0.out.more hb)
  clear hb c0 c1 c2 d0 d1 d2 d3 d4 d5
  go_wp2_with (at_builtin; refine wpList_append_own _ rfl _ _ 31 rfl w.heap.size 74 i0 (.agg #[.int .i64 0, .string ⟨#[]⟩, .int .i64 0, .int .i64 0]) 4 40 Tryd.underlying31 hi0 hz0 hz1 hz2 rfl (by decide) _ _ _ rfl (row_below HW4a.out.row ((Below.refl _ _).alloc (Nat.le_refl _) _)) ⟨_, 0, none⟩ 1 1 [.int .i64 2, .string ⟨#[]⟩, .int .i64 a, .int .i64 0] rfl rfl ?c1 ?c2 ?c3 ?c4 ?c5 ?_)
  case c1 => first | exact word_new _ _ _ _ _ _ | exact word_at (by simp) _ _ _ _ _
  case c2 => exact word_ones _ _ _ _
  case c3 => ((try simp only [List.length_append]); (try simp only [List.length_cons]); (try simp only [List.length_nil]); unfold maxLen; omega)
  case c4 => ((try simp only [List.length_append]); (try simp only [List.length_cons]); (try simp only [List.length_nil]); omega)
  case c5 => exact Nat.le_trans HW4a.out.bel.size (by simp)
  intro v4 w4 hown hgrow _
  have HW4 := Lib.hid ((HW4a.out.more ((Below.refl _ _).alloc (Nat.le_refl _) _)).push (x := (2, [], a, 0)) hown hgrow)
  obtain ⟨ao4, cap4, hv4, _⟩ := ownsRow_shape HW4.out.row
  subst hv4
  clear hown hgrow
  obtain ⟨c0, c1, c2⟩ := op_cells HW4.out.opb
  obtain ⟨d0, d1, d2, d3, d4, d5⟩ := six_cells HW4.out.shp
  go_wp2_with fail
  with_reducible refine (HPN.out _ _).mono ?_
  rintro r w6a ⟨rfl, hb⟩
  have HW6a := Lib.hid (HW4.out.more hb)
  clear hb c0 c1 c2 d0 d1 d2 d3 d4 d5
  go_wp2_with (at_builtin; refine wpList_append_own _ rfl _ _ 31 rfl w.heap.size 74 i0 (.agg #[.int .i64 0, .string ⟨#[]⟩, .int .i64 0, .int .i64 0]) 4 40 Tryd.underlying31 hi0 hz0 hz1 hz2 rfl (by decide) _ _ _ rfl (row_below HW6a.out.row ((Below.refl _ _).alloc (Nat.le_refl _) _)) ⟨_, 0, none⟩ 1 1 [.int .i64 2, .string ⟨#[]⟩, .int .i64 b, .int .i64 0] rfl rfl ?c1 ?c2 ?c3 ?c4 ?c5 ?_)
  case c1 => first | exact word_new _ _ _ _ _ _ | exact word_at (by simp) _ _ _ _ _
  case c2 => exact word_ones _ _ _ _
  case c3 => ((try simp only [List.length_append]); (try simp only [List.length_cons]); (try simp only [List.length_nil]); unfold maxLen; omega)
  case c4 => ((try simp only [List.length_append]); (try simp only [List.length_cons]); (try simp only [List.length_nil]); omega)
  case c5 => exact Nat.le_trans HW6a.out.bel.size (by simp)
  intro v6 w6 hown hgrow _
  have HW6 := Lib.hid ((HW6a.out.more ((Below.refl _ _).alloc (Nat.le_refl _) _)).push (x := (2, [], b, 0)) hown hgrow)
  obtain ⟨ao6, cap6, hv6, _⟩ := ownsRow_shape HW6.out.row
  subst hv6
  clear hown hgrow
  obtain ⟨c0, c1, c2⟩ := op_cells HW6.out.opb
  obtain ⟨d0, d1, d2, d3, d4, d5⟩ := six_cells HW6.out.shp
  go_wp2_with fail
  with_reducible refine (HMK.out _).mono ?_
  rintro r w8 ⟨rfl, hb8⟩
  have HW8 := Lib.hid (HW6.out.more hb8)
  clear hb8 c0 c1 c2 d0 d1 d2 d3 d4 d5
  go_wp2_with (at_builtin; refine wpList_append_own _ rfl _ _ 31 rfl w.heap.size 74 i0 (.agg #[.int .i64 0, .string ⟨#[]⟩, .int .i64 0, .int .i64 0]) 4 40 Tryd.underlying31 hi0 hz0 hz1 hz2 rfl (by decide) _ _ _ rfl (row_below HW8.out.row ((Below.refl _ _).alloc (Nat.le_refl _) _)) ⟨_, 0, none⟩ 1 1 [.int .i64 3, .string ⟨#[59]⟩, .int .i64 0, .int .i64 0] rfl rfl ?c1 ?c2 ?c3 ?c4 ?c5 ?_)
  case c1 => first | exact word_new _ _ _ _ _ _ | exact word_at (by simp) _ _ _ _ _
  case c2 => exact word_ones _ _ _ _
  case c3 => ((try simp only [List.length_append]); (try simp only [List.length_cons]); (try simp only [List.length_nil]); unfold maxLen; omega)
  case c4 => ((try simp only [List.length_append]); (try simp only [List.length_cons]); (try simp only [List.length_nil]); omega)
  case c5 => exact Nat.le_trans HW8.out.bel.size (by simp)
  intro v9 w9 hown hgrow _
  have HW9 := Lib.hid ((HW8.out.more ((Below.refl _ _).alloc (Nat.le_refl _) _)).push (x := (3, [59], 0, 0)) hown hgrow)
  clear hown hgrow
  go_wp2
  go_ret
  exact ⟨_, rfl, HW9.out.row, HW9.out.bel⟩
/-- The words of any op. -/
theorem opw_any (k a b : Int) (w : World) : Calls Tryd.prog 40 #[.agg #[.int .i64 k, .int .i64 a, .int .i64 b]] w (WordsP (opW (k, a, b)) w) := by
  rcases shN_is3 k with h | h | h
  · exact opw_n0 k a b h w
  · exact opw_n1 k a b h w
  · exact opw_n2 k a b h w
end Go.Proofs.YtmcfjlkjijaflaaDoor
