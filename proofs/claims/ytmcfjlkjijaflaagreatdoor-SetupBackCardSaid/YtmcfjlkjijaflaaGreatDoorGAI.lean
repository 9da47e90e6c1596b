/-
  The program's opWords. (Made by gen_opw.py.)
  What the program's Words leans on: the list in its box, and how it grows.
  The program's reader: its block; next.
-/
import Derived.Test.YtmcfjlkjijaflaaGreatDoorGAH
import Derived.Test.YtmcfjlkjijaflaaGreatDoorGAF
import Derived.Test.YtmcfjlkjijaflaaGreatDoorGAA
import Derived.Test.YtmcfjlkjijaflaaGreatDoorGAE
import Derived.BigQuiet
import Derived.Deep.RegionHeld3
import Derived.Deep.QuietTactic

/- The program's opWords. (Made by gen_opw.py.) -/
namespace Go.Proofs.YtmcfjlkjijaflaaGreatDoor
open Go.RowKit

/-- The words of an op so far; the boxes of the op and of its shape. -/
structure OWI (w wr : World) (S : Nat) (sh : Array Value) (k a b : Int) (v : Value) (ws : List Wd) : Prop where
  row : WRow w.heap.size wr v ws
  bel : Below w.heap.size w wr
  opb : wr.heap[w.heap.size]? = some (.cells #[.int .i64 k, .int .i64 a, .int .i64 b] 109 (0, 0))
  shp : wr.heap[S]? = some (.cells sh 144 (0, 0))
theorem OWI.more {w wr wr' : World} {S : Nat} {sh : Array Value} {k a b : Int} {v : Value} {ws : List Wd} (h : OWI w wr S sh k a b v ws) (hb : Below wr.heap.size wr wr') : OWI w wr' S sh k a b v ws :=
  ⟨row_below h.row hb, h.bel.trans (hb.mono h.bel.size), (hb.block _ (lt_of_block h.opb)).trans h.opb, (hb.block _ (lt_of_block h.shp)).trans h.shp⟩
theorem OWI.push {w wx w4 : World} {S : Nat} {sh : Array Value} {k a b : Int} {v v' : Value} {ws : List Wd} {x : Wd} (h : OWI w wx S sh k a b v ws)
    (hown : w4.ownsRow w.heap.size 72 4 v' (ws.length + 1) (wdsC ws ++ wdC x)) (hg : wx.grownBy w4 v.ownBlock) : OWI w w4 S sh k a b v' (ws ++ [x]) := by
  have hb : Below w.heap.size wx w4 := app_below (Below.refl _ _) h.bel.size (Nat.le_refl _) h.row hg
  refine ⟨?_, h.bel.trans hb, (hg.block _ (lt_of_block h.opb) (block_off h.opb h.row (by decide))).trans h.opb, (hg.block _ (lt_of_block h.shp) (block_off h.shp h.row (by decide))).trans h.shp⟩
  unfold WRow
  rw [wdsC_snoc, List.length_append, List.length_singleton]
  exact hown
theorem OWI.start {w w2 w3 : World} {S : Nat} {sh : Array Value} {k a b : Int} (hb : Below w.heap.size w w2) (ho : w2.heap[w.heap.size]? = some (.cells #[.int .i64 k, .int .i64 a, .int .i64 b] 109 (0, 0))) (hs : w2.heap[S]? = some (.cells sh 144 (0, 0)))
    (h3 : Below w2.heap.size w2 w3) {p q r t : Value} {x : Wd} (hx : wdC x = [p, q, r, t]) :
    OWI w (w3.alloc (.cells #[p, q, r, t] 72)) S sh k a b (.slice (some ⟨w3.heap.size, 0, none⟩) 1 1) [x] := by
  have h4 : Below w2.heap.size w2 (w3.alloc (.cells #[p, q, r, t] 72)) := h3.alloc h3.size _
  refine ⟨first_row w3 _ (Nat.le_trans hb.size h3.size) _ _ _ _ _ hx, hb.trans (h4.mono hb.size), (h4.block _ (lt_of_block ho)).trans ho, (h4.block _ (lt_of_block hs)).trans hs⟩
theorem shN_is3 (k : Int) : shN k = 0 ∨ shN k = 1 ∨ shN k = 2 := by
  unfold shN
  split
  · split
    · exact .inr (.inr rfl)
    · exact .inr (.inl rfl)
  · exact .inl rfl
theorem opw_shape (k a b : Int) : opW (k, a, b) = (1, nameR k, 0, 0) :: ((if 1 ≤ shN k then [(2, [], a, 0)] else []) ++ ((if 2 ≤ shN k then [(2, [], b, 0)] else []) ++ [(3, [59], 0, 0)])) := by
  unfold opW
  simp only
  by_cases hl : 0 ≤ (limR k).1
  · have q1 : 1 ≤ shN k := by
      unfold shN
      rw [if_pos hl]
      split <;> decide
    rw [if_pos hl, if_pos q1]
    by_cases h5 : k = 5
    · have q2 : 2 ≤ shN k := by
        unfold shN
        rw [if_pos hl, if_pos h5]
        decide
      rw [if_pos h5, if_pos q2]
    · have q2 : ¬ 2 ≤ shN k := by
        unfold shN
        rw [if_pos hl, if_neg h5]
        decide
      rw [if_neg h5, if_neg q2]
  · have q1 : shN k = 0 := by
      unfold shN
      rw [if_neg hl]
    have h5 : ¬ k = 5 := by
      rintro rfl
      exact hl (by decide)
    rw [if_neg hl, if_neg h5, q1]
    rfl
set_option maxRecDepth 100000 in
set_option maxHeartbeats 6400000 in
theorem opw_n0 (k a b : Int) (hn : shN k = 0) (w : World) :
    Calls Tryz.prog 59 #[.agg #[.int .i64 k, .int .i64 a, .int .i64 b]] w (WordsP (opW (k, a, b)) w) := by
  obtain ⟨i0, hi0, hz0, hz1, hz2⟩ := info_parts word_info
  have hw : opW (k, a, b) = [(1, nameR k, 0, 0)] ++ [(3, [59], 0, 0)] := by
    rw [opw_shape, hn]
    rfl
  rw [hw]
  have hsh := fun W => shape_any k W
  obtain ⟨s, n, lo, hi, lo2, hi2, es, hs, hsn, -⟩ := shape_let k
  rw [hn] at hsn
  subst hsn
  simp only [es] at hsh
  have HSH := Lib.hid hsh
  have HNM := Lib.hid (fun W => pname_any s W)
  have HMK := Lib.hid (fun W => pmark_any ⟨#[59]⟩ W)
  have HPN := Lib.hid (fun n W => pnum_any n W)
  have hx : wdC (1, nameR k, 0, 0) = [.int .i64 1, .string s, .int .i64 0, .int .i64 0] := by
    unfold wdC
    rw [← hs, Lib.mk_data]
  have HX := Lib.hid hx
  obtain ⟨x, hxx⟩ : ∃ x : Wd, (1, nameR k, 0, 0) = x := ⟨_, rfl⟩
  rw [hxx] at HX ⊢
  clear hsh es hs hn hx hxx hw
  go_enter Tryz.func59, Tryz.ntmps59
  go_wp2_with fail
  with_reducible refine (HSH.out _).mono ?_
  rintro r w1 ⟨rfl, hb1⟩
  obtain ⟨ho0, hb1w⟩ := box_kept hb1
  obtain ⟨c0, c1, c2⟩ := op_cells ho0
  have hlt := lt_of_block ho0
  have HB2 := Lib.hid (hb1w.alloc hb1w.size (.cells #[.string s, .int .i64 0, .int .i64 lo, .int .i64 hi, .int .i64 lo2, .int .i64 hi2] 144))
  have HO2 := Lib.hid ((Below.heap_alloc w1 (.cells #[.string s, .int .i64 0, .int .i64 lo, .int .i64 hi, .int .i64 lo2, .int .i64 hi2] 144) _ hlt).trans ho0)
  have HS2 := Lib.hid (heap_alloc_new w1 (.cells #[.string s, .int .i64 0, .int .i64 lo, .int .i64 hi, .int .i64 lo2, .int .i64 hi2] 144))
  clear hb1 hb1w ho0
  go_wp2_with fail
  with_reducible refine (HNM.out _).mono ?_
  rintro r w3 ⟨rfl, hb3⟩
  have HW0 := Lib.hid (OWI.start HB2.out HO2.out HS2.out hb3 HX.out)
  have hs3 := (hb3.block _ (lt_of_block HS2.out)).trans HS2.out
  have ho3 := (hb3.block _ (lt_of_block HO2.out)).trans HO2.out
  clear c0 c1 c2
  obtain ⟨c0, c1, c2⟩ := op_cells ho3
  obtain ⟨d0, d1, d2, d3, d4, d5⟩ := six_cells hs3
  have hl3 := lt_of_block hs3
  have hlo3 := lt_of_block ho3
  clear hb3 hs3 ho3
  go_wp2_with fail
  with_reducible refine (HMK.out _).mono ?_
  rintro r w8 ⟨rfl, hb8⟩
  have HW8 := Lib.hid (HW0.out.more hb8)
  clear hb8 c0 c1 c2 d0 d1 d2 d3 d4 d5
  go_wp2_with (at_builtin; refine wpList_append_own _ rfl _ _ 34 rfl w.heap.size 72 i0 (.agg #[.int .i64 0, .string ⟨#[]⟩, .int .i64 0, .int .i64 0]) 4 40 Tryz.underlying34 hi0 hz0 hz1 hz2 rfl (by decide) _ _ _ rfl (row_below HW8.out.row ((Below.refl _ _).alloc (Nat.le_refl _) _)) ⟨_, 0, none⟩ 1 1 [.int .i64 3, .string ⟨#[59]⟩, .int .i64 0, .int .i64 0] rfl rfl ?c1 ?c2 ?c3 ?c4 ?c5 ?_)
  case c1 => first | exact word_new _ _ _ _ _ _ | exact word_at (by simp) _ _ _ _ _
  case c2 => exact word_ones _ _ _ _
  case c3 => ((try simp only [List.length_append]); (try simp only [List.length_cons]); (try simp only [List.length_nil]); unfold maxLen; omega)
  case c4 => ((try simp only [List.length_append]); (try simp only [List.length_cons]); (try simp only [List.length_nil]); omega)
  case c5 => exact Nat.le_trans HW8.out.bel.size (by simp)
  intro v9 w9 hown hgrow _
  have HW9 := Lib.hid ((HW8.out.more ((Below.refl _ _).alloc (Nat.le_refl _) _)).push (x := (3, [59], 0, 0)) hown hgrow)
  clear hown hgrow
  go_wp2
  go_ret
  exact ⟨_, rfl, HW9.out.row, HW9.out.bel⟩
set_option maxRecDepth 100000 in
set_option maxHeartbeats 6400000 in
theorem opw_n1 (k a b : Int) (hn : shN k = 1) (w : World) :
    Calls Tryz.prog 59 #[.agg #[.int .i64 k, .int .i64 a, .int .i64 b]] w (WordsP (opW (k, a, b)) w) := by
  obtain ⟨i0, hi0, hz0, hz1, hz2⟩ := info_parts word_info
  have hw : opW (k, a, b) = [(1, nameR k, 0, 0)] ++ [(2, [], a, 0)] ++ [(3, [59], 0, 0)] := by
    rw [opw_shape, hn]
    rfl
  rw [hw]
  have hsh := fun W => shape_any k W
  obtain ⟨s, n, lo, hi, lo2, hi2, es, hs, hsn, -⟩ := shape_let k
  rw [hn] at hsn
  subst hsn
  simp only [es] at hsh
  have HSH := Lib.hid hsh
  have HNM := Lib.hid (fun W => pname_any s W)
  have HMK := Lib.hid (fun W => pmark_any ⟨#[59]⟩ W)
  have HPN := Lib.hid (fun n W => pnum_any n W)
  have hx : wdC (1, nameR k, 0, 0) = [.int .i64 1, .string s, .int .i64 0, .int .i64 0] := by
    unfold wdC
    rw [← hs, Lib.mk_data]
  have HX := Lib.hid hx
  obtain ⟨x, hxx⟩ : ∃ x : Wd, (1, nameR k, 0, 0) = x := ⟨_, rfl⟩
  rw [hxx] at HX ⊢
  clear hsh es hs hn hx hxx hw
  go_enter Tryz.func59, Tryz.ntmps59
  go_wp2_with fail
  with_reducible refine (HSH.out _).mono ?_
  rintro r w1 ⟨rfl, hb1⟩
  obtain ⟨ho0, hb1w⟩ := box_kept hb1
  obtain ⟨c0, c1, c2⟩ := op_cells ho0
  have hlt := lt_of_block ho0
  have HB2 := Lib.hid (hb1w.alloc hb1w.size (.cells #[.string s, .int .i64 1, .int .i64 lo, .int .i64 hi, .int .i64 lo2, .int .i64 hi2] 144))
  have HO2 := Lib.hid ((Below.heap_alloc w1 (.cells #[.string s, .int .i64 1, .int .i64 lo, .int .i64 hi, .int .i64 lo2, .int .i64 hi2] 144) _ hlt).trans ho0)
  have HS2 := Lib.hid (heap_alloc_new w1 (.cells #[.string s, .int .i64 1, .int .i64 lo, .int .i64 hi, .int .i64 lo2, .int .i64 hi2] 144))
  clear hb1 hb1w ho0
  go_wp2_with fail
  with_reducible refine (HNM.out _).mono ?_
  rintro r w3 ⟨rfl, hb3⟩
  have HW0 := Lib.hid (OWI.start HB2.out HO2.out HS2.out hb3 HX.out)
  have hs3 := (hb3.block _ (lt_of_block HS2.out)).trans HS2.out
  have ho3 := (hb3.block _ (lt_of_block HO2.out)).trans HO2.out
  clear c0 c1 c2
  obtain ⟨c0, c1, c2⟩ := op_cells ho3
  obtain ⟨d0, d1, d2, d3, d4, d5⟩ := six_cells hs3
  have hl3 := lt_of_block hs3
  have hlo3 := lt_of_block ho3
  clear hb3 hs3 ho3
  go_wp2_with fail
  with_reducible refine (HPN.out _ _).mono ?_
  rintro r w4a ⟨rfl, hb⟩
  have HW4a := Lib.hid (HW0.out.more hb)
  clear hb c0 c1 c2 d0 d1 d2 d3 d4 d5
  go_wp2_with (at_builtin; refine wpList_append_own _ rfl _ _ 34 rfl w.heap.size 72 i0 (.agg #[.int .i64 0, .string ⟨#[]⟩, .int .i64 0, .int .i64 0]) 4 40 Tryz.underlying34 hi0 hz0 hz1 hz2 rfl (by decide) _ _ _ rfl (row_below HW4a.out.row ((Below.refl _ _).alloc (Nat.le_refl _) _)) ⟨_, 0, none⟩ 1 1 [.int .i64 2, .string ⟨#[]⟩, .int .i64 a, .int .i64 0] rfl rfl ?c1 ?c2 ?c3 ?c4 ?c5 ?_)
  case c1 => first | exact word_new _ _ _ _ _ _ | exact word_at (by simp) _ _ _ _ _
  case c2 => exact word_ones _ _ _ _
  case c3 => ((try simp only [List.length_append]); (try simp only [List.length_cons]); (try simp only [List.length_nil]); unfold maxLen; omega)
  case c4 => ((try simp only [List.length_append]); (try simp only [List.length_cons]); (try simp only [List.length_nil]); omega)
  case c5 => exact Nat.le_trans HW4a.out.bel.size (by simp)
  intro v4 w4 hown hgrow _
  have HW4 := Lib.hid ((HW4a.out.more ((Below.refl _ _).alloc (Nat.le_refl _) _)).push (x := (2, [], a, 0)) hown hgrow)
  obtain ⟨ao4, cap4, hv4, _⟩ := ownsRow_shape HW4.out.row
  subst hv4
  clear hown hgrow
  obtain ⟨c0, c1, c2⟩ := op_cells HW4.out.opb
  obtain ⟨d0, d1, d2, d3, d4, d5⟩ := six_cells HW4.out.shp
  go_wp2_with fail
  with_reducible refine (HMK.out _).mono ?_
  rintro r w8 ⟨rfl, hb8⟩
  have HW8 := Lib.hid (HW4.out.more hb8)
  clear hb8 c0 c1 c2 d0 d1 d2 d3 d4 d5
  go_wp2_with (at_builtin; refine wpList_append_own _ rfl _ _ 34 rfl w.heap.size 72 i0 (.agg #[.int .i64 0, .string ⟨#[]⟩, .int .i64 0, .int .i64 0]) 4 40 Tryz.underlying34 hi0 hz0 hz1 hz2 rfl (by decide) _ _ _ rfl (row_below HW8.out.row ((Below.refl _ _).alloc (Nat.le_refl _) _)) ⟨_, 0, none⟩ 1 1 [.int .i64 3, .string ⟨#[59]⟩, .int .i64 0, .int .i64 0] rfl rfl ?c1 ?c2 ?c3 ?c4 ?c5 ?_)
  case c1 => first | exact word_new _ _ _ _ _ _ | exact word_at (by simp) _ _ _ _ _
  case c2 => exact word_ones _ _ _ _
  case c3 => ((try simp only [List.length_append]); (try simp only [List.length_cons]); (try simp only [List.length_nil]); unfold maxLen; omega)
  case c4 => ((try simp only [List.length_append]); (try simp only [List.length_cons]); (try simp only [List.length_nil]); omega)
  case c5 => exact Nat.le_trans HW8.out.bel.size (by simp)
  intro v9 w9 hown hgrow _
  have HW9 := Lib.hid ((HW8.out.more ((Below.refl _ _).alloc (Nat.le_refl _) _)).push (x := (3, [59], 0, 0)) hown hgrow)
  clear hown hgrow
  go_wp2
  go_ret
  exact ⟨_, rfl, HW9.out.row, HW9.out.bel⟩
set_option maxRecDepth 100000 in
set_option maxHeartbeats 6400000 in
theorem opw_n2 (k a b : Int) (hn : shN k = 2) (w : World) :
    Calls Tryz.prog 59 #[.agg #[.int .i64 k, .int .i64 a, .int .i64 b]] w (WordsP (opW (k, a, b)) w) := by
  obtain ⟨i0, hi0, hz0, hz1, hz2⟩ := info_parts word_info
  have hw : opW (k, a, b) = [(1, nameR k, 0, 0)] ++ [(2, [], a, 0)] ++ [(2, [], b, 0)] ++ [(3, [59], 0, 0)] := by
    rw [opw_shape, hn]
    rfl
  rw [hw]
  have hsh := fun W => shape_any k W
  obtain ⟨s, n, lo, hi, lo2, hi2, es, hs, hsn, -⟩ := shape_let k
  rw [hn] at hsn
  subst hsn
  simp only [es] at hsh
  have HSH := Lib.hid hsh
  have HNM := Lib.hid (fun W => pname_any s W)
  have HMK := Lib.hid (fun W => pmark_any ⟨#[59]⟩ W)
  have HPN := Lib.hid (fun n W => pnum_any n W)
  have hx : wdC (1, nameR k, 0, 0) = [.int .i64 1, .string s, .int .i64 0, .int .i64 0] := by
    unfold wdC
    rw [← hs, Lib.mk_data]
  have HX := Lib.hid hx
  obtain ⟨x, hxx⟩ : ∃ x : Wd, (1, nameR k, 0, 0) = x := ⟨_, rfl⟩
  rw [hxx] at HX ⊢
  clear hsh es hs hn hx hxx hw
  go_enter Tryz.func59, Tryz.ntmps59
  go_wp2_with fail
  with_reducible refine (HSH.out _).mono ?_
  rintro r w1 ⟨rfl, hb1⟩
  obtain ⟨ho0, hb1w⟩ := box_kept hb1
  obtain ⟨c0, c1, c2⟩ := op_cells ho0
  have hlt := lt_of_block ho0
  have HB2 := Lib.hid (hb1w.alloc hb1w.size (.cells #[.string s, .int .i64 2, .int .i64 lo, .int .i64 hi, .int .i64 lo2, .int .i64 hi2] 144))
  have HO2 := Lib.hid ((Below.heap_alloc w1 (.cells #[.string s, .int .i64 2, .int .i64 lo, .int .i64 hi, .int .i64 lo2, .int .i64 hi2] 144) _ hlt).trans ho0)
  have HS2 := Lib.hid (heap_alloc_new w1 (.cells #[.string s, .int .i64 2, .int .i64 lo, .int .i64 hi, .int .i64 lo2, .int .i64 hi2] 144))
  clear hb1 hb1w ho0
  go_wp2_with fail
  with_reducible refine (HNM.out _).mono ?_
  rintro r w3 ⟨rfl, hb3⟩
  have HW0 := Lib.hid (OWI.start HB2.out HO2.out HS2.out hb3 HX.out)
  have hs3 := (hb3.block _ (lt_of_block HS2.out)).trans HS2.out
  have ho3 := (hb3.block _ (lt_of_block HO2.out)).trans HO2.out
  clear c0 c1 c2
  obtain ⟨c0, c1, c2⟩ := op_cells ho3
  obtain ⟨d0, d1, d2, d3, d4, d5⟩ := six_cells hs3
  have hl3 := lt_of_block hs3
  have hlo3 := lt_of_block ho3
  clear hb3 hs3 ho3
  go_wp2_with fail
  with_reducible refine (HPN.out _ _).mono ?_
  rintro r w4a ⟨rfl, hb⟩
  have HW4a := Lib.hid (HW0.out.more hb)
  clear hb c0 c1 c2 d0 d1 d2 d3 d4 d5
  go_wp2_with (at_builtin; refine wpList_append_own _ rfl _ _ 34 rfl w.heap.size 72 i0 (.agg #[.int .i64 0, .string ⟨#[]⟩, .int .i64 0, .int .i64 0]) 4 40 Tryz.underlying34 hi0 hz0 hz1 hz2 rfl (by decide) _ _ _ rfl (row_below HW4a.out.row ((Below.refl _ _).alloc (Nat.le_refl _) _)) ⟨_, 0, none⟩ 1 1 [.int .i64 2, .string ⟨#[]⟩, .int .i64 a, .int .i64 0] rfl rfl ?c1 ?c2 ?c3 ?c4 ?c5 ?_)
  case c1 => first | exact word_new _ _ _ _ _ _ | exact word_at (by simp) _ _ _ _ _
  case c2 => exact word_ones _ _ _ _
  case c3 => ((try simp only [List.length_append]); (try simp only [List.length_cons]); (try simp only [List.length_nil]); unfold maxLen; omega)
  case c4 => ((try simp only [List.length_append]); (try simp only [List.length_cons]); (try simp only [List.length_nil]); omega)
  case c5 => exact Nat.le_trans HW4a.out.bel.size (by simp)
  intro v4 w4 hown hgrow _
  have HW4 := Lib.hid ((HW4a.out.more ((Below.refl _ _).alloc (Nat.le_refl _) _)).push (x := (2, [], a, 0)) hown hgrow)
  obtain ⟨ao4, cap4, hv4, _⟩ := ownsRow_shape HW4.out.row
  subst hv4
  clear hown hgrow
  obtain ⟨c0, c1, c2⟩ := op_cells HW4.out.opb
  obtain ⟨d0, d1, d2, d3, d4, d5⟩ := six_cells HW4.out.shp
  go_wp2_with fail
  with_reducible refine (HPN.out _ _).mono ?_
  rintro r w6a ⟨rfl, hb⟩
  have HW6a := Lib.hid (HW4.out.more hb)
  clear hb c0 c1 c2 d0 d1 d2 d3 d4 d5
  go_wp2_with (at_builtin; refine wpList_append_own _ rfl _ _ 34 rfl w.heap.size 72 i0 (.agg #[.int .i64 0, .string ⟨#[]⟩, .int .i64 0, .int .i64 0]) 4 40 Tryz.underlying34 hi0 hz0 hz1 hz2 rfl (by decide) _ _ _ rfl (row_below HW6a.out.row ((Below.refl _ _).alloc (Nat.le_refl _) _)) ⟨_, 0, none⟩ 1 1 [.int .i64 2, .string ⟨#[]⟩, .int .i64 b, .int .i64 0] rfl rfl ?c1 ?c2 ?c3 ?c4 ?c5 ?_)
  case c1 => first | exact word_new _ _ _ _ _ _ | exact word_at (by simp) _ _ _ _ _
  case c2 => exact word_ones _ _ _ _
  case c3 => ((try simp only [List.length_append]); (try simp only [List.length_cons]); (try simp only [List.length_nil]); unfold maxLen; omega)
  case c4 => ((try simp only [List.length_append]); (try simp only [List.length_cons]); (try simp only [List.length_nil]); omega)
  case c5 => exact Nat.le_trans HW6a.out.bel.size (by simp)
  intro v6 w6 hown hgrow _
  have HW6 := Lib.hid ((HW6a.out.more ((Below.refl _ _).alloc (Nat.le_refl _) _)).push (x := (2, [], b, 0)) hown hgrow)
  obtain ⟨ao6, cap6, hv6, _⟩ := ownsRow_shape HW6.out.row
  subst hv6
  clear hown hgrow
  obtain ⟨c0, c1, c2⟩ := op_cells HW6.out.opb
  obtain ⟨d0, d1, d2, d3, d4, d5⟩ := six_cells HW6.out.shp
  go_wp2_with fail
  with_reducible refine (HMK.out _).mono ?_
  rintro r w8 ⟨rfl, hb8⟩
  have HW8 := Lib.hid (HW6.out.more hb8)
  clear hb8 c0 c1 c2 d0 d1 d2 d3 d4 d5
  go_wp2_with (at_builtin; refine wpList_append_own _ rfl _ _ 34 rfl w.heap.size 72 i0 (.agg #[.int .i64 0, .string ⟨#[]⟩, .int .i64 0, .int .i64 0]) 4 40 Tryz.underlying34 hi0 hz0 hz1 hz2 rfl (by decide) _ _ _ rfl (row_below HW8.out.row ((Below.refl _ _).alloc (Nat.le_refl _) _)) ⟨_, 0, none⟩ 1 1 [.int .i64 3, .string ⟨#[59]⟩, .int .i64 0, .int .i64 0] rfl rfl ?c1 ?c2 ?c3 ?c4 ?c5 ?_)
  case c1 => first | exact word_new _ _ _ _ _ _ | exact word_at (by simp) _ _ _ _ _
  case c2 => exact word_ones _ _ _ _
  case c3 => ((try simp only [List.length_append]); (try simp only [List.length_cons]); (try simp only [List.length_nil]); unfold maxLen; omega)
  case c4 => ((try simp only [List.length_append]); (try simp only [List.length_cons]); (try simp only [List.length_nil]); omega)
  case c5 => exact Nat.le_trans HW8.out.bel.size (by simp)
  intro v9 w9 hown hgrow _
  have HW9 := Lib.hid ((HW8.out.more ((Below.refl _ _).alloc (Nat.le_refl _) _)).push (x := (3, [59], 0, 0)) hown hgrow)
  clear hown hgrow
  go_wp2
  go_ret
  exact ⟨_, rfl, HW9.out.row, HW9.out.bel⟩
/-- The words of any op. -/
theorem opw_any (k a b : Int) (w : World) : Calls Tryz.prog 59 #[.agg #[.int .i64 k, .int .i64 a, .int .i64 b]] w (WordsP (opW (k, a, b)) w) := by
  rcases shN_is3 k with h | h | h
  · exact opw_n0 k a b h w
  · exact opw_n1 k a b h w
  · exact opw_n2 k a b h w
end Go.Proofs.YtmcfjlkjijaflaaGreatDoor

/- What the program's Words leans on: the list in its box, and how it grows. -/
namespace Go.Proofs.YtmcfjlkjijaflaaGreatDoor
open Go.RowKit

/-- The list of words so far, in its box; the program's box. -/
structure WLI (w wr : World) (K : Nat) (pv : Array Value) (v : Value) (ws : List Wd) : Prop where
  row : WRow w.heap.size wr v ws
  t : Turned [] w wr
  box : wr.heap[w.heap.size]? = some (.cells pv 51 (0, 0))
  lst : wr.heap[K]? = some (.cells #[v] 34 (0, 0))
  kne : w.heap.size < K
theorem WLI.more {w wr wr' : World} {K : Nat} {pv : Array Value} {v : Value} {ws : List Wd} (h : WLI w wr K pv v ws) (hb : Below wr.heap.size wr wr') : WLI w wr' K pv v ws :=
  ⟨row_below h.row hb, h.t.trans (turned_below0 hb) (Newer.refl _ _), (hb.block _ (lt_of_block h.box)).trans h.box, (hb.block _ (lt_of_block h.lst)).trans h.lst, h.kne⟩
theorem WLI.mild {w A B : World} {K N : Nat} {pv : Array Value} {v : Value} {ws : List Wd} (h : WLI w A K pv v ws) (m : Mild [] N A B) (hN : w.heap.size ≤ N) : WLI w B K pv v ws := by
  refine ⟨ownsRow_same h.row (fun k hk _ => ?_), h.t.mild m hN (by simp), m.cells h.box (by simp), m.cells h.lst (by simp), h.kne⟩
  obtain ⟨cur, hc⟩ := ownsRow_type h.row k hk
  rw [m.cells hc (by simp), hc]
theorem row_up {w : World} {base : Nat} {e : TypeId} {size : Nat} {v : Value} {n : Nat} {xs : List Value} (h : w.ownsRow 0 e size v n xs) (hb : ∀ g ∈ v.ownBlock.toList, base ≤ g) : w.ownsRow base e size v n xs := by
  refine ⟨h.1, ?_⟩
  rcases h.2 with h2 | ⟨g, cap, cur, rfl, _, rest⟩
  · exact .inl h2
  · exact .inr ⟨g, cap, cur, rfl, hb g (by simp [Value.ownBlock]), rest⟩
/-- Behind an append: what of the elder blocks is left. -/
theorem WLI.grown {w wx w4 : World} {K : Nat} {pv : Array Value} {v : Value} {ws : List Wd} (h : WLI w wx K pv v ws) (hg : wx.grownBy w4 v.ownBlock) :
    w4.heap[w.heap.size]? = some (.cells pv 51 (0, 0)) ∧ w4.heap[K]? = some (.cells #[v] 34 (0, 0)) ∧ Turned [] w w4 :=
  ⟨(hg.block _ (lt_of_block h.box) (block_off h.box h.row (by decide))).trans h.box, (hg.block _ (lt_of_block h.lst) (block_off h.lst h.row (by decide))).trans h.lst,
    h.t.grown hg (fun k hk => .inr ((h.row.lt k hk).1))⟩
theorem WLI.push {w wx w4 : World} {K : Nat} {pv : Array Value} {v v' : Value} {ws xs : List Wd} {m : Nat} (h : WLI w wx K pv v ws) (hm : xs.length = m)
    (hown : w4.ownsRow 0 72 4 v' (ws.length + m) (wdsC ws ++ wdsC xs)) (hg : wx.grownBy w4 v.ownBlock) (hnew : ∀ g ∈ v'.ownBlock.toList, g ∈ v.ownBlock.toList ∨ wx.heap.size ≤ g) : WLI w (w4.setCell ⟨K, 0, none⟩ v') K pv v' (ws ++ xs) := by
  obtain ⟨g1, g2, g3⟩ := h.grown hg
  have hrow : WRow w.heap.size w4 v' (ws ++ xs) := by
    unfold WRow
    rw [List.length_append, hm, wdsC, List.flatMap_append]
    refine row_up hown (fun g hx => ?_)
    rcases hnew g hx with h1 | h1
    · exact (h.row.lt g (by simpa using h1)).1
    · exact Nat.le_trans h.t.size h1
  have hk := h.kne
  have hoff := block_off g2 hrow (by decide)
  refine ⟨ownsRow_same hrow (fun k hk2 _ => Below.heap_setCell _ _ _ _ ?_), g3.setCell (.inr (by show w.heap.size ≤ K; omega)) _, (Below.heap_setCell _ _ _ _ (by show w.heap.size ≠ K; omega)).trans g1, ?_, hk⟩
  · show k ≠ K
    rintro rfl
    exact hoff (by simpa using hk2 : v'.ownBlock = some k).symm
  · rw [heap_setCell_same _ _ _ _ _ _ g2]
    rfl
theorem WLI.start {w w1 w3 : World} {pv : Array Value} {p q r t : Value} {x : Wd} (hx : wdC x = [p, q, r, t]) (h1 : w1.heap[w.heap.size]? = some (.cells pv 51 (0, 0))) (hb : Below w.heap.size w w1) (h3 : Below w1.heap.size w1 w3) :
    WLI w ((w3.alloc (.cells #[p, q, r, t] 72)).alloc (.cells #[.slice (some ⟨w3.heap.size, 0, none⟩) 1 1] 34)) (w3.heap.size + 1) pv (.slice (some ⟨w3.heap.size, 0, none⟩) 1 1) [x] := by
  have hb3 : Below w.heap.size w w3 := hb.trans (h3.mono hb.size)
  have hl := lt_of_block h1
  have hs := h3.size
  have hz := heap_alloc_new (w3.alloc (.cells #[p, q, r, t] 72)) (.cells #[.slice (some ⟨w3.heap.size, 0, none⟩) 1 1] 34)
  rw [World.size_alloc] at hz
  refine ⟨(first_row w3 _ hb3.size _ _ _ _ _ hx).alloc _, turned_below0 ((hb3.alloc hb3.size _).alloc (by simp; omega) _), ?_, hz, by omega⟩
  exact (Below.heap_alloc _ _ _ (by simp; omega)).trans ((Below.heap_alloc _ _ _ (by omega)).trans ((h3.block _ hl).trans h1))
/-- .. in the loop over the ops: where its row may lie. -/
structure WLJ (w W : World) (K N n₀ : Nat) (pv : Array Value) (v : Value) (ws : List Wd) : Prop where
  i : WLI w W K pv v ws
  g : ∀ g ∈ v.ownBlock.toList, g < n₀ ∨ N ≤ g
  z : N ≤ W.heap.size
theorem WLJ.mild {w A B : World} {K N n₀ M : Nat} {pv : Array Value} {v : Value} {ws : List Wd} (h : WLJ w A K N n₀ pv v ws) (m : Mild [] M A B) (hM : w.heap.size ≤ M) : WLJ w B K N n₀ pv v ws :=
  ⟨h.i.mild m hM, h.g, Nat.le_trans h.z m.size⟩
/-- A round: new memory, an append, a store. -/
theorem WLJ.round {w W V1 w4 : World} {K N n₀ : Nat} {pv : Array Value} {v v' : Value} {ws xs : List Wd} {m : Nat} (h : WLJ w W K N n₀ pv v ws) (hK : K < n₀) (hb : Below W.heap.size W V1) (hm : xs.length = m)
    (hown : w4.ownsRow 0 72 4 v' (ws.length + m) (wdsC ws ++ wdsC xs)) (hg : V1.grownBy w4 v.ownBlock) (hnew : ∀ g ∈ v'.ownBlock.toList, g ∈ v.ownBlock.toList ∨ V1.heap.size ≤ g) :
    (∀ B, KeepsFrom B W (w4.setCell ⟨K, 0, none⟩ v')) ∧ (∀ j, n₀ ≤ j → j < N → (w4.setCell ⟨K, 0, none⟩ v').heap[j]? = W.heap[j]?) ∧ WLJ w (w4.setCell ⟨K, 0, none⟩ v') K N n₀ pv v' (ws ++ xs) := by
  have h1 := h.i.more hb
  have hz := h.z
  refine ⟨fun B => (keeps_below hb).trans (((KeepsOthers.of_grownBy hg (fun j o hj ho => ?_)).trans (KeepsOthers.setCell _ _ _)).from _), fun j h0 hN => ?_, h1.push hm hown hg hnew, fun g hx => ?_, ?_⟩
  · obtain ⟨cur, hc⟩ := ownsRow_type h1.row j (by simp [hj])
    rw [hc] at ho
    cases ho
    rfl
  · refine (Below.heap_setCell _ _ _ _ (by show j ≠ K; omega)).trans ((hg.block j (Nat.lt_of_lt_of_le (by omega) hb.size) (fun e => ?_)).trans (hb.block j (by omega)))
    rcases h.g j (by simp [← e]) with hh | hh <;> omega
  · rcases hnew g hx with hh | hh
    · exact h.g g hh
    · have := hb.size
      exact .inr (by omega)
  · have := hb.size
    have := hg.size
    simp [World.setCell]
    omega
theorem wdsC_one (L : List Wd) : ∀ u ∈ wdsC L, u.oneCell' = true := by
  intro u hu
  obtain ⟨x, _, hx⟩ := List.mem_flatMap.1 hu
  simp [wdC] at hx
  rcases hx with rfl | rfl | rfl | rfl <;> rfl
theorem zip_len {L : List Opn} {pre : List (Opn × Nat)} {x : Opn × Nat} (h : (pre ++ [x]) <+: L.zipIdx) : pre.length + 1 ≤ L.length := by
  have := h.length_le
  simpa [List.length_zipIdx] using this
theorem flat_len : ∀ pre : List (Opn × Nat), (pre.flatMap (fun x => opW x.1)).length ≤ pre.length * 4
  | [] => Nat.le_refl _
  | x :: pre => by
    have h1 := flat_len pre
    have h2 := opW_len x.1
    simp only [List.flatMap_cons, List.length_append, List.length_cons] at h1 ⊢
    omega
theorem flat_zip (L : List Opn) : L.zipIdx.flatMap (fun x => opW x.1) = L.flatMap opW := by
  have h : ∀ (L : List Opn) (k : Nat), (L.zipIdx k).flatMap (fun x => opW x.1) = L.flatMap opW := fun L => by
    induction L with
    | nil => intro k; rfl
    | cons x L ih =>
      intro k
      rw [List.zipIdx_cons, List.flatMap_cons, List.flatMap_cons, ih]
  exact h L 0
end Go.Proofs.YtmcfjlkjijaflaaGreatDoor

/- The program's reader: its block; next. -/
namespace Go.Proofs.YtmcfjlkjijaflaaGreatDoor
open Go.RowKit

/-- The word that is ahead, without its place. -/
def nextR (L : List Wd) (c : Nat) : Wd := match L[c]? with
  | some x => (x.1, x.2.1, x.2.2.1, 0)
  | none => (0, [], 0, 0)
abbrev rdC (ao : Option Addr) (n cap : Nat) (c : Nat) (e : Int) : Array Value := #[.slice ao n cap, .int .i64 c, .int .i64 e]
/-- A reader in memory, and its words. -/
structure RdI (w : World) (b : Nat) (ao : Option Addr) (bw off cap : Nat) (L : List Wd) (c : Nat) (e : Int) : Prop where
  rd : w.heap[b]? = some (.cells (rdC ao L.length cap c e) 124 (0, 0))
  ws : WArg w ao bw off L
  ne : 0 < L.length → bw ≠ b
  le : c ≤ L.length
  len : L.length ≤ 100000
theorem WArg.same {w w' : World} {ao : Option Addr} {b off : Nat} {L : List Wd} (h : WArg w ao b off L) (hs : 0 < L.length → w'.heap[b]? = w.heap[b]?) : WArg w' ao b off L := by
  have hlt : 0 < L.length → b < w'.heap.size := fun h0 => by
    have h1 := hs h0
    rw [Array.getElem?_eq_getElem (h.at_ h0).2] at h1
    exact lt_of_block h1
  refine ⟨fun h0 => ⟨(h.at_ h0).1, hlt h0⟩, fun i hi => ?_⟩
  obtain ⟨h0, h1, h2, h3⟩ := h.cells i hi
  have e : w'.heap[b]? = w.heap[b]? := hs (by omega)
  have ec : ∀ o, w'.cell? ⟨b, o, none⟩ = w.cell? ⟨b, o, none⟩ := fun o => by simp only [World.cell?, e]
  exact ⟨(ec _).trans h0, (ec _).trans h1, (ec _).trans h2, (ec _).trans h3⟩
theorem RdI.turned {w w' : World} {b : Nat} {ao : Option Addr} {bw off cap : Nat} {L : List Wd} {c c' : Nat} {e e' : Int} (h : RdI w b ao bw off cap L c e) (t : Turned [b] w w')
    (hr : w'.heap[b]? = some (.cells (rdC ao L.length cap c' e') 124 (0, 0))) (hc : c' ≤ L.length) : RdI w' b ao bw off cap L c' e' :=
  ⟨hr, h.ws.same (fun h0 => t.block bw (h.ws.at_ h0).2 (by simpa using h.ne h0)), h.ne, hc, h.len⟩
theorem RdI.below {w w' : World} {b : Nat} {ao : Option Addr} {bw off cap : Nat} {L : List Wd} {c : Nat} {e : Int} (h : RdI w b ao bw off cap L c e) (t : Below w.heap.size w w') : RdI w' b ao bw off cap L c e :=
  ⟨(t.block _ (lt_of_block h.rd)).trans h.rd, h.ws.below t, h.ne, h.le, h.len⟩
theorem turned_below {w w' : World} (h : Below w.heap.size w w') (X : List Nat) : Turned X w w' := ⟨h.os, h.tape, h.output, h.size, fun k hk _ => h.block k hk⟩
theorem three_cells {w : World} {B : Nat} {a b c : Value} {t : TypeId} (h : w.heap[B]? = some (.cells #[a, b, c] t (0, 0))) :
    w.cell? ⟨B, 0, none⟩ = some a ∧ w.cell? ⟨B, 1, none⟩ = some b ∧ w.cell? ⟨B, 2, none⟩ = some c := op_cells h
theorem next_at {L : List Wd} {c : Nat} (h : c < L.length) : nextR L c = (L[c].1, L[c].2.1, L[c].2.2.1, 0) := by
  unfold nextR; rw [List.getElem?_eq_getElem h]
theorem next_end {L : List Wd} {c : Nat} (h : L.length ≤ c) : nextR L c = (0, [], 0, 0) := by
  unfold nextR; rw [List.getElem?_eq_none h]
set_option maxRecDepth 100000 in
/-- Whether there is no word ahead any more. -/
theorem ends_any {w : World} {b : Nat} {ao : Option Addr} {bw off cap : Nat} {L : List Wd} {c : Nat} {e : Int} (h : RdI w b ao bw off cap L c e) :
    Calls Tryz.prog 121 #[.pointer (some ⟨b, 0, none⟩)] w fun r w' => r = .returned (.bool (decide (L.length ≤ c))) ∧ ∃ k, w' = w.drewN k := by
  obtain ⟨d0, d1, d2⟩ := three_cells h.rd
  obtain ⟨n, hn⟩ : ∃ n, L.length = n := ⟨_, rfl⟩
  rw [hn] at d0 ⊢
  clear h hn
  by_cases hc : n ≤ c
  · have hg : (n : Int) ≤ c := by omega
    have hg2 : decide ((n : Int) ≤ c) = true := by simp; omega
    have hg3 : decide (n ≤ c) = true := by simp; omega
    rw [hg3]
    go_enter Tryz.func121, Tryz.ntmps121
    go_wp2_with fail
    go_quiet (fail)
    go_wp2
    go_ret
    exact ⟨rfl, _, rfl⟩
  · have hg : ¬ (n : Int) ≤ c := by omega
    have hg2 : decide ((n : Int) ≤ c) = false := by simp; omega
    have hg3 : decide (n ≤ c) = false := by simp; omega
    rw [hg3]
    go_enter Tryz.func121, Tryz.ntmps121
    go_wp2_with fail
    go_quiet (fail)
    go_wp2
    go_ret
    exact ⟨rfl, _, rfl⟩
set_option maxRecDepth 100000 in
set_option maxHeartbeats 3200000 in
theorem next_any {w : World} {b : Nat} {ao : Option Addr} {bw off cap : Nat} {L : List Wd} {c : Nat} {e : Int} (h : RdI w b ao bw off cap L c e) :
    Calls Tryz.prog 107 #[.pointer (some ⟨b, 0, none⟩)] w fun r w' => r = .returned (wdV (nextR L c)) ∧ Below w.heap.size w w' := by
  obtain ⟨d0, d1, d2⟩ := three_cells h.rd
  have hbl := lt_of_block h.rd
  obtain ⟨n, hn⟩ : ∃ n, L.length = n := ⟨_, rfl⟩
  have hle := h.le
  have hm := h.len
  have HN := Lib.hid hn
  rw [hn] at d0 hle hm
  have H0 := Lib.hid (heap_alloc_new w zeroW)
  have he := ends_any (h.below ((Below.refl _ w).alloc (Nat.le_refl _) zeroW))
  rw [hn] at he
  by_cases hlt : c < n
  · have hlt' : c < L.length := by rw [HN.out]; exact hlt
    have hx := next_at hlt'
    obtain ⟨rfl, hbwl⟩ := h.ws.at_ (by omega)
    obtain ⟨x0, x1, x2, x3⟩ := h.ws.cells c hlt'
    obtain ⟨⟨k1, t1, m, p⟩, hxx⟩ : ∃ x, L[c] = x := ⟨_, rfl⟩
    rw [hxx] at x0 x1 x2 x3 hx
    rw [hx]
    simp only at x0 x1 x2 x3
    obtain ⟨tb, htb⟩ : ∃ tb : ByteArray, ⟨t1.toArray⟩ = tb := ⟨_, rfl⟩
    unfold wdV
    simp only [htb] at x1 ⊢
    have hg : ¬ (n : Int) ≤ c := by omega
    have hg2 : decide ((n : Int) ≤ c) = false := by simp; omega
    have hg3 : decide (n ≤ c) = false := by simp; omega
    rw [hg3] at he
    have HE := Lib.hid he
    clear he
    have HS : Hid (∀ V, Below w.heap.size w V → (V.cell? ⟨b, 0, none⟩ = some (.slice (some ⟨bw, off, none⟩) n cap) ∧ V.cell? ⟨b, 1, none⟩ = some (.int .i64 c) ∧ V.cell? ⟨bw, off + c * 4, none⟩ = some (.int .i64 k1) ∧ V.cell? ⟨bw, off + c * 4 + 1, none⟩ = some (.string tb) ∧ V.cell? ⟨bw, off + c * 4 + 2, none⟩ = some (.int .i64 m) ∧ V.cell? ⟨bw, off + c * 4 + 3, none⟩ = some (.int .i64 p))) := Lib.hid fun V hV => by
      have e1 : ∀ o, V.cell? ⟨b, o, none⟩ = w.cell? ⟨b, o, none⟩ := fun o => hV.cell (p := ⟨b, o, none⟩) hbl
      have e2 : ∀ o, V.cell? ⟨bw, o, none⟩ = w.cell? ⟨bw, o, none⟩ := fun o => hV.cell (p := ⟨bw, o, none⟩) hbwl
      exact ⟨(e1 _).trans d0, (e1 _).trans d1, (e2 _).trans x0, (e2 _).trans x1, (e2 _).trans x2, (e2 _).trans x3⟩
    clear hn hx hxx h htb
    go_enter Tryz.func107, Tryz.ntmps107
    go_wp2_with fail
    with_reducible refine HE.out.mono ?_
    rintro r _ ⟨rfl, nq, rfl⟩
    go_wp2_with fail
    obtain ⟨V, hV⟩ : ∃ V, (w.alloc zeroW).drewN nq = V := ⟨_, rfl⟩
    have hVz : V.heap[w.heap.size]? = some zeroW := by rw [← hV]; exact H0.out
    have hVb : Below w.heap.size w V := by rw [← hV]; exact below_drewN ((Below.refl _ w).alloc (Nat.le_refl _) _) _
    rw [hV]
    clear hV d1 d2 d0 x0 x1 x2 x3
    have HZ := Lib.hid hVz
    have HV := Lib.hid hVb
    clear hVz hVb
    go_region_held3 (fun V => V.cell? ⟨b, 0, none⟩ = some (.slice (some ⟨bw, off, none⟩) n cap) ∧ V.cell? ⟨b, 1, none⟩ = some (.int .i64 c) ∧ V.cell? ⟨bw, off + c * 4, none⟩ = some (.int .i64 k1) ∧ V.cell? ⟨bw, off + c * 4 + 1, none⟩ = some (.string tb) ∧ V.cell? ⟨bw, off + c * 4 + 2, none⟩ = some (.int .i64 m) ∧ V.cell? ⟨bw, off + c * 4 + 3, none⟩ = some (.int .i64 p))
      (first | exact HS.out _ HV.out.drew | exact HS.out _ (HV.out.drew.alloc (by have := HV.out.size; simpa using this) _) | trace_state)
      (fail)
    obtain ⟨V2, hV2⟩ : ∃ V2, (V.alloc (.cells #[.int .i64 k1, .string tb, .int .i64 m, .int .i64 p] 72)).drew = V2 := ⟨_, rfl⟩
    have hA : V2.heap[w.heap.size]? = some zeroW := by rw [← hV2]; exact (Below.heap_alloc _ _ _ (lt_of_block HZ.out)).trans HZ.out
    have hB : V2.heap[V.heap.size]? = some (.cells #[.int .i64 k1, .string tb, .int .i64 m, .int .i64 p] 72 (0, 0)) := by rw [← hV2]; exact heap_alloc_new _ _
    have hBl : Below w.heap.size w V2 := by rw [← hV2]; exact (HV.out.alloc HV.out.size _).drew
    have hlt2 : w.heap.size < V.heap.size := lt_of_block HZ.out
    obtain ⟨B, hBe⟩ : ∃ B, V.heap.size = B := ⟨_, rfl⟩
    rw [hBe] at hB hlt2 ⊢
    rw [hV2]
    obtain ⟨a0, a1, a2, a3⟩ := word_cells hA
    obtain ⟨b0, b1, b2, b3⟩ := word_cells hB
    have fa0 := not_frozen hA 0
    have fa1 := not_frozen hA 1
    have fa2 := not_frozen hA 2
    have fa3 := not_frozen hA 3
    have fb3 := not_frozen hB 3
    have ne1 : w.heap.size ≠ B := by omega
    have ne2 : B ≠ w.heap.size := by omega
    have HAA := Lib.hid hA
    have HBB := Lib.hid hBl
    clear hV2 hBe HZ HV hA hB hBl
    go_wp2
    have hA2 : (V2.setCell ⟨B, 3, none⟩ (.int .i64 0)).heap[w.heap.size]? = some zeroW := (Below.heap_setCell _ _ _ _ ne1).trans HAA.out
    refine bodyPost_ret (word_res rfl rfl (word_stored hA2)) rfl ?_
    exact ⟨rfl, word_below (HBB.out.setCell (by show w.heap.size ≤ B; omega) _) (Nat.le_refl _) _ _ _ _⟩
  · have hge : n ≤ c := by omega
    rw [next_end (by rw [HN.out]; exact hge)]
    have hg : (n : Int) ≤ c := by omega
    have hg2 : decide ((n : Int) ≤ c) = true := by simp; omega
    have hg3 : decide (n ≤ c) = true := by simp; omega
    rw [hg3] at he
    have HE := Lib.hid he
    clear hn h he
    go_enter Tryz.func107, Tryz.ntmps107
    go_wp2_with fail
    with_reducible refine HE.out.mono ?_
    rintro r _ ⟨rfl, nq, rfl⟩
    go_wp2
    have hA2 : ((w.alloc zeroW).drewN nq).heap[w.heap.size]? = some zeroW := H0.out
    refine bodyPost_ret (word_res rfl rfl (word_stored hA2)) rfl ?_
    exact ⟨rfl, word_below (below_drewN ((Below.refl _ w).alloc (Nat.le_refl _) _) _) (Nat.le_refl _) _ _ _ _⟩
end Go.Proofs.YtmcfjlkjijaflaaGreatDoor
