/-
  The program's actWords.
-/
import Derived.Test.YtmcfjlkjijaflaaDoorAcMayP
import Derived.Test.YtmcfjlkjijaflaaDoorGXB
import Derived.Test.YtmcfjlkjijaflaaDoorRgWds
namespace Go.Proofs.YtmcfjlkjijaflaaDoor
open Go.RowKit

/-- The words of an act so far; the box of its numbers. -/
structure AWI (w wr : World) (S : Nat) (nm : Array Value) (v : Value) (ws : List Wd) : Prop where
  row : WRow w.heap.size wr v ws
  bel : Below w.heap.size w wr
  num : wr.heap[S]? = some (.cells nm 120 (0, 0))
theorem AWI.more {w wr wr' : World} {S : Nat} {nm : Array Value} {v : Value} {ws : List Wd} (h : AWI w wr S nm v ws) (hb : Below wr.heap.size wr wr') : AWI w wr' S nm v ws :=
  ⟨row_below h.row hb, h.bel.trans (hb.mono h.bel.size), (hb.block _ (lt_of_block h.num)).trans h.num⟩
theorem AWI.push {w wx w4 : World} {S : Nat} {nm : Array Value} {v v' : Value} {ws : List Wd} {x : Wd} (h : AWI w wx S nm v ws)
    (hown : w4.ownsRow w.heap.size 74 4 v' (ws.length + 1) (wdsC ws ++ wdC x)) (hg : wx.grownBy w4 v.ownBlock) : AWI w w4 S nm v' (ws ++ [x]) := by
  have hb : Below w.heap.size wx w4 := app_below (Below.refl _ _) h.bel.size (Nat.le_refl _) h.row hg
  refine ⟨?_, h.bel.trans hb, (hg.block _ (lt_of_block h.num) (block_off h.num h.row (by decide))).trans h.num⟩
  unfold WRow
  rw [wdsC_snoc, List.length_append, List.length_singleton]
  exact hown
theorem AWI.start {w w2 w3 : World} {S : Nat} {nm : Array Value} (hb : Below w.heap.size w w2) (hs : w2.heap[S]? = some (.cells nm 120 (0, 0))) (h3 : Below w2.heap.size w2 w3) {p q r t : Value} {x : Wd} (hx : wdC x = [p, q, r, t]) :
    AWI w (w3.alloc (.cells #[p, q, r, t] 74)) S nm (.slice (some ⟨w3.heap.size, 0, none⟩) 1 1) [x] := by
  have h4 : Below w2.heap.size w2 (w3.alloc (.cells #[p, q, r, t] 74)) := h3.alloc h3.size _
  exact ⟨first_row w3 _ (Nat.le_trans hb.size h3.size) _ _ _ _ _ hx, hb.trans (h4.mono hb.size), (h4.block _ (lt_of_block hs)).trans hs⟩
/-- The boxes of the act, of its shape, of its numbers. -/
structure AWB (w V : World) (S : Nat) (a sh : Array Value) : Prop where
  bel : Below w.heap.size w V
  act : V.heap[w.heap.size]? = some (.cells a 69 (0, 0))
  shp : V.heap[S]? = some (.cells sh 104 (0, 0))
theorem xn_nums (k x0 x1 x2 x3 : Int) {i : Nat} (hi : i < 4) : (acNums (k, x0, x1, x2, x3))[i]? = some (xN x0 x1 x2 x3 i) := by
  have : i = 0 ∨ i = 1 ∨ i = 2 ∨ i = 3 := by omega
  rcases this with rfl | rfl | rfl | rfl <;> rfl
theorem nums_take (k x0 x1 x2 x3 : Int) {i : Nat} (hi : i < 4) : ((acNums (k, x0, x1, x2, x3)).take (i + 1)).map numW = ((acNums (k, x0, x1, x2, x3)).take i).map numW ++ [(2, [], xN x0 x1 x2 x3 i, 0)] := by
  rw [List.take_add_one, xn_nums k x0 x1 x2 x3 hi, List.map_append]
  rfl
theorem numw_c (n : Int) : wdC (2, [], n, 0) = [.int .i64 2, .string ⟨#[]⟩, .int .i64 n, .int .i64 0] := rfl
set_option maxRecDepth 100000 in
set_option maxHeartbeats 6400000 in
theorem actw_any (k x0 x1 x2 x3 : Int) (w : World) : Calls Tryd.prog 53 #[.agg #[.int .i64 k, .int .i64 x0, .int .i64 x1, .int .i64 x2, .int .i64 x3]] w (WordsP (acW (k, x0, x1, x2, x3)) w) := by
  obtain ⟨i0, hi0, hz0, hz1, hz2⟩ := info_parts word_info
  have h := fun W => ashape_any k W
  obtain ⟨s, m0, e, hs, hm⟩ := ashape_let k
  subst hm
  simp only [e] at h
  have hx : wdC (1, acName k, 0, 0) = [.int .i64 1, .string s, .int .i64 0, .int .i64 0] := by
    unfold wdC
    rw [← hs, Lib.mk_data]
  have hm4 := many_four k
  have hW : acW (k, x0, x1, x2, x3) = (1, acName k, 0, 0) :: (((acNums (k, x0, x1, x2, x3)).take (acMany k)).map numW ++ [semiW]) := rfl
  rw [hW]
  obtain ⟨m, hm⟩ : ∃ m, acMany k = m := ⟨_, rfl⟩
  rw [hm] at h hm4 ⊢
  obtain ⟨xw, hxw⟩ : ∃ x : Wd, (1, acName k, 0, 0) = x := ⟨_, rfl⟩
  rw [hxw] at hx ⊢
  have H := Lib.hid h
  have HX := Lib.hid hx
  have HNO := Lib.hid (fun W => numbersof_any k x0 x1 x2 x3 W)
  have HNM := Lib.hid (fun W => pname_any s W)
  have HMK := Lib.hid (fun W => pmark_any ⟨#[59]⟩ W)
  have HPN := Lib.hid (fun n W => pnum_any n W)
  have HTK := Lib.hid (fun i (hi : i < 4) => nums_take k x0 x1 x2 x3 hi)
  obtain ⟨F, hF⟩ : ∃ F : Nat → List Wd, (fun i => ((acNums (k, x0, x1, x2, x3)).take i).map numW) = F := ⟨_, rfl⟩
  have HF := Lib.hid hF
  have hFt : ∀ i, i < 4 → F (i + 1) = F i ++ [(2, [], xN x0 x1 x2 x3 i, 0)] := by
    intro i hi
    rw [← hF]
    exact nums_take k x0 x1 x2 x3 hi
  have hF0 : F 0 = [] := by rw [← hF]; rfl
  have hFm : ((acNums (k, x0, x1, x2, x3)).take m).map numW = F m := by rw [← hF]
  have hFl : ∀ i, i ≤ 4 → (F i).length = i := by
    intro i
    induction i with
    | zero => intro _; rw [hF0]; rfl
    | succ i ih => intro hi; rw [hFt i (by omega), List.length_append, ih (by omega)]; rfl
  rw [hFm]
  have HFT := Lib.hid hFt
  have HFL := Lib.hid hFl
  have HF0 := Lib.hid hF0
  clear h e hs hm hx hxw hW hF hFt hF0 hFm hFl HTK HF
  go_enter Tryd.func53, Tryd.ntmps53
  go_wp2_with fail
  with_reducible refine (H.out _).mono ?_
  rintro e w1 ⟨rfl, hb⟩
  have HI1 := Lib.hid (MaI.start (sh := #[.string s, .int .i64 (m : Nat)]) hb)
  have HW : Hid (∃ W, w1.alloc (.cells #[.string s, .int .i64 (m : Nat)] 104) = W) := ⟨_, rfl⟩
  obtain ⟨c0, c1, c2, c3, c4⟩ := act_cells (box_kept hb).1
  have hl1 := lt_of_block (box_kept hb).1
  have HS : Hid (∃ S, w1.heap.size = S) := ⟨_, rfl⟩
  clear hb
  go_wp2_with fail
  obtain ⟨S, hS⟩ := HS.out
  rw [hS] at HI1 ⊢
  obtain ⟨W, hW⟩ := HW.out
  rw [hW] at HI1 ⊢
  clear hW HW hS HS c0 c1 c2 c3 c4 hl1
  with_reducible refine (HNO.out _).mono ?_
  rintro e w2 ⟨rfl, hb⟩
  have HI2 := Lib.hid (HI1.out.below hb)
  have HB3 := Lib.hid (HI2.out.below ((Below.refl _ w2).alloc (Nat.le_refl _) (.cells #[.int .i64 x0, .int .i64 x1, .int .i64 x2, .int .i64 x3] 120)))
  have HN3 := Lib.hid (heap_alloc_new w2 (.cells #[.int .i64 x0, .int .i64 x1, .int .i64 x2, .int .i64 x3] 120))
  have HW3 : Hid (∃ W3, w2.alloc (.cells #[.int .i64 x0, .int .i64 x1, .int .i64 x2, .int .i64 x3] 120) = W3) := ⟨_, rfl⟩
  have HQ : Hid (∃ Q, w2.heap.size = Q) := ⟨_, rfl⟩
  obtain ⟨d0, d1⟩ := two_cells HI2.out.shp
  have hl2 := lt_of_block HI2.out.shp
  clear hb
  go_wp2_with fail
  obtain ⟨Q, hQ⟩ := HQ.out
  obtain ⟨W3, hW3⟩ := HW3.out
  rw [hW3] at HB3 HN3 ⊢
  rw [hQ] at HN3 ⊢
  clear hQ HQ hW3 HW3 d0 d1 hl2
  with_reducible refine (HNM.out _).mono ?_
  rintro e w4 ⟨rfl, hb⟩
  have HA5 := Lib.hid (AWI.start HB3.out.bel HN3.out hb HX.out)
  have hs4 := (hb.block _ (lt_of_block HB3.out.shp)).trans HB3.out.shp
  obtain ⟨d0, d1⟩ := two_cells hs4
  have hl4 := lt_of_block hs4
  clear hb hs4
  have hm0 : (0 : Int) ≤ m := by omega
  have hm1 : (m : Int) ≤ 4 := by omega
  go_wp2_with fail
  clear d0 d1 hl4
  go_loopw [5, 21] (fun v' i' wr => ∃ (i : Nat) (ws : List Wd), i' = .int .i64 i ∧ i ≤ m ∧ Hid (AWI w wr Q #[.int .i64 x0, .int .i64 x1, .int .i64 x2, .int .i64 x3] v' ws) ∧ Hid (ws = xw :: F i)) (fun _ i' _ => m - (intOf i').toNat)
  case atStart => exact ⟨0, [xw], rfl, Nat.zero_le _, HA5, Lib.hid (by rw [HF0.out])⟩
  case round =>
    obtain ⟨i, ws, rfl, hi, HA, HWS⟩ := hrel
    obtain ⟨av, vcap, hv, _⟩ := ownsRow_shape HA.out.row
    subst hv
    have HLN : Hid (ws.length ≤ 5) := Lib.hid (by rw [HWS.out, List.length_cons, HFL.out i (by omega)]; omega)
    by_cases hlt : i < m
    · have i0' : (0 : Int) ≤ i := by omega
      have i1 : (i : Int) < m := by omega
      have i2 : IntKind.i64.wrap ((i : Int) + 1) = (i : Int) + 1 := by rw [IntKind.wrap_i64]; omega
      have q0 := acell_at HA.out.num (k := i) (by show i < 4; omega)
      have hq : (#[Value.int .i64 x0, .int .i64 x1, .int .i64 x2, .int .i64 x3] : Array Value)[i]'(by show i < 4; omega) = .int .i64 (xN x0 x1 x2 x3 i) := by
        have : i = 0 ∨ i = 1 ∨ i = 2 ∨ i = 3 := by omega
        rcases this with rfl | rfl | rfl | rfl <;> rfl
      rw [hq] at q0
      obtain ⟨xi, hxi⟩ : ∃ xi, xN x0 x1 x2 x3 i = xi := ⟨_, rfl⟩
      rw [hxi] at q0
      have HWS2 : Hid (ws ++ [(2, [], xi, 0)] = xw :: F (i + 1)) := Lib.hid (by rw [HWS.out, HFT.out i (by omega), hxi]; rfl)
      clear hq hxi
      go_wp2_with fail
      with_reducible refine (HPN.out _ _).mono ?_
      rintro r w6 ⟨rfl, hb⟩
      have HA6 := Lib.hid (HA.out.more hb)
      clear hb q0
      go_wp2_with (at_builtin; refine wpList_append_own _ rfl _ _ 31 rfl w.heap.size 74 i0 (.agg #[.int .i64 0, .string ⟨#[]⟩, .int .i64 0, .int .i64 0]) 4 40 Tryd.underlying31 hi0 hz0 hz1 hz2 rfl (by decide) _ _ _ rfl (row_below HA6.out.row ((Below.refl _ _).alloc (Nat.le_refl _) _)) ⟨_, 0, none⟩ 1 1 [.int .i64 2, .string ⟨#[]⟩, .int .i64 xi, .int .i64 0] rfl rfl ?c1 ?c2 ?c3 ?c4 ?c5 ?_)
      case c1 => first | exact word_new _ _ _ _ _ _ | exact word_at (by simp) _ _ _ _ _
      case c2 => exact word_ones _ _ _ _
      case c3 => (have := HLN.out; unfold maxLen; omega)
      case c4 => (have := HLN.out; omega)
      case c5 => exact Nat.le_trans HA6.out.bel.size (by simp)
      intro v7 w7 hown hgrow _
      obtain ⟨ao7, cap7, hv7, _⟩ := ownsRow_shape hown
      subst hv7
      have HA7 := Lib.hid ((HA6.out.more ((Below.refl _ _).alloc (Nat.le_refl _) _)).push (x := (2, [], xi, 0)) hown hgrow)
      clear hown hgrow
      go_wp2
      go_roundw
      case rel => exact ⟨i + 1, _, by go_num, by omega, HA7, HWS2⟩
      case measure => simp [intOf]; omega
    · obtain rfl : i = m := by omega
      have HWE : Hid (ws ++ [semiW] = xw :: (F i ++ [semiW])) := Lib.hid (by rw [HWS.out]; rfl)
      go_wp2_with fail
      with_reducible refine (HMK.out _).mono ?_
      rintro r w8 ⟨rfl, hb⟩
      have HA8 := Lib.hid (HA.out.more hb)
      clear hb
      go_wp2_with (at_builtin; refine wpList_append_own _ rfl _ _ 31 rfl w.heap.size 74 i0 (.agg #[.int .i64 0, .string ⟨#[]⟩, .int .i64 0, .int .i64 0]) 4 40 Tryd.underlying31 hi0 hz0 hz1 hz2 rfl (by decide) _ _ _ rfl (row_below HA8.out.row ((Below.refl _ _).alloc (Nat.le_refl _) _)) ⟨_, 0, none⟩ 1 1 [.int .i64 3, .string ⟨#[59]⟩, .int .i64 0, .int .i64 0] rfl rfl ?c1 ?c2 ?c3 ?c4 ?c5 ?_)
      case c1 => first | exact word_new _ _ _ _ _ _ | exact word_at (by simp) _ _ _ _ _
      case c2 => exact word_ones _ _ _ _
      case c3 => (have := HLN.out; unfold maxLen; omega)
      case c4 => (have := HLN.out; omega)
      case c5 => exact Nat.le_trans HA8.out.bel.size (by simp)
      intro v9 w9 hown hgrow _
      have HA9 := Lib.hid ((HA8.out.more ((Below.refl _ _).alloc (Nat.le_refl _) _)).push (x := semiW) hown hgrow)
      clear hown hgrow
      go_wp2
      go_ret
      refine ⟨_, rfl, ?_, HA9.out.bel⟩
      rw [← HWE.out]
      exact HA9.out.row
end Go.Proofs.YtmcfjlkjijaflaaDoor
