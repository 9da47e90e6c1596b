/-
  The program's Words of setups.
  The program's Print of setups.
-/
import Derived.Test.YtmcfjlkjijaflaaGreatDoorGAT
import Derived.Test.YtmcfjlkjijaflaaGreatDoorSpMay
import Derived.Test.YtmcfjlkjijaflaaGreatDoorPgWords
import Derived.Test.YtmcfjlkjijaflaaGreatDoorGAD

/- The program's Words of setups. -/
namespace Go.Proofs.YtmcfjlkjijaflaaGreatDoor
open Go.RowKit

theorem lock_words (x : Lk) : lnW (lockLn x) = lockW x := by
  obtain ⟨sh, a, b, c, d⟩ := x
  cases sh <;> rfl
theorem lines_words (s : Stp) : (linesR s).flatMap lnW ++ s.2.2.2.2.flatMap wordsR = wordsS s := by
  unfold linesR wordsS
  rw [List.flatMap_append, List.flatMap_append, List.flatMap_map, List.flatMap_map]
  rw [show (fun x => lnW (lockLn x)) = lockW from funext lock_words, show (fun x => lnW (groupLn x)) = groupW from rfl]
  rfl
theorem lnw_len {l : Ln} (h : l.2.length ≤ 4) : (lnW l).length ≤ 10 ∧ 0 < (lnW l).length := by
  have : ∀ M : List Vn, (M.flatMap valW).length ≤ 2 * M.length := fun M => by
    induction M with
    | nil => exact Nat.le_refl _
    | cons x M ih =>
      have := valW_len x
      simp only [List.flatMap_cons, List.length_append, List.length_cons] at ih ⊢
      omega
  have h1 := this l.2
  unfold lnW
  constructor
  · simp only [List.length_cons, List.length_append, List.length_nil]
    omega
  · simp
theorem lines_small {s : Stp} {l : Ln} (h : l ∈ linesR s) : l.2.length ≤ 4 := by
  simp only [linesR, List.mem_append, List.mem_cons, List.not_mem_nil, or_false, List.mem_map] at h
  rcases h with ((rfl | rfl) | ⟨x, _, rfl⟩) | ⟨x, _, rfl⟩
  · simp
  · simp
  · simp [groupLn]
  · obtain ⟨sh, _⟩ := x
    cases sh <;> simp [lockLn, lkN]
/-- What Words answers. -/
def SWordsP (s : Stp) (w : World) (e : Ending) (w' : World) : Prop := if mayS s = true then ∃ v, e = .returned (.tuple #[v, .int .i64 0]) ∧ WRow w.heap.size w' v (wordsS s) ∧ Below w.heap.size w w' else e = .returned (.tuple #[.slice none 0 0, .int .i64 1]) ∧ Below w.heap.size w w'
/-- The words so far. -/
structure SwI (w w1 V : World) (v : Value) (ws : List Wd) : Prop where
  row : WRow w1.heap.size V v ws
  bel : Below w1.heap.size w1 V
theorem SwI.more {w w1 V V' : World} {v : Value} {ws : List Wd} (h : SwI w w1 V v ws) (hb : Below V.heap.size V V') : SwI w w1 V' v ws :=
  ⟨row_below h.row hb, h.bel.trans (hb.mono h.bel.size)⟩
theorem SwI.push {w w1 V w4 : World} {v v' : Value} {ws xs : List Wd} {m : Nat} (h : SwI w w1 V v ws) (hm : xs.length = m) (hown : w4.ownsRow w1.heap.size 72 4 v' (ws.length + m) (wdsC ws ++ wdsC xs)) (hg : V.grownBy w4 v.ownBlock) : SwI w w1 w4 v' (ws ++ xs) := by
  have hb : Below w1.heap.size V w4 := app_below (Below.refl _ _) h.bel.size (Nat.le_refl _) h.row hg
  refine ⟨?_, h.bel.trans hb⟩
  unfold WRow
  rw [List.length_append, hm, wdsC, List.flatMap_append]
  exact hown
set_option maxRecDepth 100000 in
set_option maxHeartbeats 3200000 in
theorem pswords_no (s : Stp) (ag : Option Addr) (bg og cg : Nat) (al : Option Addr) (bl ol cl : Nat) (ap : Option Addr) (bp op cp : Nat) (w : World) (h : SArg w s ag bg og al bl ol ap bp op) (hq : mayS s = false) :
    Calls Tryz.prog 10 #[.agg (stC s.1 s.2.1 ag s.2.2.1.length cg al s.2.2.2.1.length cl ap s.2.2.2.2.length cp)] w (SWordsP s w) := by
  unfold SWordsP
  simp only [hq, Bool.false_eq_true, if_false]
  have HB0 := Lib.hid ((Below.refl w.heap.size w).alloc (Nat.le_refl _) (.cells (stC s.1 s.2.1 ag s.2.2.1.length cg al s.2.2.2.1.length cl ap s.2.2.2.2.length cp) 26))
  have HMY := Lib.hid (psmay_any s ag bg og cg al bl ol cl ap bp op cp _ (h.below HB0.out))
  rw [hq] at HMY
  obtain ⟨c, g, gs, ls, ps⟩ := s
  simp only at HB0 HMY ⊢
  obtain ⟨np, hnp⟩ : ∃ n, ps.length = n := ⟨_, rfl⟩
  obtain ⟨nl, hnl⟩ : ∃ n, ls.length = n := ⟨_, rfl⟩
  obtain ⟨ng, hng⟩ : ∃ n, gs.length = n := ⟨_, rfl⟩
  rw [hnp, hnl, hng] at HB0 HMY
  rw [hnp, hnl, hng]
  clear h hq hnp hnl hng
  go_enter Tryz.func10, Tryz.ntmps10
  go_wp2_with fail
  with_reducible refine HMY.out.mono ?_
  rintro r w1 ⟨rfl, hb⟩
  have HB1 := Lib.hid (HB0.out.trans (hb.mono HB0.out.size))
  clear hb
  go_wp2
  go_ret2
  exact ⟨rfl, HB1.out⟩
set_option maxRecDepth 100000 in
set_option maxHeartbeats 3200000 in
theorem pswords_yes (s : Stp) (ag : Option Addr) (bg og cg : Nat) (al : Option Addr) (bl ol cl : Nat) (ap : Option Addr) (bp op cp : Nat) (w : World) (h : SArg w s ag bg og al bl ol ap bp op) (hq : mayS s = true) :
    Calls Tryz.prog 10 #[.agg (stC s.1 s.2.1 ag s.2.2.1.length cg al s.2.2.2.1.length cl ap s.2.2.2.2.length cp)] w (SWordsP s w) := by
  obtain ⟨i0, hi0, hz0, hz1, hz2⟩ := info_parts word_info
  unfold SWordsP
  simp only [hq, if_true]
  have HB0 := Lib.hid ((Below.refl w.heap.size w).alloc (Nat.le_refl _) (.cells (stC s.1 s.2.1 ag s.2.2.1.length cg al s.2.2.2.1.length cl ap s.2.2.2.2.length cp) 26))
  have HX0 := Lib.hid (heap_alloc_new w (.cells (stC s.1 s.2.1 ag s.2.2.1.length cg al s.2.2.2.1.length cl ap s.2.2.2.2.length cp) 26))
  have HMY := Lib.hid (psmay_any s ag bg og cg al bl ol cl ap bp op cp _ (h.below HB0.out))
  rw [hq] at HMY
  have HSW := Lib.hid (lines_words s)
  obtain ⟨LN, hLN⟩ : ∃ L, linesR s = L := ⟨_, rfl⟩
  have HSM : Hid (∀ l ∈ LN, l.2.length ≤ 4) := Lib.hid (fun l hl => lines_small (s := s) (by rw [hLN]; exact hl))
  have hm := (may_is s).symm.trans hq
  simp only [Bool.and_eq_true, inS, decide_eq_true_eq] at hm
  obtain ⟨⟨m1, m2, m3⟩, -, m4⟩ := hm
  have HPM : Hid (∀ p ∈ s.2.2.2.2, mayR p = true) := Lib.hid (fun p hp => check_may (of_decide_eq_true (List.all_eq_true.1 ((mis_all _ _ _ _).1 m4) p hp)))
  have HLL := Lib.hid (fun V (hV : Below w.heap.size w V) => lines_any s ag bg og cg al bl ol cl ap bp op cp V (h.below hV) (by omega) (by omega))
  have hlnn : LN.length ≤ 14 := by rw [← hLN]; simp [linesR]; omega
  rw [hLN] at HSW HLL
  have HGA := Lib.hid h.ps
  obtain ⟨c, g, gs, ls, ps⟩ := s
  simp only at HB0 HX0 HMY HSW HPM HLL HGA m3 ⊢
  obtain ⟨W, hW⟩ : ∃ W, wordsS (c, g, gs, ls, ps) = W := ⟨_, rfl⟩
  rw [hW] at HSW ⊢
  obtain ⟨np, hnp⟩ : ∃ n, ps.length = n := ⟨_, rfl⟩
  obtain ⟨nl, hnl⟩ : ∃ n, ls.length = n := ⟨_, rfl⟩
  obtain ⟨ng, hng⟩ : ∃ n, gs.length = n := ⟨_, rfl⟩
  have HNP := Lib.hid hnp
  rw [hnp, hnl, hng] at HB0 HX0 HMY HLL
  rw [hnp] at m3
  rw [hnp, hnl, hng]
  have hnp8 : np ≤ 8 := by omega
  clear h hq hnp hnl hng m1 m2 m3 m4 hLN hW
  go_enter Tryz.func10, Tryz.ntmps10
  go_wp2_with fail
  with_reducible refine HMY.out.mono ?_
  rintro r w1 ⟨rfl, hb⟩
  have HB1 := Lib.hid (HB0.out.trans (hb.mono HB0.out.size))
  have HX1 := Lib.hid ((hb.block _ (lt_of_block HX0.out)).trans HX0.out)
  obtain ⟨x0, x1, x2, x3, x4⟩ := st_cells HX1.out
  clear hb
  go_wp2_with fail
  refine (HLL.out _ HB1.out).mono ?_
  rintro r w2 ⟨lb, n, lc, rfl, hn, hla, hb⟩
  have HLA := Lib.hid hla
  have HN := Lib.hid hn
  have HB2 := Lib.hid (HB1.out.trans (hb.mono HB1.out.size))
  have HX2 := Lib.hid ((hb.block _ (lt_of_block HX1.out)).trans HX1.out)
  rw [← hn] at hlnn
  have HW0 : Hid (SwI w w2 w2 (.slice none 0 0) []) := ⟨World.ownsRow_nil _ _ _ _, Below.refl _ _⟩
  clear hn hla hb x0 x1 x2 x3 x4
  go_wp2_with fail
  go_loopw [4, 17] (fun l' i' wr => ∃ (i : Nat) (v : Value) (ws : List Wd), l' = v ∧ i' = .int .i64 (i : Nat) ∧ i ≤ n ∧ ws.length ≤ 10 * i ∧ Hid (SwI w w2 wr v ws) ∧ Hid (ws = (LN.take i).flatMap lnW)) (fun _ i' _ => n - (intOf i').toNat)
  case atStart => exact ⟨0, _, _, rfl, rfl, Nat.zero_le _, by simp, HW0, Lib.hid rfl⟩
  case round =>
    obtain ⟨i, v, ws, rfl, rfl, hi, hwl, HI, HE⟩ := hrel
    obtain ⟨av, cv, hv, _⟩ := ownsRow_shape HI.out.row
    subst hv
    obtain ⟨k, hk⟩ : ∃ k, ws.length = k := ⟨_, rfl⟩
    have HK := Lib.hid hk
    rw [hk] at HI hwl ⊢
    clear hk
    by_cases hlt : i < n
    · have hiL : i < LN.length := by rw [← HN.out]; exact hlt
      have hA := HLA.out.below HI.out.bel
      have hbl := hA.lt
      obtain ⟨nb, nc, y0, y1, hqa⟩ := hA.cells i hiL
      obtain ⟨⟨lf, lm⟩, hx⟩ : ∃ x, LN[i] = x := ⟨_, rfl⟩
      have hs4 := HSM.out _ (List.getElem_mem hiL)
      rw [hx] at y0 y1 hqa hs4
      simp only at y0 y1 hqa hs4
      obtain ⟨hw10, hwp⟩ := lnw_len (l := (lf, lm)) hs4
      have HBA := Lib.hid ((Below.refl wr.heap.size wr).alloc (Nat.le_refl _) (.cells #[.string lf, .slice (some ⟨nb, 0, none⟩) lm.length nc] 58))
      have HLW := Lib.hid (linewords_any lf nb nc lm _ (hqa.below HBA.out) (by omega))
      obtain ⟨m, hm⟩ : ∃ m, lm.length = m := ⟨_, rfl⟩
      rw [hm] at HBA HLW y1
      have HIA := Lib.hid (HI.out.more HBA.out)
      have HEN : Hid ((LN.take (i + 1)).flatMap lnW = ws ++ lnW (lf, lm)) := Lib.hid (by
        rw [HE.out, ← List.take_append_getElem hiL, hx, List.flatMap_append, List.flatMap_singleton])
      have j0 : (0 : Int) ≤ i := by omega
      have j1 : (i : Int) < n := by omega
      have j2 : IntKind.i64.wrap ((i : Int) + 1) = (i : Int) + 1 := by rw [IntKind.wrap_i64]; omega
      obtain ⟨xs, hxs⟩ : ∃ xs, lnW (lf, lm) = xs := ⟨_, rfl⟩
      rw [hxs] at HLW HEN hw10 hwp
      clear hx hA hqa hs4 hm hxs
      go_wp2_with fail
      refine HLW.out.mono ?_
      rintro r w3 ⟨v3, rfl, hrow3, hb⟩
      have HI3 := Lib.hid (HIA.out.more hb)
      obtain ⟨go, co, rfl, _, _⟩ := ownsRow_pos hrow3 hwp
      have HR3 := Lib.hid hrow3
      obtain ⟨m3, hm3⟩ : ∃ m, xs.length = m := ⟨_, rfl⟩
      have HM3 := Lib.hid hm3
      rw [hm3] at hw10 ⊢
      clear hb hrow3 hm3 y0 y1 hwp
      go_wp2_with (at_builtin; refine wpList_append_own _ rfl _ _ 34 rfl w2.heap.size 72 i0 (.agg #[.int .i64 0, .string ⟨#[]⟩, .int .i64 0, .int .i64 0]) 4 40 Tryz.underlying34 hi0 hz0 hz1 hz2 rfl (by decide) _ _ _ rfl HI3.out.row ⟨go, 0, none⟩ m3 co (wdsC xs) rfl ?c0 ?c1 ?c2 ?c3 ?c4 ?c5 ?_)
      case c0 => rw [wdsC_len, HM3.out]
      case c1 => (have h := HR3.out; exact h.cells (g := go) rfl)
      case c2 => exact wdsC_one _
      case c3 => (have := HK.out; unfold maxLen; omega)
      case c4 => (have := HK.out; omega)
      case c5 => exact HI3.out.bel.size
      intro v4 w4 hown hgrow _
      have HI4 := Lib.hid (HI3.out.push HM3.out hown hgrow)
      clear hown hgrow
      obtain ⟨a4, c4, hv4, _⟩ := ownsRow_shape HI4.out.row
      subst hv4
      go_wp2
      go_roundw
      case rel => exact ⟨i + 1, _, ws ++ xs, rfl, by go_num, by omega, by (rw [List.length_append, HK.out, HM3.out]; omega), HI4, Lib.hid HEN.out.symm⟩
      case measure => simp [intOf]; omega
    · obtain rfl : i = n := by omega
      have HFW : Hid (ws = LN.flatMap lnW) := Lib.hid (by rw [HE.out, List.take_of_length_le (by rw [← HN.out]; exact Nat.le_refl _)])
      obtain ⟨x0, x1, x2, x3, x4⟩ := st_cells ((HI.out.bel.block _ (lt_of_block HX2.out)).trans HX2.out)
      have hxl := lt_of_block ((HI.out.bel.block _ (lt_of_block HX2.out)).trans HX2.out)
      have HI0 := HI
      have HK0 := HK
      clear hlt HE
      go_wp2_with fail
      go_loopw [4, 29] (fun l' i' wr => ∃ (j : Nat) (v : Value) (ws : List Wd), l' = v ∧ i' = .int .i64 (j : Nat) ∧ j ≤ np ∧ ws.length ≤ 10 * i + 60 * j ∧ Hid (SwI w w2 wr v ws) ∧ Hid (ws = LN.flatMap lnW ++ (ps.take j).flatMap wordsR)) (fun _ i' _ => np - (intOf i').toNat)
      case atStart => exact ⟨0, _, ws, rfl, rfl, Nat.zero_le _, by rw [HK0.out]; omega, HI0, Lib.hid (by rw [HFW.out]; simp)⟩
      case round =>
        clear x0 x1 x2 x3 x4 hxl
        obtain ⟨j, v, ys, rfl, rfl, hj, hyl, HI, HE⟩ := hrel
        obtain ⟨av, cv, hv, _⟩ := ownsRow_shape HI.out.row
        subst hv
        obtain ⟨k2, hk⟩ : ∃ k, ys.length = k := ⟨_, rfl⟩
        have HK := Lib.hid hk
        rw [hk] at HI hyl ⊢
        clear hk
        by_cases hlt : j < np
        · have hjL : j < ps.length := by rw [HNP.out]; exact hlt
          have hA := HGA.out.below (HB2.out.trans (HI.out.bel.mono HB2.out.size))
          obtain ⟨rfl, hbl⟩ := hA.at_ (by omega)
          obtain ⟨ai, bi, oi, ci, y0, y1, hoa⟩ := hA.cells j hjL
          obtain ⟨⟨f, P⟩, hx⟩ : ∃ x, ps[j] = x := ⟨_, rfl⟩
          have hmp := HPM.out _ (List.getElem_mem hjL)
          rw [hx] at y0 y1 hoa hmp
          simp only at y0 y1 hoa
          have HBA := Lib.hid ((Below.refl wr.heap.size wr).alloc (Nat.le_refl _) (.cells #[.bool f, .slice ai P.length ci] 51))
          have hpw := pwords_any f ai bi oi ci P _ (hoa.below HBA.out)
          unfold WordsQ at hpw
          rw [hmp] at hpw
          simp only [if_pos] at hpw
          have HPW := Lib.hid hpw
          have hw60 := words_len hmp
          have hwp : 0 < (wordsR (f, P)).length := by
            obtain ⟨l, hl⟩ := words_pos (f, P)
            rw [hl]
            simp
          obtain ⟨m, hm⟩ : ∃ m, P.length = m := ⟨_, rfl⟩
          rw [hm] at HBA HPW y1
          have HIA := Lib.hid (HI.out.more HBA.out)
          have HEN : Hid (LN.flatMap lnW ++ (ps.take (j + 1)).flatMap wordsR = ys ++ wordsR (f, P)) := Lib.hid (by
            rw [HE.out, ← List.take_append_getElem hjL, hx, List.flatMap_append, List.flatMap_singleton, List.append_assoc])
          have j0 : (0 : Int) ≤ j := by omega
          have j1 : (j : Int) < np := by omega
          have j2 : IntKind.i64.wrap ((j : Int) + 1) = (j : Int) + 1 := by rw [IntKind.wrap_i64]; omega
          obtain ⟨xs, hxs⟩ : ∃ xs, wordsR (f, P) = xs := ⟨_, rfl⟩
          rw [hxs] at HPW HEN hw60 hwp
          clear hx hA hoa hmp hm hpw hxs
          go_wp2_with fail
          refine HPW.out.mono ?_
          rintro r w3 ⟨v3, rfl, hrow3, hb⟩
          have HI3 := Lib.hid (HIA.out.more hb)
          obtain ⟨go, co, rfl, _, _⟩ := ownsRow_pos hrow3 hwp
          have HR3 := Lib.hid hrow3
          obtain ⟨m3, hm3⟩ : ∃ m, xs.length = m := ⟨_, rfl⟩
          have HM3 := Lib.hid hm3
          rw [hm3] at hw60 ⊢
          clear hb hrow3 hm3 y0 y1 hwp
          go_wp2_with (at_builtin; refine wpList_append_own _ rfl _ _ 34 rfl w2.heap.size 72 i0 (.agg #[.int .i64 0, .string ⟨#[]⟩, .int .i64 0, .int .i64 0]) 4 40 Tryz.underlying34 hi0 hz0 hz1 hz2 rfl (by decide) _ _ _ rfl HI3.out.row ⟨go, 0, none⟩ m3 co (wdsC xs) rfl ?c0 ?c1 ?c2 ?c3 ?c4 ?c5 ?_)
          case c0 => rw [wdsC_len, HM3.out]
          case c1 => (have h := HR3.out; exact h.cells (g := go) rfl)
          case c2 => exact wdsC_one _
          case c3 => (have := HK.out; unfold maxLen; omega)
          case c4 => (have := HK.out; omega)
          case c5 => exact HI3.out.bel.size
          intro v4 w4 hown hgrow _
          have HI4 := Lib.hid (HI3.out.push HM3.out hown hgrow)
          clear hown hgrow
          obtain ⟨a4, c4, hv4, _⟩ := ownsRow_shape HI4.out.row
          subst hv4
          go_wp2
          go_roundw
          case rel => exact ⟨j + 1, _, ys ++ xs, rfl, by go_num, by omega, by (rw [List.length_append, HK.out, HM3.out]; omega), HI4, Lib.hid HEN.out.symm⟩
          case measure => simp [intOf]; omega
        · obtain rfl : j = np := by omega
          have hys : ys = W := by rw [HE.out, List.take_of_length_le (by rw [HNP.out]; exact Nat.le_refl _), HSW.out]
          have HFN : Hid (WRow w.heap.size wr (.slice av k2 cv) W ∧ Below w.heap.size w wr) := Lib.hid (by
            have h := HI.out.row
            rw [hys] at h
            exact ⟨row_base h HB2.out.size, HB2.out.trans (HI.out.bel.mono HB2.out.size)⟩)
          clear hlt hys
          go_wp2
          go_ret2
          exact ⟨_, rfl, HFN.out⟩
theorem pswords_any (s : Stp) (ag : Option Addr) (bg og cg : Nat) (al : Option Addr) (bl ol cl : Nat) (ap : Option Addr) (bp op cp : Nat) (w : World) (h : SArg w s ag bg og al bl ol ap bp op) :
    Calls Tryz.prog 10 #[.agg (stC s.1 s.2.1 ag s.2.2.1.length cg al s.2.2.2.1.length cl ap s.2.2.2.2.length cp)] w (SWordsP s w) := by
  cases hq : mayS s with
  | true => exact pswords_yes s ag bg og cg al bl ol cl ap bp op cp w h hq
  | false => exact pswords_no s ag bg og cg al bl ol cl ap bp op cp w h hq
end Go.Proofs.YtmcfjlkjijaflaaGreatDoor

/- The program's Print of setups. -/
namespace Go.Proofs.YtmcfjlkjijaflaaGreatDoor
open Go.RowKit

def printS (s : Stp) : List By × Int := if mayS s then joinA (wordsS s) else ([], 1)
theorem fieldw_short {nm : List By} {n : Int} (h : nm.length ≤ 40) : ∀ x ∈ fieldW nm n, x.2.1.length ≤ 40 := by
  intro x hx
  simp only [fieldW, List.mem_cons, List.not_mem_nil, or_false] at hx
  rcases hx with rfl | rfl
  · exact h
  · simp
theorem swords_short (s : Stp) : ∀ x ∈ wordsS s, x.2.1.length ≤ 40 := by
  intro x hx
  unfold wordsS at hx
  simp only [List.mem_append, List.mem_flatMap, List.mem_singleton] at hx
  rcases hx with (((((h | rfl) | h | rfl) | ⟨n, _, h⟩) | ⟨k, _, h⟩) | ⟨p, _, h⟩)
  · exact fieldw_short (by decide) x h
  · simp
  · exact fieldw_short (by decide) x h
  · simp
  · simp only [groupW, List.mem_append, List.mem_singleton] at h
    rcases h with h | rfl
    · exact fieldw_short (by decide) x h
    · simp
  · obtain ⟨sh, a, b, c, d⟩ := k
    unfold lockW at h
    simp only [List.mem_cons, List.mem_append, List.not_mem_nil, or_false] at h
    rcases h with rfl | h | h | h | rfl
    · cases sh <;> simp
    · exact fieldw_short (by decide) x h
    · exact fieldw_short (by decide) x h
    · cases sh with
      | true =>
        simp only [if_true, List.mem_append] at h
        rcases h with h | h
        · exact fieldw_short (by decide) x h
        · exact fieldw_short (by decide) x h
      | false => simp at h
    · simp
  · exact words_short p x h
theorem flat_le {α : Type} (f : α → List Wd) (k : Nat) : ∀ L : List α, (∀ x ∈ L, (f x).length ≤ k) → (L.flatMap f).length ≤ k * L.length
  | [], _ => by simp
  | x :: L, h => by
    have h1 := flat_le f k L (fun y hy => h y (by simp [hy]))
    have h2 := h x (by simp)
    simp only [List.flatMap_cons, List.length_append, List.length_cons, Nat.mul_add]
    omega
theorem swords_len {s : Stp} (h : mayS s = true) : (wordsS s).length ≤ 1000 := by
  have hm := (may_is s).symm.trans h
  simp only [Bool.and_eq_true, inS, decide_eq_true_eq] at hm
  obtain ⟨⟨m1, m2, m3⟩, -, m4⟩ := hm
  have hp := flat_le wordsR 60 s.2.2.2.2 (fun p hp => words_len (check_may (of_decide_eq_true (List.all_eq_true.1 ((mis_all _ _ _ _).1 m4) p hp))))
  have hl := flat_le lnW 10 (linesR s) (fun l hl => (lnw_len (lines_small hl)).1)
  have h3 : (linesR s).length ≤ 14 := by simp [linesR]; omega
  rw [← lines_words s, List.length_append]
  omega
set_option maxRecDepth 100000 in
set_option maxHeartbeats 1600000 in
theorem psprint_any (s : Stp) (ag : Option Addr) (bg og cg : Nat) (al : Option Addr) (bl ol cl : Nat) (ap : Option Addr) (bp op cp : Nat) (w : World) (h : SArg w s ag bg og al bl ol ap bp op) (hT : TabOk w) :
    Calls Tryz.prog 8 #[.agg (stC s.1 s.2.1 ag s.2.2.1.length cg al s.2.2.2.1.length cl ap s.2.2.2.2.length cp)] w (PrintP (printS s) w) := by
  have HB0 := Lib.hid ((Below.refl w.heap.size w).alloc (Nat.le_refl _) (.cells (stC s.1 s.2.1 ag s.2.2.1.length cg al s.2.2.2.1.length cl ap s.2.2.2.2.length cp) 26))
  have hw := pswords_any s ag bg og cg al bl ol cl ap bp op cp _ (h.below HB0.out)
  unfold SWordsP at hw
  have HT := Lib.hid hT
  cases hq : mayS s with
  | false =>
    have e : printS s = ([], 1) := by unfold printS; rw [hq]; rfl
    rw [e]
    simp only [hq, Bool.false_eq_true, if_false] at hw
    obtain ⟨c, g, gs, ls, ps⟩ := s
    simp only at HB0 hw ⊢
    obtain ⟨np, hnp⟩ : ∃ n, ps.length = n := ⟨_, rfl⟩
    obtain ⟨nl, hnl⟩ : ∃ n, ls.length = n := ⟨_, rfl⟩
    obtain ⟨ng, hng⟩ : ∃ n, gs.length = n := ⟨_, rfl⟩
    rw [hnp, hnl, hng] at HB0 hw
    rw [hnp, hnl, hng]
    have HW := Lib.hid hw
    clear hw hq e h hT hnp hnl hng
    go_enter Tryz.func8, Tryz.ntmps8
    go_wp2_with fail
    with_reducible refine HW.out.mono ?_
    rintro e w1 ⟨rfl, hb⟩
    have HB := Lib.hid (HB0.out.trans (hb.mono HB0.out.size))
    clear hb
    go_wp2
    go_ret2
    exact ⟨rfl, HB.out⟩
  | true =>
    have e : printS s = joinA (wordsS s) := by unfold printS; rw [hq]; rfl
    rw [e]
    have h60 := swords_len hq
    have hsh := swords_short s
    simp only [hq, if_true] at hw
    obtain ⟨W, hW⟩ : ∃ W, wordsS s = W := ⟨_, rfl⟩
    rw [hW] at h60 hsh hw ⊢
    obtain ⟨c, g, gs, ls, ps⟩ := s
    simp only at HB0 hw ⊢
    obtain ⟨np, hnp⟩ : ∃ n, ps.length = n := ⟨_, rfl⟩
    obtain ⟨nl, hnl⟩ : ∃ n, ls.length = n := ⟨_, rfl⟩
    obtain ⟨ng, hng⟩ : ∃ n, gs.length = n := ⟨_, rfl⟩
    rw [hnp, hnl, hng] at HB0 hw
    rw [hnp, hnl, hng]
    have HW := Lib.hid hw
    have HJ := Lib.hid (fun ao b cap X hX hT => join_long ao b 0 cap W X hX (by omega) hsh hT)
    clear hw hq e h hW hsh h60 hT hnp hnl hng
    go_enter Tryz.func8, Tryz.ntmps8
    go_wp2_with fail
    with_reducible refine HW.out.mono ?_
    rintro e w2 ⟨v, rfl, hrow, hb2⟩
    have HB2 := Lib.hid (HB0.out.trans (hb2.mono HB0.out.size))
    obtain ⟨ao2, b2, cap2, rfl, hwa⟩ := WArg.of_row hrow
    have HWA := Lib.hid hwa
    clear hb2 hrow hwa
    go_wp2_with fail
    with_reducible refine (HJ.out _ _ _ _ HWA.out (HT.out.below HB2.out)).mono ?_
    rintro e w3 ⟨rfl, hb3⟩
    have HB3 := Lib.hid (HB2.out.trans (hb3.mono HB2.out.size))
    clear hb3
    go_wp2
    go_ret2
    exact ⟨rfl, HB3.out⟩
end Go.Proofs.YtmcfjlkjijaflaaGreatDoor
