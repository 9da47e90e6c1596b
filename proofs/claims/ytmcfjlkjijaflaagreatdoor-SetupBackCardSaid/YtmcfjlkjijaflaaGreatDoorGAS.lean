/-
  The law's Small of setups.
  SetupSames, given what is said of the program's Same and of awake.
-/
import Derived.Test.YtmcfjlkjijaflaaGreatDoorRuSame
import Derived.Deep.RegionHeld3

/- The law's Small of setups. -/
namespace Go.Proofs.YtmcfjlkjijaflaaGreatDoor
open Go.RowKit

/-- Up to 12 groups, locks and programs, of up to 20 ops? -/
def smallS (s : Stp) : Bool := decide (s.2.2.1.length ≤ 12) && (decide (s.2.2.2.1.length ≤ 12) && (decide (s.2.2.2.2.length ≤ 12) && s.2.2.2.2.all (fun p => decide (p.2.length ≤ 20))))
theorem smallS_size {s : Stp} (h : smallS s = true) (hs : ∀ p ∈ s.2.2.2.2, ∀ o ∈ p.2, small o.1) : SSize s := by
  simp only [smallS, Bool.and_eq_true, decide_eq_true_eq, List.all_eq_true] at h
  obtain ⟨h1, h2, h3, h4⟩ := h
  exact ⟨by omega, by omega, by omega, fun x hx => ⟨by have := h4 x hx; omega, hs x hx⟩⟩
structure SyX (w W : World) (cs : Array Value) : Prop where
  box : W.heap[w.heap.size]? = some (.cells cs 26 (0, 0))
  bel : Below w.heap.size w W
theorem SyX.below {w W W' : World} {cs : Array Value} (h : SyX w W cs) (hb : Below W.heap.size W W') : SyX w W' cs :=
  ⟨(hb.block _ (lt_of_block h.box)).trans h.box, h.bel.trans (hb.mono h.bel.size)⟩
set_option maxRecDepth 100000 in
set_option maxHeartbeats 3200000 in
theorem ssmall_any (s : Stp) (ag : Option Addr) (bg og cg : Nat) (al : Option Addr) (bl ol cl : Nat) (ap : Option Addr) (bp op cp : Nat) (w : World) (h : SArg w s ag bg og al bl ol ap bp op) :
    Calls Tryz.prog 7 #[.agg (stC s.1 s.2.1 ag s.2.2.1.length cg al s.2.2.2.1.length cl ap s.2.2.2.2.length cp)] w fun e w' => e = .returned (.bool (smallS s)) ∧ Below w.heap.size w w' := by
  obtain ⟨c, g, gs, ls, ps⟩ := s
  have HP := Lib.hid h.ps
  simp only at HP ⊢
  obtain ⟨A, hA⟩ : ∃ A, smallS (c, g, gs, ls, ps) = A := ⟨_, rfl⟩
  rw [hA]
  obtain ⟨ng, hng⟩ : ∃ n, gs.length = n := ⟨_, rfl⟩
  obtain ⟨nl, hnl⟩ : ∃ n, ls.length = n := ⟨_, rfl⟩
  obtain ⟨np, hnp⟩ : ∃ n, ps.length = n := ⟨_, rfl⟩
  have HA : Hid (A = (decide (ng ≤ 12) && (decide (nl ≤ 12) && (decide (np ≤ 12) && ps.all (fun p => decide (p.2.length ≤ 20)))))) := Lib.hid (by rw [← hA, ← hng, ← hnl, ← hnp]; rfl)
  have HNP := Lib.hid hnp
  have HB0 := Lib.hid ((Below.refl _ w).alloc (Nat.le_refl _) (.cells (stC c g ag ng cg al nl cl ap np cp) 26))
  rw [hng, hnl, hnp]
  clear h hA hng hnl hnp
  by_cases h1 : ng ≤ 12
  · have g1 : ¬ (12 : Int) < ng := by omega
    by_cases h2 : nl ≤ 12
    · have g2 : ¬ (12 : Int) < nl := by omega
      by_cases h3 : np ≤ 12
      · have g3 : ¬ (12 : Int) < np := by omega
        have HA1 : Hid (A = ps.all (fun p => decide (p.2.length ≤ 20))) := Lib.hid (by rw [HA.out]; simp [h1, h2, h3])
        obtain ⟨W0, hW0⟩ : ∃ W0, w.alloc (.cells (stC c g ag ng cg al nl cl ap np cp) 26) = W0 := ⟨_, rfl⟩
        have HW0 := Lib.hid hW0
        have HBW := HB0
        rw [hW0] at HBW
        clear hW0
        go_enter Tryz.func7, Tryz.ntmps7
        go_wp2_with fail
        rw [HW0.out]
        go_loopw [24] (fun s wr => ∃ i : Nat, s = .int .i64 (i : Nat) ∧ i ≤ np ∧ Hid (Below w.heap.size w wr) ∧ Hid (∀ j (hj : j < ps.length), j < i → decide ((ps[j]).2.length ≤ 20) = true)) (fun s _ => np - (intOf s).toNat)
        case atStart => exact ⟨0, rfl, Nat.zero_le _, HBW, fun j _ hj => absurd hj (Nat.not_lt_zero _)⟩
        case round =>
          obtain ⟨i, rfl, hi, HB, HO⟩ := hrel
          by_cases hlt : i < np
          · have hiL : i < ps.length := by rw [HNP.out]; exact hlt
            have hA := HP.out.below HB.out
            obtain ⟨rfl, hbl⟩ := hA.at_ (by omega)
            obtain ⟨ai, bi, oi, ci, x0, x1, -⟩ := hA.cells i hiL
            obtain ⟨⟨pf, pl⟩, hx⟩ : ∃ x, ps[i] = x := ⟨_, rfl⟩
            simp only [hx] at x0 x1
            obtain ⟨k, hk⟩ : ∃ k, pl.length = k := ⟨_, rfl⟩
            rw [hk] at x1
            have HX : Hid (decide ((ps[i]).2.length ≤ 20) = decide (k ≤ 20)) := Lib.hid (by rw [hx, ← hk])
            have i0 : (0 : Int) ≤ i := by omega
            have i1 : (i : Int) < np := by omega
            have i2 : IntKind.i64.wrap ((i : Int) + 1) = (i : Int) + 1 := by rw [IntKind.wrap_i64]; omega
            have HB2 := Lib.hid (HB.out.alloc HB.out.size (.cells #[.bool pf, .slice ai k ci] 51))
            clear hA hx hk
            by_cases h20 : k ≤ 20
            · have g20 : ¬ (20 : Int) < k := by omega
              have HO2 : Hid (∀ j (hj : j < ps.length), j < i + 1 → decide ((ps[j]).2.length ≤ 20) = true) := Lib.hid (fun j hj hji => by
                rcases Nat.lt_or_ge j i with h | h
                · exact HO.out j hj h
                · obtain rfl : j = i := by omega
                  rw [HX.out]
                  exact decide_eq_true h20)
              go_wp2
              go_roundw
              case rel => exact ⟨i + 1, by go_num, by omega, HB2, HO2⟩
              case measure => simp [intOf]; omega
            · have g20 : (20 : Int) < k := by omega
              have HE : Hid (A = false) := Lib.hid (by
                rw [HA1.out, List.all_eq_false]
                exact ⟨_, List.getElem_mem hiL, by rw [HX.out]; simpa using h20⟩)
              go_wp2
              go_ret
              exact ⟨congrArg (fun x => Ending.returned (.bool x)) HE.out.symm, HB2.out⟩
          · have HE : Hid (A = true) := Lib.hid (by
              rw [HA1.out, List.all_eq_true]
              intro o ho
              obtain ⟨j, hj, rfl⟩ := List.getElem_of_mem ho
              exact HO.out j hj (by have := HNP.out; omega))
            have ni : ¬ (i : Int) < np := by omega
            go_wp2
            go_ret
            exact ⟨congrArg (fun x => Ending.returned (.bool x)) HE.out.symm, HB.out⟩
      · have g3 : (12 : Int) < np := by omega
        have HE : Hid (A = false) := Lib.hid (by rw [HA.out]; simp [h3])
        go_enter Tryz.func7, Tryz.ntmps7
        go_wp2
        go_ret
        exact ⟨congrArg (fun x => Ending.returned (.bool x)) HE.out.symm, HB0.out⟩
    · have g2 : (12 : Int) < nl := by omega
      have HE : Hid (A = false) := Lib.hid (by rw [HA.out]; simp [h2])
      go_enter Tryz.func7, Tryz.ntmps7
      go_wp2
      go_ret
      exact ⟨congrArg (fun x => Ending.returned (.bool x)) HE.out.symm, HB0.out⟩
  · have g1 : (12 : Int) < ng := by omega
    have HE : Hid (A = false) := Lib.hid (by rw [HA.out]; simp [h1])
    go_enter Tryz.func7, Tryz.ntmps7
    go_wp2
    go_ret
    exact ⟨congrArg (fun x => Ending.returned (.bool x)) HE.out.symm, HB0.out⟩
end Go.Proofs.YtmcfjlkjijaflaaGreatDoor

/- SetupSames, given what is said of the program's Same and of awake. -/
namespace Go.Proofs.YtmcfjlkjijaflaaGreatDoor
open Go.RowKit

abbrev stV (s : Stp) (ag : Option Addr) (cg : Nat) (al : Option Addr) (cl : Nat) (ap : Option Addr) (cp : Nat) : Value := .agg (stC s.1 s.2.1 ag s.2.2.1.length cg al s.2.2.2.1.length cl ap s.2.2.2.2.length cp)
/-- What is said of the program's Same, and of awake. Good: what memory must bear. -/
structure SsSaid where
  Good : World → Prop
  keep : ∀ {w w' : World}, Good w → Below w.heap.size w w' → Good w'
  same : ∀ (s : Stp) (ag : Option Addr) (bg og cg : Nat) (al : Option Addr) (bl ol cl : Nat) (ap : Option Addr) (bp op cp : Nat) (s2 : Stp) (ag2 : Option Addr) (bg2 og2 cg2 : Nat) (al2 : Option Addr) (bl2 ol2 cl2 : Nat) (ap2 : Option Addr) (bp2 op2 cp2 : Nat) (w : World), SArg w s ag bg og al bl ol ap bp op → SArg w s2 ag2 bg2 og2 al2 bl2 ol2 ap2 bp2 op2 → SSize s → SSize s2 → smallS s = true → smallS s2 = true → Good w →
    Calls Tryz.prog 17 #[stV s ag cg al cl ap cp, stV s2 ag2 cg2 al2 cl2 ap2 cp2] w fun e w' => e = .returned (.bool (eqS s s2)) ∧ Below w.heap.size w w'
  awake : ∀ w, Good w → Calls Tryz.prog 6 #[] w fun e w' => e = .returned (.bool true) ∧ Below w.heap.size w w'
theorem Sy2.view {w V : World} {a0 a1 a2 a3 a4 b0 b1 b2 b3 b4 : Value} (h : Sy2 w V #[a0, a1, a2, a3, a4] #[b0, b1, b2, b3, b4]) :
    V.cell? ⟨w.heap.size, 0, none⟩ = some a0 ∧ V.cell? ⟨w.heap.size, 1, none⟩ = some a1 ∧ V.cell? ⟨w.heap.size, 2, none⟩ = some a2 ∧ V.cell? ⟨w.heap.size, 3, none⟩ = some a3 ∧ V.cell? ⟨w.heap.size, 4, none⟩ = some a4 ∧
    V.cell? ⟨w.heap.size + 1, 0, none⟩ = some b0 ∧ V.cell? ⟨w.heap.size + 1, 1, none⟩ = some b1 ∧ V.cell? ⟨w.heap.size + 1, 2, none⟩ = some b2 ∧ V.cell? ⟨w.heap.size + 1, 3, none⟩ = some b3 ∧ V.cell? ⟨w.heap.size + 1, 4, none⟩ = some b4 ∧ Sy2 w V #[a0, a1, a2, a3, a4] #[b0, b1, b2, b3, b4] := by
  obtain ⟨x0, x1, x2, x3, x4⟩ := st_cells h.a
  obtain ⟨y0, y1, y2, y3, y4⟩ := st_cells h.b
  exact ⟨x0, x1, x2, x3, x4, y0, y1, y2, y3, y4, h⟩
theorem eqS_self (s : Stp) : eqS s s = true := (eqS_true s s).2 rfl
set_option maxRecDepth 100000 in
set_option maxHeartbeats 12800000 in
theorem setupsames_walk (S : SsSaid) (s : Stp) (ag : Option Addr) (bg og cg : Nat) (al : Option Addr) (bl ol cl : Nat) (ap : Option Addr) (bp op cp : Nat) (s2 : Stp) (ag2 : Option Addr) (bg2 og2 cg2 : Nat) (al2 : Option Addr) (bl2 ol2 cl2 : Nat) (ap2 : Option Addr) (bp2 op2 cp2 : Nat) (w : World) (h : SArg w s ag bg og al bl ol ap bp op) (h2 : SArg w s2 ag2 bg2 og2 al2 bl2 ol2 ap2 bp2 op2)
    (hs : ∀ p ∈ s.2.2.2.2, ∀ o ∈ p.2, small o.1) (hs2 : ∀ p ∈ s2.2.2.2.2, ∀ o ∈ p.2, small o.1) (hg : S.Good w) :
    Calls Tryz.prog 5 #[stV s ag cg al cl ap cp, stV s2 ag2 cg2 al2 cl2 ap2 cp2] w fun e w' => e = .returned (.bool true) ∧ Below w.heap.size w w' := by
  obtain ⟨a0, a1, a2, a3, a4, ha⟩ : ∃ a0 a1 a2 a3 a4 : Value, (stC s.1 s.2.1 ag s.2.2.1.length cg al s.2.2.2.1.length cl ap s.2.2.2.2.length cp) = #[a0, a1, a2, a3, a4] := ⟨_, _, _, _, _, rfl⟩
  obtain ⟨b0, b1, b2, b3, b4, hb⟩ : ∃ a0 a1 a2 a3 a4 : Value, (stC s2.1 s2.2.1 ag2 s2.2.2.1.length cg2 al2 s2.2.2.2.1.length cl2 ap2 s2.2.2.2.2.length cp2) = #[a0, a1, a2, a3, a4] := ⟨_, _, _, _, _, rfl⟩
  have hv : stV s ag cg al cl ap cp = .agg #[a0, a1, a2, a3, a4] := congrArg Value.agg ha
  have hv2 : stV s2 ag2 cg2 al2 cl2 ap2 cp2 = .agg #[b0, b1, b2, b3, b4] := congrArg Value.agg hb
  have HAW := Lib.hid (fun V (hV : Sy2 w V #[a0, a1, a2, a3, a4] #[b0, b1, b2, b3, b4]) => (S.awake V (S.keep hg hV.bel)).mono fun e w' h => (⟨h.1, hV.below h.2⟩ : e = .returned (.bool true) ∧ Sy2 w w' #[a0, a1, a2, a3, a4] #[b0, b1, b2, b3, b4]))
  have hsa : ∀ V, Sy2 w V #[a0, a1, a2, a3, a4] #[b0, b1, b2, b3, b4] → Calls Tryz.prog 7 #[.agg #[a0, a1, a2, a3, a4]] V fun e w' => e = .returned (.bool (smallS s)) ∧ Sy2 w w' #[a0, a1, a2, a3, a4] #[b0, b1, b2, b3, b4] := fun V hV => by
    have hx := ssmall_any s ag bg og cg al bl ol cl ap bp op cp V (h.below hV.bel)
    rw [ha] at hx
    exact hx.mono fun e w' h => ⟨h.1, hV.below h.2⟩
  have hsb : ∀ V, Sy2 w V #[a0, a1, a2, a3, a4] #[b0, b1, b2, b3, b4] → Calls Tryz.prog 7 #[.agg #[b0, b1, b2, b3, b4]] V fun e w' => e = .returned (.bool (smallS s2)) ∧ Sy2 w w' #[a0, a1, a2, a3, a4] #[b0, b1, b2, b3, b4] := fun V hV => by
    have hx := ssmall_any s2 ag2 bg2 og2 cg2 al2 bl2 ol2 cl2 ap2 bp2 op2 cp2 V (h2.below hV.bel)
    rw [hb] at hx
    exact hx.mono fun e w' h => ⟨h.1, hV.below h.2⟩
  have HY0 := Lib.hid (sy2_start w #[a0, a1, a2, a3, a4] #[b0, b1, b2, b3, b4])
  rw [hv, hv2]
  cases qa : smallS s with
  | false =>
    simp only [qa] at hsa
    have HSA := Lib.hid hsa
    clear hsa hsb ha hb hv hv2 h h2 hs hs2 hg qa
    go_enter Tryz.func5, Tryz.ntmps5
    go_wp2_with fail
    with_reducible refine (HAW.out _ HY0.out).mono ?_
    rintro e w1 ⟨rfl, k1⟩
    obtain ⟨c0, c1, c2, c3, c4, d0, d1, d2, d3, d4, ck⟩ := k1.view
    have HK1 := Lib.hid k1
    clear k1 ck
    go_wp2_with fail
    with_reducible refine (HSA.out _ HK1.out).mono ?_
    rintro e w2 ⟨rfl, k2⟩
    have HK2 := Lib.hid k2
    clear k2
    go_wp2
    go_ret
    exact ⟨rfl, HK2.out.bel⟩
  | true =>
    cases qb : smallS s2 with
    | false =>
      simp only [qa] at hsa
      simp only [qb] at hsb
      have HSA := Lib.hid hsa
      have HSB := Lib.hid hsb
      clear hsa hsb ha hb hv hv2 h h2 hs hs2 hg qa qb
      go_enter Tryz.func5, Tryz.ntmps5
      go_wp2_with fail
      with_reducible refine (HAW.out _ HY0.out).mono ?_
      rintro e w1 ⟨rfl, k1⟩
      obtain ⟨c0, c1, c2, c3, c4, d0, d1, d2, d3, d4, ck⟩ := k1.view
      have HK1 := Lib.hid k1
      clear k1 ck
      go_wp2_with fail
      with_reducible refine (HSA.out _ HK1.out).mono ?_
      rintro e w2 ⟨rfl, k2⟩
      have HK2 := Lib.hid k2
      clear c0 c1 c2 c3 c4 d0 d1 d2 d3 d4
      obtain ⟨c0, c1, c2, c3, c4, d0, d1, d2, d3, d4, ck⟩ := k2.view
      clear k2 ck
      go_wp2_with fail
      with_reducible refine (HSB.out _ HK2.out).mono ?_
      rintro e w3 ⟨rfl, k3⟩
      have HK3 := Lib.hid k3
      clear k3
      go_wp2
      go_ret
      exact ⟨rfl, HK3.out.bel⟩
    | true =>
      have hz := smallS_size qa hs
      have hz2 := smallS_size qb hs2
      obtain ⟨r, hr⟩ : ∃ r, eqS s s2 = r := ⟨_, rfl⟩
      have hps : ∀ V, Sy2 w V #[a0, a1, a2, a3, a4] #[b0, b1, b2, b3, b4] → Calls Tryz.prog 17 #[.agg #[a0, a1, a2, a3, a4], .agg #[b0, b1, b2, b3, b4]] V fun e w' => e = .returned (.bool r) ∧ Sy2 w w' #[a0, a1, a2, a3, a4] #[b0, b1, b2, b3, b4] := fun V hV => by
        have hx := S.same s ag bg og cg al bl ol cl ap bp op cp s2 ag2 bg2 og2 cg2 al2 bl2 ol2 cl2 ap2 bp2 op2 cp2 V (h.below hV.bel) (h2.below hV.bel) hz hz2 qa qb (S.keep hg hV.bel)
        rw [hv, hv2, hr] at hx
        exact hx.mono fun e w' h => ⟨h.1, hV.below h.2⟩
      have hpb : ∀ V, Sy2 w V #[a0, a1, a2, a3, a4] #[b0, b1, b2, b3, b4] → Calls Tryz.prog 17 #[.agg #[b0, b1, b2, b3, b4], .agg #[b0, b1, b2, b3, b4]] V fun e w' => e = .returned (.bool true) ∧ Sy2 w w' #[a0, a1, a2, a3, a4] #[b0, b1, b2, b3, b4] := fun V hV => by
        have hx := S.same s2 ag2 bg2 og2 cg2 al2 bl2 ol2 cl2 ap2 bp2 op2 cp2 s2 ag2 bg2 og2 cg2 al2 bl2 ol2 cl2 ap2 bp2 op2 cp2 V (h2.below hV.bel) (h2.below hV.bel) hz2 hz2 qb qb (S.keep hg hV.bel)
        rw [hv2, eqS_self] at hx
        exact hx.mono fun e w' h => ⟨h.1, hV.below h.2⟩
      have hrs : ∀ V, Sy2 w V #[a0, a1, a2, a3, a4] #[b0, b1, b2, b3, b4] → Calls Tryz.prog 16 #[.agg #[a0, a1, a2, a3, a4], .agg #[b0, b1, b2, b3, b4]] V fun e w' => e = .returned (.bool r) ∧ Sy2 w w' #[a0, a1, a2, a3, a4] #[b0, b1, b2, b3, b4] := fun V hV => by
        have hx := rssame_any s ag bg og cg al bl ol cl ap bp op cp s2 ag2 bg2 og2 cg2 al2 bl2 ol2 cl2 ap2 bp2 op2 cp2 V (h.below hV.bel) (h2.below hV.bel) hz hz2
        rw [ha, hb, hr] at hx
        exact hx.mono fun e w' h => ⟨h.1, hV.below h.2⟩
      have hrr : (r == r) = true := by simp
      simp only [qa] at hsa
      simp only [qb] at hsb
      have HSA := Lib.hid hsa
      have HSB := Lib.hid hsb
      have HPS := Lib.hid hps
      have HPB := Lib.hid hpb
      have HRS := Lib.hid hrs
      clear hsa hsb hps hpb hrs ha hb hv hv2 h h2 hs hs2 hg hz hz2 hr qa qb
      go_enter Tryz.func5, Tryz.ntmps5
      go_wp2_with fail
      with_reducible refine (HAW.out _ HY0.out).mono ?_
      rintro e w1 ⟨rfl, k1⟩
      obtain ⟨c0, c1, c2, c3, c4, d0, d1, d2, d3, d4, ck⟩ := k1.view
      have HK1 := Lib.hid k1
      clear k1 ck
      go_wp2_with fail
      with_reducible refine (HSA.out _ HK1.out).mono ?_
      rintro e w2 ⟨rfl, k2⟩
      have HK2 := Lib.hid k2
      clear c0 c1 c2 c3 c4 d0 d1 d2 d3 d4
      obtain ⟨c0, c1, c2, c3, c4, d0, d1, d2, d3, d4, ck⟩ := k2.view
      clear k2 ck
      go_wp2_with fail
      with_reducible refine (HSB.out _ HK2.out).mono ?_
      rintro e w3 ⟨rfl, k3⟩
      have HK3 := Lib.hid k3
      clear c0 c1 c2 c3 c4 d0 d1 d2 d3 d4
      obtain ⟨c0, c1, c2, c3, c4, d0, d1, d2, d3, d4, ck⟩ := (k3.below ((Below.refl _ w3).drew)).view
      clear k3
      go_wp2_with fail
      go_region_held3 (fun V => V.cell? ⟨w.heap.size, 0, none⟩ = some a0 ∧ V.cell? ⟨w.heap.size, 1, none⟩ = some a1 ∧ V.cell? ⟨w.heap.size, 2, none⟩ = some a2 ∧ V.cell? ⟨w.heap.size, 3, none⟩ = some a3 ∧ V.cell? ⟨w.heap.size, 4, none⟩ = some a4 ∧ V.cell? ⟨w.heap.size + 1, 0, none⟩ = some b0 ∧ V.cell? ⟨w.heap.size + 1, 1, none⟩ = some b1 ∧ V.cell? ⟨w.heap.size + 1, 2, none⟩ = some b2 ∧ V.cell? ⟨w.heap.size + 1, 3, none⟩ = some b3 ∧ V.cell? ⟨w.heap.size + 1, 4, none⟩ = some b4 ∧ Sy2 w V #[a0, a1, a2, a3, a4] #[b0, b1, b2, b3, b4])
        (first | exact ⟨c0, c1, c2, c3, c4, d0, d1, d2, d3, d4, ck⟩)
        (first
          | (go_at_call 17; with_reducible refine (HPS.out _ ck).mono ?_; rintro e w' ⟨rfl, kk⟩; obtain ⟨c0, c1, c2, c3, c4, d0, d1, d2, d3, d4, ck⟩ := kk.view)
          | (go_at_call 17; with_reducible refine (HPB.out _ ck).mono ?_; rintro e w' ⟨rfl, kk⟩; obtain ⟨c0, c1, c2, c3, c4, d0, d1, d2, d3, d4, ck⟩ := kk.view)
          | (go_at_call 16; with_reducible refine (HRS.out _ ck).mono ?_; rintro e w' ⟨rfl, kk⟩; obtain ⟨c0, c1, c2, c3, c4, d0, d1, d2, d3, d4, ck⟩ := kk.view))
      all_goals (go_wp2; go_ret; exact ⟨by simp, ck.bel⟩)
end Go.Proofs.YtmcfjlkjijaflaaGreatDoor
