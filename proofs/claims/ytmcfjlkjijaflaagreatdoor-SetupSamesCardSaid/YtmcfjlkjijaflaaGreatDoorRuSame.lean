/-
  The document's Same of setups. (Made by gen_rsame.py.)
-/
import Derived.Test.YtmcfjlkjijaflaaGreatDoorGAP
import Derived.Test.YtmcfjlkjijaflaaGreatDoorGAF
import Derived.Deep.RegionHeld3
namespace Go.Proofs.YtmcfjlkjijaflaaGreatDoor
open Go.RowKit

def eqS (a b : Stp) : Bool := decide (a.1 = b.1) && (decide (a.2.1 = b.2.1) && (decide (a.2.2.1 = b.2.2.1) && (decide (a.2.2.2.1 = b.2.2.2.1) && decide (a.2.2.2.2 = b.2.2.2.2))))
theorem eqS_true (a b : Stp) : eqS a b = true ↔ a = b := by
  obtain ⟨a1, a2, a3, a4, a5⟩ := a
  obtain ⟨b1, b2, b3, b4, b5⟩ := b
  simp [eqS]
theorem eqS_false (a b : Stp) : eqS a b = false ↔ ¬ a = b := by
  rw [← eqS_true]
  simp
/-- Two setups' boxes. -/
structure Sy2 (w W : World) (cs ds : Array Value) : Prop where
  a : W.heap[w.heap.size]? = some (.cells cs 26 (0, 0))
  b : W.heap[w.heap.size + 1]? = some (.cells ds 26 (0, 0))
  bel : Below w.heap.size w W
theorem Sy2.below {w W W' : World} {cs ds : Array Value} (h : Sy2 w W cs ds) (hb : Below W.heap.size W W') : Sy2 w W' cs ds :=
  ⟨(hb.block _ (lt_of_block h.a)).trans h.a, (hb.block _ (lt_of_block h.b)).trans h.b, h.bel.trans (hb.mono h.bel.size)⟩
theorem sy2_start (w : World) (cs ds : Array Value) : Sy2 w ((w.alloc (.cells cs 26)).alloc (.cells ds 26)) cs ds := by
  have h1 := heap_alloc_new w (.cells cs 26)
  have h2 := heap_alloc_new (w.alloc (.cells cs 26)) (.cells ds 26)
  rw [World.size_alloc] at h2
  exact ⟨(Below.heap_alloc _ _ _ (by simp)).trans h1, h2, ((Below.refl _ w).alloc (Nat.le_refl _) _).alloc (by simp) _⟩
theorem list_same {α : Type} {A B : List α} {n : Nat} (hA : A.length = n) (hB : B.length = n) (h : ∀ j (h1 : j < A.length) (h2 : j < B.length), j < n → A[j] = B[j]) : A = B :=
  List.ext_getElem (by omega) (fun i h1 h2 => h i h1 h2 (by omega))
theorem list_other {α : Type} {A B : List α} {i : Nat} (h1 : i < A.length) (h2 : i < B.length) (h : A[i] ≠ B[i]) : A ≠ B := by
  rintro rfl
  exact h rfl
set_option maxRecDepth 100000 in
set_option maxHeartbeats 12800000 in
theorem rssame_any (s : Stp) (ag : Option Addr) (bg og cg : Nat) (al : Option Addr) (bl ol cl : Nat) (ap : Option Addr) (bp op cp : Nat) (s2 : Stp) (ag2 : Option Addr) (bg2 og2 cg2 : Nat) (al2 : Option Addr) (bl2 ol2 cl2 : Nat) (ap2 : Option Addr) (bp2 op2 cp2 : Nat) (w : World) (h : SArg w s ag bg og al bl ol ap bp op) (h2 : SArg w s2 ag2 bg2 og2 al2 bl2 ol2 ap2 bp2 op2) (hz : SSize s) (hz2 : SSize s2) :
    Calls Tryz.prog 16 #[.agg (stC s.1 s.2.1 ag s.2.2.1.length cg al s.2.2.2.1.length cl ap s.2.2.2.2.length cp), .agg (stC s2.1 s2.2.1 ag2 s2.2.2.1.length cg2 al2 s2.2.2.2.1.length cl2 ap2 s2.2.2.2.2.length cp2)] w fun e w' => e = .returned (.bool (eqS s s2)) ∧ Below w.heap.size w w' := by
  obtain ⟨c, g, gs, ls, ps⟩ := s
  obtain ⟨c2, g2, gs2, ls2, ps2⟩ := s2
  have HG := Lib.hid h.gs
  have HL := Lib.hid h.ls
  have HP := Lib.hid h.ps
  have HG2 := Lib.hid h2.gs
  have HL2 := Lib.hid h2.ls
  have HP2 := Lib.hid h2.ps
  have zg := hz.g
  have zl := hz.l
  have zp := hz.p
  simp only at HG HL HP HG2 HL2 HP2 zg zl zp ⊢
  have HCK := Lib.hid (fun V i (hi : i < ps.length) (hi2 : i < ps2.length) (ai : Option Addr) (bi oi ci : Nat) (aj : Option Addr) (bj oj cj : Nat) (ho : OArg V ai bi oi (ps[i]).2) (ho2 : OArg V aj bj oj (ps2[i]).2) => rsame_any (ps[i]).1 (ps2[i]).1 ai aj bi oi bj oj ci cj (ps[i]).2 (ps2[i]).2 V ho ho2 (hz.ops _ (List.getElem_mem hi)).1 (hz2.ops _ (List.getElem_mem hi2)).1)
  obtain ⟨ng, hng⟩ : ∃ n, gs.length = n := ⟨_, rfl⟩
  obtain ⟨nl, hnl⟩ : ∃ n, ls.length = n := ⟨_, rfl⟩
  obtain ⟨np, hnp⟩ : ∃ n, ps.length = n := ⟨_, rfl⟩
  obtain ⟨ng2, hng2⟩ : ∃ n, gs2.length = n := ⟨_, rfl⟩
  obtain ⟨nl2, hnl2⟩ : ∃ n, ls2.length = n := ⟨_, rfl⟩
  obtain ⟨np2, hnp2⟩ : ∃ n, ps2.length = n := ⟨_, rfl⟩
  obtain ⟨A, hA⟩ : ∃ A, eqS (c, g, gs, ls, ps) (c2, g2, gs2, ls2, ps2) = A := ⟨_, rfl⟩
  rw [hA]
  have HA := Lib.hid hA
  have HNG := Lib.hid hng
  have HNL := Lib.hid hnl
  have HNP := Lib.hid hnp
  have HNG2 := Lib.hid hng2
  have HNL2 := Lib.hid hnl2
  have HNP2 := Lib.hid hnp2
  rw [hng] at zg ⊢
  rw [hnl] at zl ⊢
  rw [hnp] at zp ⊢
  rw [hng2, hnl2, hnp2]
  have HY0 := Lib.hid (sy2_start w (stC c g ag ng cg al nl cl ap np cp) (stC c2 g2 ag2 ng2 cg2 al2 nl2 cl2 ap2 np2 cp2))
  clear h h2 hz hz2 hA hng hnl hnp hng2 hnl2 hnp2
  by_cases ec : c = c2
  · subst ec
    by_cases eg : g = g2
    · subst eg
      by_cases eng : ng = ng2
      · subst eng
        by_cases enl : nl = nl2
        · subst enl
          by_cases enp : np = np2
          · subst enp
            obtain ⟨W0, hW0⟩ : ∃ W0, (w.alloc (.cells (stC c g ag ng cg al nl cl ap np cp) 26)).alloc (.cells (stC c g ag2 ng cg2 al2 nl cl2 ap2 np cp2) 26) = W0 := ⟨_, rfl⟩
            have HY : Hid (Sy2 w W0 (stC c g ag ng cg al nl cl ap np cp) (stC c g ag2 ng cg2 al2 nl cl2 ap2 np cp2)) := Lib.hid (by
              rw [← hW0]
              exact HY0.out)
            have HW0 := Lib.hid hW0
            clear hW0
            go_enter Tryz.func16, Tryz.ntmps16
            go_wp2_with fail
            rw [HW0.out]
            go_loopw [5] (fun s wr => ∃ i : Nat, s = .int .i64 (i : Nat) ∧ i ≤ ng ∧ Hid (Sy2 w wr (stC c g ag ng cg al nl cl ap np cp) (stC c g ag2 ng cg2 al2 nl cl2 ap2 np cp2)) ∧ Hid (∀ j (h1 : j < gs.length) (h2 : j < gs2.length), j < i → gs[j] = gs2[j])) (fun s _ => ng - (intOf s).toNat)
            case atStart => exact ⟨0, rfl, Nat.zero_le _, HY, fun j _ _ hj => absurd hj (Nat.not_lt_zero _)⟩
            case round =>
              obtain ⟨i, rfl, hi, HM, HO⟩ := hrel
              obtain ⟨c0, c1, c2, c3, c4⟩ := st_cells HM.out.a
              obtain ⟨d0, d1, d2, d3, d4⟩ := st_cells HM.out.b
              by_cases hlt : i < ng
              · have hiL : i < gs.length := by rw [HNG.out]; exact hlt
                have hiL2 : i < gs2.length := by rw [HNG2.out]; exact hlt
                have hA := HG.out.below HM.out.bel
                have hB := HG2.out.below HM.out.bel
                obtain ⟨rfl, hbl⟩ := hA.at_ (by omega)
                obtain ⟨rfl, hbl2⟩ := hB.at_ (by omega)
                have x0 := hA.cells i hiL
                have y0 := hB.cells i hiL2
                have i0 : (0 : Int) ≤ i := by omega
                have i1 : (i : Int) < ng := by omega
                have i2 : IntKind.i64.wrap ((i : Int) + 1) = (i : Int) + 1 := by rw [IntKind.wrap_i64]; omega
                obtain ⟨x, hx⟩ : ∃ x, gs[i] = x := ⟨_, rfl⟩
                obtain ⟨y, hy⟩ : ∃ x, gs2[i] = x := ⟨_, rfl⟩
                rw [hx] at x0
                rw [hy] at y0
                have HX := Lib.hid hx
                have HYY := Lib.hid hy
                clear hA hB hx hy
                by_cases he : x = y
                · subst he
                  have HO2 : Hid (∀ j (h1 : j < gs.length) (h2 : j < gs2.length), j < i + 1 → gs[j] = gs2[j]) := Lib.hid (fun j h1 h2 hji => by
                    rcases Nat.lt_or_ge j i with h | h
                    · exact HO.out j h1 h2 h
                    · obtain rfl : j = i := by omega
                      rw [HX.out, HYY.out])
                  go_wp2_with fail
                  go_quiet (fail)
                  go_wp2
                  go_roundw
                  case rel => exact ⟨i + 1, by go_num, by omega, Lib.hid (HM.out.below (below_drewN (Below.refl _ _) _)), HO2⟩
                  case measure => simp [intOf]; omega
                · have f1 : (x == y) = false := by simpa using he
                  have f2 : (x != y) = true := by simpa using he
                  have HE : Hid (A = false) := Lib.hid (HA.out.symm.trans (by
                    rw [eqS_false]
                    intro h
                    simp only [Prod.mk.injEq] at h
                    exact list_other hiL hiL2 (by rw [HX.out, HYY.out]; exact he) h.2.2.1))
                  go_wp2_with fail
                  go_quiet (fail)
                  go_wp2
                  go_ret
                  exact ⟨congrArg (fun x => Ending.returned (.bool x)) HE.out.symm, below_drewN HM.out.bel _⟩
              · have HEG : Hid (gs = gs2) := Lib.hid (list_same HNG.out HNG2.out (fun j h1 h2 hj => HO.out j h1 h2 (by omega)))
                have ni : ¬ (i : Int) < ng := by omega
                go_wp2_with fail
                go_loopw [6] (fun s wr => ∃ i : Nat, s = .int .i64 (i : Nat) ∧ i ≤ nl ∧ Hid (Sy2 w wr (stC c g ag ng cg al nl cl ap np cp) (stC c g ag2 ng cg2 al2 nl cl2 ap2 np cp2)) ∧ Hid (∀ j (h1 : j < ls.length) (h2 : j < ls2.length), j < i → ls[j] = ls2[j])) (fun s _ => nl - (intOf s).toNat)
                case atStart => exact ⟨0, rfl, Nat.zero_le _, HM, fun j _ _ hj => absurd hj (Nat.not_lt_zero _)⟩
                case round =>
                  clear c0 c1 c2 c3 c4 d0 d1 d2 d3 d4 hlt ni HM HO
                  obtain ⟨i, rfl, hi, HM, HO⟩ := hrel
                  obtain ⟨c0, c1, c2, c3, c4⟩ := st_cells HM.out.a
                  obtain ⟨d0, d1, d2, d3, d4⟩ := st_cells HM.out.b
                  by_cases hlt : i < nl
                  · have hiL : i < ls.length := by rw [HNL.out]; exact hlt
                    have hiL2 : i < ls2.length := by rw [HNL2.out]; exact hlt
                    have hA := HL.out.below HM.out.bel
                    have hB := HL2.out.below HM.out.bel
                    obtain ⟨rfl, hbl⟩ := hA.at_ (by omega)
                    obtain ⟨rfl, hbl2⟩ := hB.at_ (by omega)
                    obtain ⟨x0, x1, x2, x3, x4⟩ := hA.cells i hiL
                    obtain ⟨y0, y1, y2, y3, y4⟩ := hB.cells i hiL2
                    have i0 : (0 : Int) ≤ i := by omega
                    have i1 : (i : Int) < nl := by omega
                    have i2 : IntKind.i64.wrap ((i : Int) + 1) = (i : Int) + 1 := by rw [IntKind.wrap_i64]; omega
                    obtain ⟨⟨u0, u1, u2, u3, u4⟩, hx⟩ : ∃ x, ls[i] = x := ⟨_, rfl⟩
                    obtain ⟨⟨v0, v1, v2, v3, v4⟩, hy⟩ : ∃ x, ls2[i] = x := ⟨_, rfl⟩
                    rw [hx] at x0 x1 x2 x3 x4
                    rw [hy] at y0 y1 y2 y3 y4
                    simp only at x0 x1 x2 x3 x4 y0 y1 y2 y3 y4
                    have HX := Lib.hid hx
                    have HYY := Lib.hid hy
                    have HNE : Hid (¬ ((u0, u1, u2, u3, u4) : Lk) = (v0, v1, v2, v3, v4) → A = false) := Lib.hid (fun he => HA.out.symm.trans (by
                      rw [eqS_false]
                      intro h
                      simp only [Prod.mk.injEq] at h
                      exact list_other hiL hiL2 (by rw [HX.out, HYY.out]; exact he) h.2.2.2.1))
                    clear hA hB hx hy
                    by_cases e0 : u0 = v0
                    · subst e0
                      by_cases e1 : u1 = v1
                      · subst e1
                        by_cases e2 : u2 = v2
                        · subst e2
                          by_cases e3 : u3 = v3
                          · subst e3
                            by_cases e4 : u4 = v4
                            · subst e4
                              have HO2 : Hid (∀ j (h1 : j < ls.length) (h2 : j < ls2.length), j < i + 1 → ls[j] = ls2[j]) := Lib.hid (fun j h1 h2 hji => by
                                rcases Nat.lt_or_ge j i with h | h
                                · exact HO.out j h1 h2 h
                                · obtain rfl : j = i := by omega
                                  rw [HX.out, HYY.out])
                              go_wp2_with fail
                              go_quiet (fail)
                              go_wp2
                              go_roundw
                              case rel => exact ⟨i + 1, by go_num, by omega, Lib.hid (HM.out.below (below_drewN (Below.refl _ _) _)), HO2⟩
                              case measure => simp [intOf]; omega
                            · have f1 : (u4 == v4) = false := by simpa using e4
                              have HE := Lib.hid (HNE.out (by simp [e4]))
                              go_wp2_with fail
                              go_quiet (fail)
                              go_wp2
                              go_ret
                              exact ⟨congrArg (fun x => Ending.returned (.bool x)) HE.out.symm, below_drewN HM.out.bel _⟩
                          · have f1 : (u3 == v3) = false := by simpa using e3
                            have HE := Lib.hid (HNE.out (by simp [e3]))
                            go_wp2_with fail
                            go_quiet (fail)
                            go_wp2
                            go_ret
                            exact ⟨congrArg (fun x => Ending.returned (.bool x)) HE.out.symm, below_drewN HM.out.bel _⟩
                        · have f1 : (u2 == v2) = false := by simpa using e2
                          have HE := Lib.hid (HNE.out (by simp [e2]))
                          go_wp2_with fail
                          go_quiet (fail)
                          go_wp2
                          go_ret
                          exact ⟨congrArg (fun x => Ending.returned (.bool x)) HE.out.symm, below_drewN HM.out.bel _⟩
                      · have f1 : (u1 == v1) = false := by simpa using e1
                        have HE := Lib.hid (HNE.out (by simp [e1]))
                        go_wp2_with fail
                        go_quiet (fail)
                        go_wp2
                        go_ret
                        exact ⟨congrArg (fun x => Ending.returned (.bool x)) HE.out.symm, below_drewN HM.out.bel _⟩
                    · have f1 : (u0 == v0) = false := by simpa using e0
                      have HE := Lib.hid (HNE.out (by simp [e0]))
                      go_wp2_with fail
                      go_quiet (fail)
                      go_wp2
                      go_ret
                      exact ⟨congrArg (fun x => Ending.returned (.bool x)) HE.out.symm, below_drewN HM.out.bel _⟩
                  · have HEL : Hid (ls = ls2) := Lib.hid (list_same HNL.out HNL2.out (fun j h1 h2 hj => HO.out j h1 h2 (by omega)))
                    have ni : ¬ (i : Int) < nl := by omega
                    go_wp2_with fail
                    go_loopw [7] (fun s wr => ∃ i : Nat, s = .int .i64 (i : Nat) ∧ i ≤ np ∧ Hid (Sy2 w wr (stC c g ag ng cg al nl cl ap np cp) (stC c g ag2 ng cg2 al2 nl cl2 ap2 np cp2)) ∧ Hid (∀ j (h1 : j < ps.length) (h2 : j < ps2.length), j < i → ps[j] = ps2[j])) (fun s _ => np - (intOf s).toNat)
                    case atStart => exact ⟨0, rfl, Nat.zero_le _, HM, fun j _ _ hj => absurd hj (Nat.not_lt_zero _)⟩
                    case round =>
                      clear c0 c1 c2 c3 c4 d0 d1 d2 d3 d4 hlt ni HM HO
                      obtain ⟨i, rfl, hi, HM, HO⟩ := hrel
                      by_cases hlt : i < np
                      · obtain ⟨c0, c1, c2, c3, c4⟩ := st_cells HM.out.a
                        obtain ⟨d0, d1, d2, d3, d4⟩ := st_cells HM.out.b
                        have hiL : i < ps.length := by rw [HNP.out]; exact hlt
                        have hiL2 : i < ps2.length := by rw [HNP2.out]; exact hlt
                        have HB1 := Lib.hid ((Below.refl wr.heap.size wr).drew)
                        have hbd := HM.out.below HB1.out
                        have hA := HP.out.below hbd.bel
                        have hB := HP2.out.below hbd.bel
                        obtain ⟨rfl, hbl⟩ := hA.at_ (by omega)
                        obtain ⟨rfl, hbl2⟩ := hB.at_ (by omega)
                        obtain ⟨ai, bi, oi, ci, x0, x1, ho⟩ := hA.cells i hiL
                        obtain ⟨aj, bj, oj, cj, y0, y1, ho2⟩ := hB.cells i hiL2
                        have hck := HCK.out _ i hiL hiL2 ai bi oi ci aj bj oj cj ho ho2
                        obtain ⟨⟨pf, pl⟩, hx⟩ : ∃ x, ps[i] = x := ⟨_, rfl⟩
                        obtain ⟨⟨qf, ql⟩, hy⟩ : ∃ x, ps2[i] = x := ⟨_, rfl⟩
                        simp only [hx, hy] at x0 x1 y0 y1 hck
                        have HX := Lib.hid hx
                        have HYY := Lib.hid hy
                        have p0 := And.intro (st_cells hbd.a).2.2.2.2 (And.intro (st_cells hbd.b).2.2.2.2 (And.intro x0 (And.intro x1 (And.intro y0 y1))))
                        have i0 : (0 : Int) ≤ i := by omega
                        have i1 : (i : Int) < np := by omega
                        have i2 : IntKind.i64.wrap ((i : Int) + 1) = (i : Int) + 1 := by rw [IntKind.wrap_i64]; omega
                        obtain ⟨q, hq⟩ : ∃ q, eqR (pf, pl) (qf, ql) = q := ⟨_, rfl⟩
                        rw [hq] at hck
                        have HCI := Lib.hid hck
                        have HQ := Lib.hid hq
                        have HLA := Lib.hid (lt_of_block HM.out.a)
                        have HLB := Lib.hid (lt_of_block HM.out.b)
                        clear hA hB hx hy ho ho2 hck hq hbd x0 x1 y0 y1
                        go_wp2_with fail
                        go_region_held3 (fun V => V.cell? ⟨w.heap.size, 4, none⟩ = some (.slice (some ⟨bp, op, none⟩) np cp) ∧ V.cell? ⟨w.heap.size + 1, 4, none⟩ = some (.slice (some ⟨bp2, op2, none⟩) np cp2) ∧ V.cell? ⟨bp, op + i * 2, none⟩ = some (.bool pf) ∧ V.cell? ⟨bp, op + i * 2 + 1, none⟩ = some (.slice ai pl.length ci) ∧ V.cell? ⟨bp2, op2 + i * 2, none⟩ = some (.bool qf) ∧ V.cell? ⟨bp2, op2 + i * 2 + 1, none⟩ = some (.slice aj ql.length cj))
                          (first | exact p0 | exact p1)
                          (first
                            | (go_at_call 35
                               with_reducible refine HCI.out.mono ?_
                               rintro r V1 ⟨rfl, hb⟩
                               have HV1 := Lib.hid (HB1.out.trans (hb.mono HB1.out.size))
                               have p1 := And.intro ((hb.cell (p := ⟨w.heap.size, 4, none⟩) (by simpa using HLA.out)).trans p0.1) (And.intro ((hb.cell (p := ⟨w.heap.size + 1, 4, none⟩) (by simpa using HLB.out)).trans p0.2.1) (And.intro ((hb.cell (p := ⟨bp, op + i * 2, none⟩) hbl).trans p0.2.2.1) (And.intro ((hb.cell (p := ⟨bp, op + i * 2 + 1, none⟩) hbl).trans p0.2.2.2.1) (And.intro ((hb.cell (p := ⟨bp2, op2 + i * 2, none⟩) hbl2).trans p0.2.2.2.2.1) ((hb.cell (p := ⟨bp2, op2 + i * 2 + 1, none⟩) hbl2).trans p0.2.2.2.2.2)))))
                               clear hb))
                        clear p0 p1
                        cases q with
                        | true =>
                          have HO2 : Hid (∀ j (h1 : j < ps.length) (h2 : j < ps2.length), j < i + 1 → ps[j] = ps2[j]) := Lib.hid (fun j h1 h2 hji => by
                            rcases Nat.lt_or_ge j i with h | h
                            · exact HO.out j h1 h2 h
                            · obtain rfl : j = i := by omega
                              have hq := HQ.out
                              unfold eqR at hq
                              rw [HX.out, HYY.out]
                              exact of_decide_eq_true hq)
                          go_wp2
                          go_roundw
                          case rel => exact ⟨i + 1, by go_num, by omega, Lib.hid (HM.out.below HV1.out), HO2⟩
                          case measure => simp [intOf]; omega
                        | false =>
                          have HE : Hid (A = false) := Lib.hid (HA.out.symm.trans (by
                            rw [eqS_false]
                            intro h
                            simp only [Prod.mk.injEq] at h
                            have hq := HQ.out
                            unfold eqR at hq
                            exact list_other hiL hiL2 (by rw [HX.out, HYY.out]; exact of_decide_eq_false hq) h.2.2.2.2))
                          go_wp2
                          go_ret
                          exact ⟨congrArg (fun x => Ending.returned (.bool x)) HE.out.symm, (HM.out.below HV1.out).bel⟩
                      · have HE : Hid (A = true) := Lib.hid (HA.out.symm.trans (by
                          rw [eqS_true, HEG.out, HEL.out, list_same HNP.out HNP2.out (fun j h1 h2 hj => HO.out j h1 h2 (by omega))]))
                        have ni : ¬ (i : Int) < np := by omega
                        obtain ⟨c0, c1, c2, c3, c4⟩ := st_cells HM.out.a
                        go_wp2
                        go_ret
                        exact ⟨congrArg (fun x => Ending.returned (.bool x)) HE.out.symm, HM.out.bel⟩
          · have HE : Hid (A = false) := Lib.hid (HA.out.symm.trans (by
              rw [eqS_false]
              intro h
              simp only [Prod.mk.injEq] at h
              exact enp (by rw [← HNP.out, ← HNP2.out, h.2.2.2.2])))
            have f1 : ((np : Int) == (np2 : Int)) = false := by
              rw [beq_eq_false_iff_ne]
              omega
            have f2 : ((np : Int) != (np2 : Int)) = true := by
              rw [bne_iff_ne]
              omega
            go_enter Tryz.func16, Tryz.ntmps16
            go_wp2
            go_ret
            exact ⟨congrArg (fun x => Ending.returned (.bool x)) HE.out.symm, HY0.out.bel⟩
        · have HE : Hid (A = false) := Lib.hid (HA.out.symm.trans (by
            rw [eqS_false]
            intro h
            simp only [Prod.mk.injEq] at h
            exact enl (by rw [← HNL.out, ← HNL2.out, h.2.2.2.1])))
          have f1 : ((nl : Int) == (nl2 : Int)) = false := by
            rw [beq_eq_false_iff_ne]
            omega
          have f2 : ((nl : Int) != (nl2 : Int)) = true := by
            rw [bne_iff_ne]
            omega
          go_enter Tryz.func16, Tryz.ntmps16
          go_wp2
          go_ret
          exact ⟨congrArg (fun x => Ending.returned (.bool x)) HE.out.symm, HY0.out.bel⟩
      · have HE : Hid (A = false) := Lib.hid (HA.out.symm.trans (by
          rw [eqS_false]
          intro h
          simp only [Prod.mk.injEq] at h
          exact eng (by rw [← HNG.out, ← HNG2.out, h.2.2.1])))
        have f1 : ((ng : Int) == (ng2 : Int)) = false := by
          rw [beq_eq_false_iff_ne]
          omega
        have f2 : ((ng : Int) != (ng2 : Int)) = true := by
          rw [bne_iff_ne]
          omega
        go_enter Tryz.func16, Tryz.ntmps16
        go_wp2
        go_ret
        exact ⟨congrArg (fun x => Ending.returned (.bool x)) HE.out.symm, HY0.out.bel⟩
    · have HE : Hid (A = false) := Lib.hid (HA.out.symm.trans (by
        rw [eqS_false]
        intro h
        simp only [Prod.mk.injEq] at h
        exact eg h.2.1))
      have f1 : (g == g2) = false := by
        rw [beq_eq_false_iff_ne]
        omega
      have f2 : (g != g2) = true := by
        rw [bne_iff_ne]
        omega
      go_enter Tryz.func16, Tryz.ntmps16
      go_wp2
      go_ret
      exact ⟨congrArg (fun x => Ending.returned (.bool x)) HE.out.symm, HY0.out.bel⟩
  · have HE : Hid (A = false) := Lib.hid (HA.out.symm.trans (by
      rw [eqS_false]
      intro h
      simp only [Prod.mk.injEq] at h
      exact ec h.1))
    have f1 : (c == c2) = false := by
      rw [beq_eq_false_iff_ne]
      omega
    have f2 : (c != c2) = true := by
      rw [bne_iff_ne]
      omega
    go_enter Tryz.func16, Tryz.ntmps16
    go_wp2
    go_ret
    exact ⟨congrArg (fun x => Ending.returned (.bool x)) HE.out.symm, HY0.out.bel⟩
end Go.Proofs.YtmcfjlkjijaflaaGreatDoor
