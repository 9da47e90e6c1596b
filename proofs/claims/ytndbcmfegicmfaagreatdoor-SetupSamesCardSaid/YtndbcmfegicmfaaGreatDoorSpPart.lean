/-
  The program reads a part by another's Parse: a program.
-/
import Derived.Test.YtndbcmfegicmfaaGreatDoorSpSev
import Derived.Test.YtndbcmfegicmfaaGreatDoorGAG
namespace Go.Proofs.YtndbcmfegicmfaaGreatDoor
open Go.RowKit

/-- A program, where the reader goes. -/
def progQ (L : List Wd) (s : Rd) : Prg × Rd := if s.2 = 0 then ((parseR L s.1).1, ((parseR L s.1).2.1.toNat, (parseR L s.1).2.2)) else ((false, []), s)
/-- Part's boxes: its answer's, the part's. -/
structure PtI (w V : World) (b : Nat) (ao : Option Addr) (bw off cap : Nat) (L : List Wd) (s : Rd) (x y : Value) : Prop where
  rd : RwI V b ao bw off cap L s
  res : V.heap[w.heap.size]? = some zeroP
  prt : V.heap[w.heap.size + 1]? = some (.cells #[x, y] 51 (0, 0))
  t : Turned [b] w V
  l1 : b < w.heap.size
section
variable {w V V' : World} {b : Nat} {ao : Option Addr} {bw off cap : Nat} {L : List Wd} {s s' : Rd} {x y : Value}
theorem PtI.below (h : PtI w V b ao bw off cap L s x y) (hb : Below V.heap.size V V') : PtI w V' b ao bw off cap L s x y :=
  ⟨RdI.below h.rd hb, (hb.block _ (lt_of_block h.res)).trans h.res, (hb.block _ (lt_of_block h.prt)).trans h.prt, h.t.trans (turned_below hb [b]) (Newer.refl _ _), h.l1⟩
theorem PtI.start (h : RwI w b ao bw off cap L s) : PtI w ((w.alloc zeroP).alloc zeroP) b ao bw off cap L s (.bool false) (.slice none 0 0) := by
  have hb : Below w.heap.size w ((w.alloc zeroP).alloc zeroP) := ((Below.refl _ w).alloc (Nat.le_refl _) zeroP).alloc (by simp) zeroP
  have h2 := heap_alloc_new (w.alloc zeroP) zeroP
  rw [World.size_alloc] at h2
  exact ⟨RdI.below h hb, (Below.heap_alloc _ _ _ (by simp)).trans (heap_alloc_new w _), h2, turned_below hb _, lt_of_block h.rd⟩
theorem PtI.set (h : PtI w V b ao bw off cap L s x y) (hbw : 0 < L.length → bw < w.heap.size) (x' y' : Value) : PtI w ((V.setCell ⟨w.heap.size + 1, 0, none⟩ x').setCell ⟨w.heap.size + 1, 1, none⟩ y') b ao bw off cap L s x' y' := by
  have h1 := h.l1
  refine ⟨(RwI.store h.rd _ _ (by omega) (fun h0 => by have := hbw h0; omega)).store _ _ (by omega) (fun h0 => by have := hbw h0; omega), ?_, two_stored h.prt, (h.t.setCell (.inr (by show w.heap.size ≤ w.heap.size + 1; omega)) _).setCell (.inr (by show w.heap.size ≤ w.heap.size + 1; omega)) _, h1⟩
  rw [Below.heap_setCell _ _ _ _ (by show w.heap.size ≠ w.heap.size + 1; omega), Below.heap_setCell _ _ _ _ (by show w.heap.size ≠ w.heap.size + 1; omega)]
  exact h.res
theorem PtI.move (h : PtI w V b ao bw off cap L s x y) (hs : s'.1 ≤ L.length) : PtI w ((V.setCell ⟨b, 1, none⟩ (.int .i64 (s'.1 : Nat))).setCell ⟨b, 2, none⟩ (.int .i64 s'.2)) b ao bw off cap L s' x y := by
  have h1 := h.l1
  have hr := rd_set2 (e' := s'.2) (rd_set1 (c' := s'.1) h.rd.rd)
  refine ⟨⟨hr, h.rd.ws.same (fun h0 => ?_), h.rd.ne, hs, h.rd.len⟩, ?_, ?_, (h.t.setCell (.inl (by simp)) _).setCell (.inl (by simp)) _, h1⟩
  · exact (Below.heap_setCell _ _ _ _ (h.rd.ne h0)).trans (Below.heap_setCell _ _ _ _ (h.rd.ne h0))
  · exact ((Below.heap_setCell _ _ _ _ (by show w.heap.size ≠ b; omega)).trans (Below.heap_setCell _ _ _ _ (by show w.heap.size ≠ b; omega))).trans h.res
  · exact ((Below.heap_setCell _ _ _ _ (by show w.heap.size + 1 ≠ b; omega)).trans (Below.heap_setCell _ _ _ _ (by show w.heap.size + 1 ≠ b; omega))).trans h.prt
end
/-- What Part answers. -/
def PartO (L : List Wd) (s : Rd) (w : World) (b : Nat) (ao : Option Addr) (bw off cap : Nat) (r : Ending) (w' : World) : Prop :=
  ∃ v, r = .returned (.agg #[.bool (progQ L s).1.1, v]) ∧ ORow w.heap.size w' v (progQ L s).1.2 ∧ RwP b ao bw off cap L (progQ L s).2 w w'
theorem part_end {w V W : World} {b : Nat} {ao : Option Addr} {bw off cap : Nat} {L : List Wd} {s : Rd} {x y : Value} {ops : List Opn} (h : PtI w W b ao bw off cap L s x y) (hbw : 0 < L.length → bw < w.heap.size) {base : Nat} (hrow : ORow base V y ops) (hs : ∀ k, base ≤ k → k < V.heap.size → W.heap[k]? = V.heap[k]?) (hbase : w.heap.size < base) :
    ((W.setCell ⟨w.heap.size, 0, none⟩ x).setCell ⟨w.heap.size, 1, none⟩ y).heap[w.heap.size]? = some (.cells #[x, y] 51 (0, 0)) ∧
    ORow w.heap.size ((W.setCell ⟨w.heap.size, 0, none⟩ x).setCell ⟨w.heap.size, 1, none⟩ y) y ops ∧ RwP b ao bw off cap L s w ((W.setCell ⟨w.heap.size, 0, none⟩ x).setCell ⟨w.heap.size, 1, none⟩ y) := by
  have h1 := h.l1
  refine ⟨two_stored h.res, ?_, (RwI.store h.rd _ _ (by omega) (fun h0 => by have := hbw h0; omega)).store _ _ (by omega) (fun h0 => by have := hbw h0; omega), (h.t.setCell (.inr (Nat.le_refl _)) _).setCell (.inr (Nat.le_refl _)) _⟩
  refine row_base (row_same hrow fun k hk hl => ?_) (by omega)
  exact (Below.heap_setCell _ _ _ _ (by show k ≠ w.heap.size; omega)).trans ((Below.heap_setCell _ _ _ _ (by show k ≠ w.heap.size; omega)).trans (hs k hk hl))
set_option maxRecDepth 100000 in
set_option maxHeartbeats 6400000 in
theorem part_live {w : World} {b : Nat} {ao : Option Addr} {bw off cap : Nat} {L : List Wd} {c : Nat} (h : RdI w b ao bw off cap L c 0) (hL : Clean L) :
    Calls Tryz.prog 78 #[.pointer (some ⟨b, 0, none⟩), .func (.func 79) #[] #[]] w (PartO L (c, 0) w b ao bw off cap) := by
  have HP := Lib.hid (fun V (hV : WArg V ao bw off L) => pparse_any ao bw off cap L c V hV h.len hL)
  obtain ⟨k, hk, hkl⟩ := parse_place (L := L) (a := c) h.le
  have hpo : PartO L (c, 0) w b ao bw off cap = fun r w' => ∃ v, r = .returned (.agg #[.bool (parseR L c).1.1, v]) ∧ ORow w.heap.size w' v (parseR L c).1.2 ∧ RwP b ao bw off cap L (k, (parseR L c).2.2) w w' := by
    funext r w'
    unfold PartO progQ
    rw [if_pos rfl]
    simp only [hk, Int.toNat_natCast]
  rw [hpo]
  have HBW := Lib.hid (fun h0 => (h.ws.at_ h0).2)
  have HKL := Lib.hid hkl
  obtain ⟨n, hn⟩ : ∃ n, L.length = n := ⟨_, rfl⟩
  have HN := Lib.hid hn
  have HI := Lib.hid (PtI.start (s := (c, 0)) h)
  have hw0 : ∃ W0, (w.alloc zeroP).alloc zeroP = W0 := ⟨_, rfl⟩
  have HW0 := Lib.hid hw0
  clear hw0 hpo
  obtain ⟨⟨⟨f, ops⟩, pl, er⟩, hR⟩ : ∃ R, parseR L c = R := ⟨_, rfl⟩
  simp only [hn, hR] at HP hk ⊢
  subst hk
  obtain ⟨m, hm⟩ : ∃ m, ops.length = m := ⟨_, rfl⟩
  clear h hL hn hR hkl
  go_enter Tryz.func78, Tryz.ntmps78
  go_wp2_with fail
  obtain ⟨W0, hW0⟩ := HW0.out
  rw [hW0] at HI
  simp only [hW0]
  clear hW0 HW0
  with_reducible refine (goes_live HI.out.rd.rd).mono ?_
  rintro r w1 ⟨rfl, rfl⟩
  obtain ⟨d0, d1, d2⟩ := three_cells HI.out.rd.rd
  simp only [HN.out] at d0 d1
  go_wp2_with fail
  go_region_with ((go_at_call 79
                   refine (HP.out _ (HI.out.below (Below.refl _ _).drew).rd.ws).mono ?_
                   rintro r w3 ⟨v, rfl, hrow, hb⟩
                   have HI3 := Lib.hid (HI.out.below ((Below.refl _ _).drew.trans hb))
                   obtain ⟨av, cv, hv, _⟩ := ownsRow_shape hrow
                   simp only at hv
                   rw [hm] at hv
                   subst hv
                   have HROW := Lib.hid hrow
                   obtain ⟨e0, e1, e2⟩ := three_cells HI3.out.rd.rd
                   have fe1 := not_frozen HI3.out.rd.rd 1
                   have fe2 := not_frozen HI3.out.rd.rd 2
                   obtain ⟨q0, q1⟩ := two_cells HI3.out.prt
                   have fq0 := not_frozen HI3.out.prt 0
                   have fq1 := not_frozen HI3.out.prt 1
                   have ne1 : w.heap.size + 1 ≠ b := by have := HI.out.l1; omega
                   have ne2 : b ≠ w.heap.size + 1 := by have := HI.out.l1; omega
                   clear hrow hb))
  all_goals
    have HI4 := Lib.hid ((HI3.out.set HBW.out (.bool f) (.slice av m cv)).move (s' := (k, er)) HKL.out)
    have HS4 := Lib.hid (fun j (hj : w.heap.size + 2 ≤ j) => (by
      have h1 := HI.out.l1
      exact (Below.heap_setCell _ _ _ _ (by show j ≠ b; omega)).trans ((Below.heap_setCell _ _ _ _ (by show j ≠ b; omega)).trans ((Below.heap_setCell _ _ _ _ (by show j ≠ w.heap.size + 1; omega)).trans (Below.heap_setCell _ _ _ _ (by show j ≠ w.heap.size + 1; omega)))) :
      ((((w3.setCell ⟨w.heap.size + 1, 0, none⟩ (.bool f)).setCell ⟨w.heap.size + 1, 1, none⟩ (.slice av m cv)).setCell ⟨b, 1, none⟩ (.int .i64 k)).setCell ⟨b, 2, none⟩ (.int .i64 er)).heap[j]? = w3.heap[j]?))
    simp only at HI4
    obtain ⟨W4, hW4⟩ : ∃ W4, ((((w3.setCell ⟨w.heap.size + 1, 0, none⟩ (.bool f)).setCell ⟨w.heap.size + 1, 1, none⟩ (.slice av m cv)).setCell ⟨b, 1, none⟩ (.int .i64 k)).setCell ⟨b, 2, none⟩ (.int .i64 er)) = W4 := ⟨_, rfl⟩
    rw [hW4] at HI4 HS4 ⊢
    clear hW4 d0 d1 d2 e0 e1 e2 fe1 fe2 q0 q1 fq0 fq1 ne1 ne2
    obtain ⟨q0, q1⟩ := two_cells HI4.out.prt
    obtain ⟨z0, z1⟩ := two_cells HI4.out.res
    have fz0 := not_frozen HI4.out.res 0
    have fz1 := not_frozen HI4.out.res 1
    have ne1 : w.heap.size ≠ w.heap.size + 1 := by omega
    have HFIN := Lib.hid (part_end HI4.out HBW.out HROW.out (fun j hj _ => HS4.out j (by have := lt_of_block HI.out.prt; simp at hj; omega)) (by have := lt_of_block HI.out.prt; simp; omega))
    go_wp2
    refine bodyPost_ret (prog_res rfl rfl HFIN.out.1) rfl ?_
    exact ⟨_, rfl, HFIN.out.2⟩
set_option maxRecDepth 100000 in
set_option maxHeartbeats 1600000 in
theorem part_dead {w : World} {b : Nat} {ao : Option Addr} {bw off cap : Nat} {L : List Wd} {s : Rd} (h : RwI w b ao bw off cap L s) (h0 : s.2 ≠ 0) :
    Calls Tryz.prog 78 #[.pointer (some ⟨b, 0, none⟩), .func (.func 79) #[] #[]] w (PartO L s w b ao bw off cap) := by
  have hpo : PartO L s w b ao bw off cap = fun r w' => ∃ v, r = .returned (.agg #[.bool false, v]) ∧ ORow w.heap.size w' v [] ∧ RwP b ao bw off cap L s w w' := by
    funext r w'
    unfold PartO progQ
    rw [if_neg h0]
  rw [hpo]
  have HBW := Lib.hid (fun h0 => (h.ws.at_ h0).2)
  have HI := Lib.hid (PtI.start (s := s) h)
  have HGD := Lib.hid (fun V (hV : RwI V b ao bw off cap L s) => goes_dead h0 hV.rd)
  have hw0 : ∃ W0, (w.alloc zeroP).alloc zeroP = W0 := ⟨_, rfl⟩
  have HW0 := Lib.hid hw0
  clear hw0 hpo h h0
  go_enter Tryz.func78, Tryz.ntmps78
  go_wp2_with fail
  obtain ⟨W0, hW0⟩ := HW0.out
  rw [hW0] at HI
  simp only [hW0]
  clear hW0 HW0
  with_reducible refine (HGD.out _ HI.out.rd).mono ?_
  rintro r w1 ⟨rfl, rfl⟩
  obtain ⟨q0, q1⟩ := two_cells HI.out.prt
  obtain ⟨z0, z1⟩ := two_cells HI.out.res
  have fz0 := not_frozen HI.out.res 0
  have fz1 := not_frozen HI.out.res 1
  have ne1 : w.heap.size ≠ w.heap.size + 1 := by omega
  have HFIN := Lib.hid (part_end HI.out HBW.out (base := w.heap.size + 1) (V := w1) (ops := []) (World.ownsRow_nil _ _ _ _) (fun j _ _ => rfl) (by omega))
  go_wp2
  refine bodyPost_ret (prog_res rfl rfl HFIN.out.1) rfl ?_
  exact ⟨_, rfl, HFIN.out.2⟩
theorem part_any {w : World} {b : Nat} {ao : Option Addr} {bw off cap : Nat} {L : List Wd} {s : Rd} (h : RwI w b ao bw off cap L s) (hL : Clean L) :
    Calls Tryz.prog 78 #[.pointer (some ⟨b, 0, none⟩), .func (.func 79) #[] #[]] w (PartO L s w b ao bw off cap) := by
  by_cases h0 : s.2 = 0
  · obtain ⟨c, e⟩ := s
    simp only at h0
    subst h0
    exact part_live h hL
  · exact part_dead h h0
end Go.Proofs.YtndbcmfegicmfaaGreatDoor
