/-
  The program reads a part by another's Parse: a program.
  The program reads a program, and keeps where it begins.
-/
import Derived.Test.YtmcfjlkjijaflaaGreatDoorSpSev
import Derived.Test.YtmcfjlkjijaflaaGreatDoorGAG

/- The program reads a part by another's Parse: a program. -/
namespace Go.Proofs.YtmcfjlkjijaflaaGreatDoor
open Go.RowKit

/-- A program, where the reader goes. -/
def progQ (L : List Wd) (s : Rd) : Prg × Rd := if s.2 = 0 then ((parseR L s.1).1, ((parseR L s.1).2.1.toNat, (parseR L s.1).2.2)) else ((false, []), s)
/-- Part's boxes: its answer's, the part's. -/
structure PtI (w V : World) (b : Nat) (ao : Option Addr) (bw off cap : Nat) (L : List Wd) (s : Rd) (x y : Value) : Prop where
  rd : RwI V b ao bw off cap L s
  res : V.heap[w.heap.size]? = some zeroP
  prt : V.heap[w.heap.size + 1]? = some (.cells #[x, y] 51 (0, 0))
  t : Turned [b] w V
  l1 : b < w.heap.size
section
variable {w V V' : World} {b : Nat} {ao : Option Addr} {bw off cap : Nat} {L : List Wd} {s s' : Rd} {x y : Value}
theorem PtI.below (h : PtI w V b ao bw off cap L s x y) (hb : Below V.heap.size V V') : PtI w V' b ao bw off cap L s x y :=
  ⟨RdI.below h.rd hb, (hb.block _ (lt_of_block h.res)).trans h.res, (hb.block _ (lt_of_block h.prt)).trans h.prt, h.t.trans (turned_below hb [b]) (Newer.refl _ _), h.l1⟩
theorem PtI.start (h : RwI w b ao bw off cap L s) : PtI w ((w.alloc zeroP).alloc zeroP) b ao bw off cap L s (.bool false) (.slice none 0 0) := by
  have hb : Below w.heap.size w ((w.alloc zeroP).alloc zeroP) := ((Below.refl _ w).alloc (Nat.le_refl _) zeroP).alloc (by simp) zeroP
  have h2 := heap_alloc_new (w.alloc zeroP) zeroP
  rw [World.size_alloc] at h2
  exact ⟨RdI.below h hb, (Below.heap_alloc _ _ _ (by simp)).trans (heap_alloc_new w _), h2, turned_below hb _, lt_of_block h.rd⟩
theorem PtI.set (h : PtI w V b ao bw off cap L s x y) (hbw : 0 < L.length → bw < w.heap.size) (x' y' : Value) : PtI w ((V.setCell ⟨w.heap.size + 1, 0, none⟩ x').setCell ⟨w.heap.size + 1, 1, none⟩ y') b ao bw off cap L s x' y' := by
  have h1 := h.l1
  refine ⟨(RwI.store h.rd _ _ (by omega) (fun h0 => by have := hbw h0; omega)).store _ _ (by omega) (fun h0 => by have := hbw h0; omega), ?_, two_stored h.prt, (h.t.setCell (.inr (by show w.heap.size ≤ w.heap.size + 1; omega)) _).setCell (.inr (by show w.heap.size ≤ w.heap.size + 1; omega)) _, h1⟩
  rw [Below.heap_setCell _ _ _ _ (by show w.heap.size ≠ w.heap.size + 1; omega), Below.heap_setCell _ _ _ _ (by show w.heap.size ≠ w.heap.size + 1; omega)]
  exact h.res
theorem PtI.move (h : PtI w V b ao bw off cap L s x y) (hs : s'.1 ≤ L.length) : PtI w ((V.setCell ⟨b, 1, none⟩ (.int .i64 (s'.1 : Nat))).setCell ⟨b, 2, none⟩ (.int .i64 s'.2)) b ao bw off cap L s' x y := by
  have h1 := h.l1
  have hr := rd_set2 (e' := s'.2) (rd_set1 (c' := s'.1) h.rd.rd)
  refine ⟨⟨hr, h.rd.ws.same (fun h0 => ?_), h.rd.ne, hs, h.rd.len⟩, ?_, ?_, (h.t.setCell (.inl (by simp)) _).setCell (.inl (by simp)) _, h1⟩
  · exact (Below.heap_setCell _ _ _ _ (h.rd.ne h0)).trans (Below.heap_setCell _ _ _ _ (h.rd.ne h0))
  · exact ((Below.heap_setCell _ _ _ _ (by show w.heap.size ≠ b; omega)).trans (Below.heap_setCell _ _ _ _ (by show w.heap.size ≠ b; omega))).trans h.res
  · exact ((Below.heap_setCell _ _ _ _ (by show w.heap.size + 1 ≠ b; omega)).trans (Below.heap_setCell _ _ _ _ (by show w.heap.size + 1 ≠ b; omega))).trans h.prt
end
/-- What Part answers. -/
def PartO (L : List Wd) (s : Rd) (w : World) (b : Nat) (ao : Option Addr) (bw off cap : Nat) (r : Ending) (w' : World) : Prop :=
  ∃ v, r = .returned (.agg #[.bool (progQ L s).1.1, v]) ∧ ORow w.heap.size w' v (progQ L s).1.2 ∧ RwP b ao bw off cap L (progQ L s).2 w w'
theorem part_end {w V W : World} {b : Nat} {ao : Option Addr} {bw off cap : Nat} {L : List Wd} {s : Rd} {x y : Value} {ops : List Opn} (h : PtI w W b ao bw off cap L s x y) (hbw : 0 < L.length → bw < w.heap.size) {base : Nat} (hrow : ORow base V y ops) (hs : ∀ k, base ≤ k → k < V.heap.size → W.heap[k]? = V.heap[k]?) (hbase : w.heap.size < base) :
    ((W.setCell ⟨w.heap.size, 0, none⟩ x).setCell ⟨w.heap.size, 1, none⟩ y).heap[w.heap.size]? = some (.cells #[x, y] 51 (0, 0)) ∧
    ORow w.heap.size ((W.setCell ⟨w.heap.size, 0, none⟩ x).setCell ⟨w.heap.size, 1, none⟩ y) y ops ∧ RwP b ao bw off cap L s w ((W.setCell ⟨w.heap.size, 0, none⟩ x).setCell ⟨w.heap.size, 1, none⟩ y) := by
  have h1 := h.l1
  refine ⟨two_stored h.res, ?_, (RwI.store h.rd _ _ (by omega) (fun h0 => by have := hbw h0; omega)).store _ _ (by omega) (fun h0 => by have := hbw h0; omega), (h.t.setCell (.inr (Nat.le_refl _)) _).setCell (.inr (Nat.le_refl _)) _⟩
  refine row_base (row_same hrow fun k hk hl => ?_) (by omega)
  exact (Below.heap_setCell _ _ _ _ (by show k ≠ w.heap.size; omega)).trans ((Below.heap_setCell _ _ _ _ (by show k ≠ w.heap.size; omega)).trans (hs k hk hl))
set_option maxRecDepth 100000 in
set_option maxHeartbeats 6400000 in
theorem part_live {w : World} {b : Nat} {ao : Option Addr} {bw off cap : Nat} {L : List Wd} {c : Nat} (h : RdI w b ao bw off cap L c 0) (hL : Clean L) :
    Calls Tryz.prog 78 #[.pointer (some ⟨b, 0, none⟩), .func (.func 79) #[] #[]] w (PartO L (c, 0) w b ao bw off cap) := by
  have HP := Lib.hid (fun V (hV : WArg V ao bw off L) => pparse_any ao bw off cap L c V hV h.len hL)
  obtain ⟨k, hk, hkl⟩ := parse_place (L := L) (a := c) h.le
  have hpo : PartO L (c, 0) w b ao bw off cap = fun r w' => ∃ v, r = .returned (.agg #[.bool (parseR L c).1.1, v]) ∧ ORow w.heap.size w' v (parseR L c).1.2 ∧ RwP b ao bw off cap L (k, (parseR L c).2.2) w w' := by
    funext r w'
    unfold PartO progQ
    rw [if_pos rfl]
    simp only [hk, Int.toNat_natCast]
  rw [hpo]
  have HBW := Lib.hid (fun h0 => (h.ws.at_ h0).2)
  have HKL := Lib.hid hkl
  obtain ⟨n, hn⟩ : ∃ n, L.length = n := ⟨_, rfl⟩
  have HN := Lib.hid hn
  have HI := Lib.hid (PtI.start (s := (c, 0)) h)
  have hw0 : ∃ W0, (w.alloc zeroP).alloc zeroP = W0 := ⟨_, rfl⟩
  have HW0 := Lib.hid hw0
  clear hw0 hpo
  obtain ⟨⟨⟨f, ops⟩, pl, er⟩, hR⟩ : ∃ R, parseR L c = R := ⟨_, rfl⟩
  simp only [hn, hR] at HP hk ⊢
  subst hk
  obtain ⟨m, hm⟩ : ∃ m, ops.length = m := ⟨_, rfl⟩
  clear h hL hn hR hkl
  go_enter Tryz.func78, Tryz.ntmps78
  go_wp2_with fail
  obtain ⟨W0, hW0⟩ := HW0.out
  rw [hW0] at HI
  simp only [hW0]
  clear hW0 HW0
  with_reducible refine (goes_live HI.out.rd.rd).mono ?_
  rintro r w1 ⟨rfl, rfl⟩
  obtain ⟨d0, d1, d2⟩ := three_cells HI.out.rd.rd
  simp only [HN.out] at d0 d1
  go_wp2_with fail
  go_region_with ((go_at_call 79
                   refine (HP.out _ (HI.out.below (Below.refl _ _).drew).rd.ws).mono ?_
                   rintro r w3 ⟨v, rfl, hrow, hb⟩
                   have HI3 := Lib.hid (HI.out.below ((Below.refl _ _).drew.trans hb))
                   obtain ⟨av, cv, hv, _⟩ := ownsRow_shape hrow
                   simp only at hv
                   rw [hm] at hv
                   subst hv
                   have HROW := Lib.hid hrow
                   obtain ⟨e0, e1, e2⟩ := three_cells HI3.out.rd.rd
                   have fe1 := not_frozen HI3.out.rd.rd 1
                   have fe2 := not_frozen HI3.out.rd.rd 2
                   obtain ⟨q0, q1⟩ := two_cells HI3.out.prt
                   have fq0 := not_frozen HI3.out.prt 0
                   have fq1 := not_frozen HI3.out.prt 1
                   have ne1 : w.heap.size + 1 ≠ b := by have := HI.out.l1; omega
                   have ne2 : b ≠ w.heap.size + 1 := by have := HI.out.l1; omega
                   clear hrow hb))
  all_goals
    have HI4 := Lib.hid ((HI3.out.set HBW.out (.bool f) (.slice av m cv)).move (s' := (k, er)) HKL.out)
    have HS4 := Lib.hid (fun j (hj : w.heap.size + 2 ≤ j) => (by
      have h1 := HI.out.l1
      exact (Below.heap_setCell _ _ _ _ (by show j ≠ b; omega)).trans ((Below.heap_setCell _ _ _ _ (by show j ≠ b; omega)).trans ((Below.heap_setCell _ _ _ _ (by show j ≠ w.heap.size + 1; omega)).trans (Below.heap_setCell _ _ _ _ (by show j ≠ w.heap.size + 1; omega)))) :
      ((((w3.setCell ⟨w.heap.size + 1, 0, none⟩ (.bool f)).setCell ⟨w.heap.size + 1, 1, none⟩ (.slice av m cv)).setCell ⟨b, 1, none⟩ (.int .i64 k)).setCell ⟨b, 2, none⟩ (.int .i64 er)).heap[j]? = w3.heap[j]?))
    simp only at HI4
    obtain ⟨W4, hW4⟩ : ∃ W4, ((((w3.setCell ⟨w.heap.size + 1, 0, none⟩ (.bool f)).setCell ⟨w.heap.size + 1, 1, none⟩ (.slice av m cv)).setCell ⟨b, 1, none⟩ (.int .i64 k)).setCell ⟨b, 2, none⟩ (.int .i64 er)) = W4 := ⟨_, rfl⟩
    rw [hW4] at HI4 HS4 ⊢
    clear hW4 d0 d1 d2 e0 e1 e2 fe1 fe2 q0 q1 fq0 fq1 ne1 ne2
    obtain ⟨q0, q1⟩ := two_cells HI4.out.prt
    obtain ⟨z0, z1⟩ := two_cells HI4.out.res
    have fz0 := not_frozen HI4.out.res 0
    have fz1 := not_frozen HI4.out.res 1
    have ne1 : w.heap.size ≠ w.heap.size + 1 := by omega
    have HFIN := Lib.hid (part_end HI4.out HBW.out HROW.out (fun j hj _ => HS4.out j (by have := lt_of_block HI.out.prt; simp at hj; omega)) (by have := lt_of_block HI.out.prt; simp; omega))
    go_wp2
    refine bodyPost_ret (prog_res rfl rfl HFIN.out.1) rfl ?_
    exact ⟨_, rfl, HFIN.out.2⟩
set_option maxRecDepth 100000 in
set_option maxHeartbeats 1600000 in
theorem part_dead {w : World} {b : Nat} {ao : Option Addr} {bw off cap : Nat} {L : List Wd} {s : Rd} (h : RwI w b ao bw off cap L s) (h0 : s.2 ≠ 0) :
    Calls Tryz.prog 78 #[.pointer (some ⟨b, 0, none⟩), .func (.func 79) #[] #[]] w (PartO L s w b ao bw off cap) := by
  have hpo : PartO L s w b ao bw off cap = fun r w' => ∃ v, r = .returned (.agg #[.bool false, v]) ∧ ORow w.heap.size w' v [] ∧ RwP b ao bw off cap L s w w' := by
    funext r w'
    unfold PartO progQ
    rw [if_neg h0]
  rw [hpo]
  have HBW := Lib.hid (fun h0 => (h.ws.at_ h0).2)
  have HI := Lib.hid (PtI.start (s := s) h)
  have HGD := Lib.hid (fun V (hV : RwI V b ao bw off cap L s) => goes_dead h0 hV.rd)
  have hw0 : ∃ W0, (w.alloc zeroP).alloc zeroP = W0 := ⟨_, rfl⟩
  have HW0 := Lib.hid hw0
  clear hw0 hpo h h0
  go_enter Tryz.func78, Tryz.ntmps78
  go_wp2_with fail
  obtain ⟨W0, hW0⟩ := HW0.out
  rw [hW0] at HI
  simp only [hW0]
  clear hW0 HW0
  with_reducible refine (HGD.out _ HI.out.rd).mono ?_
  rintro r w1 ⟨rfl, rfl⟩
  obtain ⟨q0, q1⟩ := two_cells HI.out.prt
  obtain ⟨z0, z1⟩ := two_cells HI.out.res
  have fz0 := not_frozen HI.out.res 0
  have fz1 := not_frozen HI.out.res 1
  have ne1 : w.heap.size ≠ w.heap.size + 1 := by omega
  have HFIN := Lib.hid (part_end HI.out HBW.out (base := w.heap.size + 1) (V := w1) (ops := []) (World.ownsRow_nil _ _ _ _) (fun j _ _ => rfl) (by omega))
  go_wp2
  refine bodyPost_ret (prog_res rfl rfl HFIN.out.1) rfl ?_
  exact ⟨_, rfl, HFIN.out.2⟩
theorem part_any {w : World} {b : Nat} {ao : Option Addr} {bw off cap : Nat} {L : List Wd} {s : Rd} (h : RwI w b ao bw off cap L s) (hL : Clean L) :
    Calls Tryz.prog 78 #[.pointer (some ⟨b, 0, none⟩), .func (.func 79) #[] #[]] w (PartO L s w b ao bw off cap) := by
  by_cases h0 : s.2 = 0
  · obtain ⟨c, e⟩ := s
    simp only at h0
    subst h0
    exact part_live h hL
  · exact part_dead h h0
end Go.Proofs.YtmcfjlkjijaflaaGreatDoor

/- The program reads a program, and keeps where it begins. -/
namespace Go.Proofs.YtmcfjlkjijaflaaGreatDoor
open Go.RowKit

theorem RwI.keep {w w' : World} {b : Nat} {ao : Option Addr} {bw off cap : Nat} {L : List Wd} {s : Rd} (h : RwI w b ao bw off cap L s) (e1 : w'.heap[b]? = w.heap[b]?) (e2 : 0 < L.length → w'.heap[bw]? = w.heap[bw]?) : RwI w' b ao bw off cap L s :=
  ⟨e1.trans h.rd, h.ws.same e2, h.ne, h.le, h.len⟩
theorem Turned.more {w w' : World} {X Y : List Nat} (t : Turned X w w') (h : ∀ k ∈ X, k ∈ Y) : Turned Y w w' := ⟨t.os, t.tape, t.output, t.size, fun k hk hx => t.block k hk (fun hy => hx (h k hy))⟩
/-- What the closure holds. -/
structure ClI (w V : World) (b : Nat) (ao : Option Addr) (bw off cap : Nat) (L : List Wd) (s : Rd) (S base : Nat) (qv0 qv : Value) (qs : List Int) : Prop where
  rd : RwI V b ao bw off cap L s
  res : V.heap[w.heap.size]? = some zeroP
  sb : V.heap[S]? = some (.cells #[qv] 22 (0, 0))
  qr : GRow base V qv qs
  t : Turned (b :: S :: qv0.ownBlock.toList) w V
  new : ∀ g ∈ qv.ownBlock.toList, g ∈ qv0.ownBlock.toList ∨ w.heap.size ≤ g
section
variable {w V V' : World} {b : Nat} {ao : Option Addr} {bw off cap : Nat} {L : List Wd} {s s' : Rd} {S base : Nat} {qv0 qv : Value} {qs : List Int}
theorem ClI.below (h : ClI w V b ao bw off cap L s S base qv0 qv qs) (hb : Below V.heap.size V V') : ClI w V' b ao bw off cap L s S base qv0 qv qs :=
  ⟨RdI.below h.rd hb, (hb.block _ (lt_of_block h.res)).trans h.res, (hb.block _ (lt_of_block h.sb)).trans h.sb, row_below h.qr hb, h.t.trans (turned_below hb _) (Newer.refl _ _), h.new⟩
theorem ClI.moved (h : ClI w V b ao bw off cap L s S base qv0 qv qs) (hb : b < base) (hbw : b < w.heap.size) (hS : b ≠ S) (m : RwP b ao bw off cap L s' V V') : ClI w V' b ao bw off cap L s' S base qv0 qv qs := by
  obtain ⟨m1, m2⟩ := m
  exact ⟨m1, m2.same h.res (by simp; omega), m2.same h.sb (by simpa using fun e => hS e.symm), row_turned h.qr m2 hb, h.t.trans (m2.more (by simp)) (Newer.refl _ _), h.new⟩
/-- The row grows, and is stored. -/
theorem ClI.push (h : ClI w V b ao bw off cap L s S base qv0 qv qs) {w4 : World} {v' : Value} {x : Int} (hb : b < base) (hS0 : b ≠ S) (hSw : S < w.heap.size) (hbw : 0 < L.length → bw < base ∧ bw ≠ S) (hr : w.heap.size < V.heap.size)
    (hown : w4.ownsRow base 3 1 v' (qs.length + 1) (cellsOf gC qs ++ gC x)) (hg : V.grownBy w4 qv.ownBlock) (hnew : ∀ g ∈ v'.ownBlock.toList, g ∈ qv.ownBlock.toList ∨ V.heap.size ≤ g) :
    w4.heap[S]? = some (.cells #[qv] 22 (0, 0)) ∧ ClI w (w4.setCell ⟨S, 0, none⟩ v') b ao bw off cap L s S base qv0 v' (qs ++ [x]) := by
  have hq : ∀ k, qv.ownBlock = some k → base ≤ k := fun k hk => row_own h.qr k hk
  have hSb := block_off h.sb h.qr (by decide)
  have hs4 := (hg.block _ (lt_of_block h.sb) hSb).trans h.sb
  have hbl := lt_of_block h.rd.rd
  refine ⟨hs4, ⟨RwI.keep h.rd ?_ ?_, ?_, ?_, ?_, ?_, ?_⟩⟩
  · exact (Below.heap_setCell _ _ _ _ (by show b ≠ S; exact hS0)).trans (hg.block _ hbl (fun e => by have := hq _ e.symm; omega))
  · intro h0
    have h1 := hbw h0
    exact (Below.heap_setCell _ _ _ _ (by show bw ≠ S; exact h1.2)).trans (hg.block _ (h.rd.ws.at_ h0).2 (fun e => by have := hq _ e.symm; omega))
  · exact (Below.heap_setCell _ _ _ _ (by show w.heap.size ≠ S; omega)).trans ((hg.block _ (lt_of_block h.res) (block_off h.res h.qr (by decide))).trans h.res)
  · rw [heap_setCell_same _ _ _ _ _ _ hs4]
    rfl
  · have hrow : GRow base w4 v' (qs ++ [x]) := by
      show w4.ownsRow base 3 1 v' (qs ++ [x]).length (cellsOf gC (qs ++ [x]))
      rw [cellsOf_snoc, List.length_append, List.length_singleton]
      exact hown
    have hoff := block_off hs4 hrow (by decide)
    refine ownsRow_same hrow fun k hk _ => Below.heap_setCell _ _ _ _ ?_
    show k ≠ S
    rintro rfl
    exact hoff (by simpa using hk : v'.ownBlock = some k).symm
  · exact (h.t.grown hg (fun k hk => by
      rcases h.new k (by simp [hk]) with h1 | h1
      · exact .inl (by simp only [List.mem_cons]; exact .inr (.inr h1))
      · exact .inr h1)).setCell (.inl (by simp)) _
  · intro g hg2
    rcases hnew g hg2 with h1 | h1
    · exact h.new g h1
    · exact .inr (by omega)
theorem ClI.start (h : RwI w b ao bw off cap L s) (hs : w.heap[S]? = some (.cells #[qv] 22 (0, 0))) (hq : GRow base w qv qs) : ClI w (w.alloc zeroP) b ao bw off cap L s S base qv qv qs := by
  have hb : Below w.heap.size w (w.alloc zeroP) := (Below.refl _ w).alloc (Nat.le_refl _) zeroP
  exact ⟨RdI.below h hb, heap_alloc_new w _, (hb.block _ (lt_of_block hs)).trans hs, row_below hq hb, turned_below hb _, fun g hg => .inl hg⟩
theorem ClI.fin (h : ClI w V b ao bw off cap L s S base qv0 qv qs) (hbw : b < w.heap.size) (hSw : S < w.heap.size) (hb : 0 < L.length → bw < w.heap.size) {pv : Value} {ops : List Opn} {B0 : Nat} (hrow : ORow B0 V pv ops) (hB0 : w.heap.size < B0) (f : Bool) :
    ((V.setCell ⟨w.heap.size, 0, none⟩ (.bool f)).setCell ⟨w.heap.size, 1, none⟩ pv).heap[w.heap.size]? = some (.cells #[.bool f, pv] 51 (0, 0)) ∧
    ORow w.heap.size ((V.setCell ⟨w.heap.size, 0, none⟩ (.bool f)).setCell ⟨w.heap.size, 1, none⟩ pv) pv ops ∧
    RwI ((V.setCell ⟨w.heap.size, 0, none⟩ (.bool f)).setCell ⟨w.heap.size, 1, none⟩ pv) b ao bw off cap L s ∧
    ((V.setCell ⟨w.heap.size, 0, none⟩ (.bool f)).setCell ⟨w.heap.size, 1, none⟩ pv).heap[S]? = some (.cells #[qv] 22 (0, 0)) ∧
    GRow base ((V.setCell ⟨w.heap.size, 0, none⟩ (.bool f)).setCell ⟨w.heap.size, 1, none⟩ pv) qv qs ∧
    Turned (b :: S :: qv0.ownBlock.toList) w ((V.setCell ⟨w.heap.size, 0, none⟩ (.bool f)).setCell ⟨w.heap.size, 1, none⟩ pv) ∧ (∀ g ∈ qv.ownBlock.toList, g ∈ qv0.ownBlock.toList ∨ w.heap.size ≤ g) := by
  have e : ∀ k, k ≠ w.heap.size → ((V.setCell ⟨w.heap.size, 0, none⟩ (.bool f)).setCell ⟨w.heap.size, 1, none⟩ pv).heap[k]? = V.heap[k]? := fun k hk => (Below.heap_setCell _ _ _ _ hk).trans (Below.heap_setCell _ _ _ _ hk)
  refine ⟨two_stored h.res, row_base (row_same hrow fun k hk _ => e k (by omega)) (by omega), RwI.keep h.rd (e _ (by omega)) (fun h0 => e _ (by have := hb h0; omega)), (e _ (by omega)).trans h.sb, ?_, (h.t.setCell (.inr (Nat.le_refl _)) _).setCell (.inr (Nat.le_refl _)) _, h.new⟩
  refine ownsRow_same h.qr fun k hk _ => e k ?_
  rintro rfl
  exact block_off h.res h.qr (by decide) (by simpa using hk : qv.ownBlock = some _).symm
end
/-- What the closure answers. -/
def ClP (L : List Wd) (s : Rd) (w : World) (b : Nat) (ao : Option Addr) (bw off cap : Nat) (S base : Nat) (qv : Value) (qs : List Int) (r : Ending) (w' : World) : Prop :=
  ∃ v qv', r = .returned (.agg #[.bool (progQ L s).1.1, v]) ∧ ORow w.heap.size w' v (progQ L s).1.2 ∧ RwI w' b ao bw off cap L (progQ L s).2 ∧ w'.heap[S]? = some (.cells #[qv'] 22 (0, 0)) ∧ GRow base w' qv' (qs ++ [(s.1 : Int)]) ∧
    Turned (b :: S :: qv.ownBlock.toList) w w' ∧ (∀ g ∈ qv'.ownBlock.toList, g ∈ qv.ownBlock.toList ∨ w.heap.size ≤ g)
set_option maxRecDepth 100000 in
set_option maxHeartbeats 6400000 in
theorem start_any {w : World} {b : Nat} {ao : Option Addr} {bw off cap : Nat} {L : List Wd} {s : Rd} (S base : Nat) (qv : Value) (qs : List Int) (h : RwI w b ao bw off cap L s) (hL : Clean L) (hs : w.heap[S]? = some (.cells #[qv] 22 (0, 0))) (hq : GRow base w qv qs) (hlen : qs.length ≤ 100)
    (hb : b < base) (hbS : b ≠ S) (hbw : 0 < L.length → bw < base ∧ bw ≠ S) (hbase : base ≤ w.heap.size) :
    Calls Tryz.prog 77 #[.pointer (some ⟨b, 0, none⟩), .pointer (some ⟨S, 0, none⟩)] w (ClP L s w b ao bw off cap S base qv qs) := by
  obtain ⟨i0, hi0, hz0, hz1, hz2⟩ := info_parts int_info
  have HI := Lib.hid (ClI.start h hs hq)
  have HBW := Lib.hid (fun h0 => (h.ws.at_ h0).2)
  have HL1 := Lib.hid (lt_of_block h.rd)
  have HL2 := Lib.hid (lt_of_block hs)
  have HB := Lib.hid hbw
  have hpt := fun V (hV : RwI V b ao bw off cap L s) => part_any hV hL
  obtain ⟨⟨⟨f, ops⟩, s'⟩, hP⟩ : ∃ P, progQ L s = P := ⟨_, rfl⟩
  unfold PartO at hpt
  unfold ClP
  simp only [hP] at hpt ⊢
  have HPT := Lib.hid hpt
  clear hpt hP
  obtain ⟨aov, capv, hv, _⟩ := ownsRow_shape hq
  obtain ⟨m, hm⟩ : ∃ m, qs.length = m := ⟨_, rfl⟩
  have HM := Lib.hid hm
  rw [hm] at hv hlen
  subst hv
  have HBS := Lib.hid hbS
  have HBB := Lib.hid hb
  have HBA := Lib.hid hbase
  have hw0 : ∃ W0, w.alloc zeroP = W0 := ⟨_, rfl⟩
  have HW0 := Lib.hid hw0
  clear hw0 h hL hs hq hm hbw hb hbS hbase
  go_enter Tryz.func77, Tryz.ntmps77
  go_wp2_with fail
  obtain ⟨W0, hW0⟩ := HW0.out
  rw [hW0] at HI
  simp only [hW0]
  clear hW0 HW0
  with_reducible refine (met_any HI.out.rd.rd).mono ?_
  rintro r w1 ⟨rfl, q, rfl⟩
  have HI1 := Lib.hid (HI.out.below (below_drewN (Below.refl _ _) q))
  obtain ⟨W1, hW1⟩ : ∃ W1, W0.drewN q = W1 := ⟨_, rfl⟩
  rw [hW1] at HI1 ⊢
  clear hW1
  have s0 := cell1 HI1.out.sb
  have HI2 := Lib.hid (HI1.out.below ((Below.refl _ _).alloc (Nat.le_refl _) (.cells #[.int .i64 (s.1 : Nat)] 3)))
  have hSlt := lt_of_block HI1.out.sb
  go_wp2_with (at_builtin; go_loud (
               refine wpList_append_any _ rfl _ _ 22 rfl 3 i0 (.int .i64 0) 1 8 Tryz.underlying22 hi0 hz0 hz1 hz2 rfl (by decide) _ m (cellsOf gC qs) rfl (row_base (by have h := HI2.out.qr; unfold GRow at h; rw [HM.out] at h; exact h) (Nat.zero_le base)) (some ⟨W1.heap.size, 0, none⟩) 1 1 (gC (s.1 : Nat)) rfl rfl (by intro h; cases h) (by intro ad had; cases had; exact sevint_new _ _) (gC_one' _) (by unfold maxLen; omega) (by omega) ?_
               intro a' cap' w4 hown hgrow hnew
               have hqr := HI2.out.qr
               unfold GRow at hqr
               rw [HM.out] at hqr
               have hpp := HI2.out.push HBB.out HBS.out HL2.out HB.out (by have := lt_of_block HI2.out.res; exact this) (by rw [HM.out]; exact new_rise hqr (Nat.le_trans HBA.out HI2.out.t.size) hown hnew) hgrow hnew
               have s4 := cell1 hpp.1
               have fs4 := not_frozen hpp.1 0
               have HI4 := Lib.hid hpp.2
               clear hown hgrow hnew hpp s0 hqr
               have HW5 : Hid (∃ W5, w4.setCell ⟨S, 0, none⟩ (.slice a' (m + 1) cap') = W5) := ⟨_, rfl⟩))
  obtain ⟨W5, hW5⟩ := HW5.out
  rw [hW5] at HI4 ⊢
  clear hW5 HW5 s4 fs4
  refine (HPT.out _ HI4.out.rd).mono ?_
  rintro r w6 ⟨v, rfl, hrow, hm6⟩
  have HI6 := Lib.hid (HI4.out.moved HBB.out HL1.out HBS.out hm6)
  have HF := Lib.hid (HI6.out.fin HL1.out HL2.out HBW.out hrow (lt_of_block HI4.out.res) f)
  obtain ⟨av, cv, hv, _⟩ := ownsRow_shape hrow
  subst hv
  obtain ⟨z0, z1⟩ := two_cells HI6.out.res
  have fz0 := not_frozen HI6.out.res 0
  have fz1 := not_frozen HI6.out.res 1
  obtain ⟨mo, hmo⟩ : ∃ m, ops.length = m := ⟨_, rfl⟩
  rw [hmo] at HF ⊢
  clear hrow hm6 hmo
  go_wp2
  refine bodyPost_ret (prog_res rfl rfl HF.out.1) rfl ?_
  exact ⟨_, _, rfl, HF.out.2⟩
end Go.Proofs.YtmcfjlkjijaflaaGreatDoor
