/-
  The program's mayHold.
  The law's own small; what is said of the program.
  A row of locks; what more is allowed, plainly.
  The document's Check, of any program.
  Setups as they are read: ints, programs, a setup.
-/
import Derived.Test.YtmcfjlkjijaflaaGreatDoorCrSec
import Derived.Test.YtmcfjlkjijaflaaGreatDoorGBE
import Derived.Test.YtmcfjlkjijaflaaGreatDoorGAA
import Derived.Test.YtmcfjlkjijaflaaGreatDoorGAB

/- The program's mayHold. -/
namespace Go.Proofs.YtmcfjlkjijaflaaGreatDoor
open Go.RowKit

/-- May a section be, of a lock with that Crit? -/
def holdR (f : Bool) (n : Nat) (crit : Int) (S : Nat × Int) : Bool := !(decide (S.2 < 1) || (decide (crit < S.2) || (f && decide (S.1 = n))))
set_option maxRecDepth 100000 in
set_option maxHeartbeats 3200000 in
theorem mayhold_any (f : Bool) (ao : Option Addr) (b off cap : Nat) (L : List Opn) (i : Nat) (crit : Int) (w : World) (h : OArg w ao b off L) (hi : i < L.length) (hm : L.length ≤ 12) (ho : ∀ o ∈ L, opMay o = true) :
    Calls Tryz.prog 116 #[prgV f ao L.length cap, .int .i64 i, .int .i64 crit] w fun e w' => e = .returned (.bool (holdR f L.length crit (secR (L[i]).2.1 (L.drop (i + 1)) (i + 1) 0))) ∧ Below w.heap.size w w' := by
  have hb0 : Below w.heap.size w (w.alloc (.cells #[.bool f, .slice ao L.length cap] 51)) := (Below.refl _ w).alloc (Nat.le_refl _) _
  have hsec := csec_any ao b off cap L i _ (h.below hb0) hi hm ho
  have hbd := (sec_bound (L[i]).2.1 (L.drop (i + 1)) (i + 1) 0 (fun o h => ho o (List.mem_of_mem_drop h))).1
  obtain ⟨lk, hlk⟩ : ∃ lk, (L[i]).2.1 = lk := ⟨_, rfl⟩
  rw [hlk] at hsec hbd ⊢
  obtain ⟨⟨te, tt⟩, hR⟩ : ∃ R, secR lk (L.drop (i + 1)) (i + 1) 0 = R := ⟨_, rfl⟩
  rw [hR] at hsec hbd ⊢
  obtain ⟨n, hn⟩ : ∃ n, L.length = n := ⟨_, rfl⟩
  rw [hn] at hsec ⊢
  simp only at hsec hbd
  have HS := Lib.hid hsec
  clear h hi hm ho hb0 hsec hlk hR hn
  have ho : f = false ∨ (f = true ∧ te = n) ∨ (f = true ∧ ¬ te = n) := by
    cases f with
    | false => exact .inl rfl
    | true =>
      by_cases hh : te = n
      · exact .inr (.inl ⟨rfl, hh⟩)
      · exact .inr (.inr ⟨rfl, hh⟩)
  have ht : tt = 0 ∨ (¬ tt = 0 ∧ tt ≤ crit) ∨ (¬ tt = 0 ∧ ¬ tt ≤ crit) := by omega
  rcases ho with ho | ho | ho
  · rcases ht with ht | ht | ht
    · subst ho
      subst ht
      have HE : holdR false n crit (te, 0) = false := by
        unfold holdR
        simp
      rw [HE]
      clear HE
      go_enter Tryz.func116, Tryz.ntmps116
      go_wp2_with fail
      refine HS.out.mono ?_
      rintro e w1 ⟨rfl, hb⟩
      obtain ⟨hx, hbw⟩ := box_kept hb
      obtain ⟨c0, c1⟩ := two_cells hx
      have hl := lt_of_block hx
      have HB := Lib.hid hbw
      clear hb hbw hx
      go_wp2
      go_ret
      exact ⟨rfl, HB.out.alloc HB.out.size _⟩
    · subst ho
      obtain ⟨h1, h2⟩ := ht
      have hq1 : (tt == 0) = false := by simpa using h1
      have hq2 : (tt != 0) = true := by simpa using h1
      have HE : holdR false n crit (te, tt) = true := by
        unfold holdR
        rw [decide_eq_false (by omega), decide_eq_false (by omega)]
        simp
      rw [HE]
      clear HE
      go_enter Tryz.func116, Tryz.ntmps116
      go_wp2_with fail
      refine HS.out.mono ?_
      rintro e w1 ⟨rfl, hb⟩
      obtain ⟨hx, hbw⟩ := box_kept hb
      obtain ⟨c0, c1⟩ := two_cells hx
      have hl := lt_of_block hx
      have HB := Lib.hid hbw
      clear hb hbw hx
      go_wp2
      go_ret
      exact ⟨rfl, HB.out.alloc HB.out.size _⟩
    · subst ho
      obtain ⟨h1, h2⟩ := ht
      have hq1 : (tt == 0) = false := by simpa using h1
      have hq2 : (tt != 0) = true := by simpa using h1
      have HE : holdR false n crit (te, tt) = false := by
        unfold holdR
        rw [decide_eq_true (show crit < tt by omega)]
        simp
      rw [HE]
      clear HE
      go_enter Tryz.func116, Tryz.ntmps116
      go_wp2_with fail
      refine HS.out.mono ?_
      rintro e w1 ⟨rfl, hb⟩
      obtain ⟨hx, hbw⟩ := box_kept hb
      obtain ⟨c0, c1⟩ := two_cells hx
      have hl := lt_of_block hx
      have HB := Lib.hid hbw
      clear hb hbw hx
      go_wp2
      go_ret
      exact ⟨rfl, HB.out.alloc HB.out.size _⟩
  · rcases ht with ht | ht | ht
    · obtain ⟨rfl, rfl⟩ := ho
      subst ht
      have HE : holdR true te crit (te, 0) = false := by
        unfold holdR
        simp
      rw [HE]
      clear HE
      go_enter Tryz.func116, Tryz.ntmps116
      go_wp2_with fail
      refine HS.out.mono ?_
      rintro e w1 ⟨rfl, hb⟩
      obtain ⟨hx, hbw⟩ := box_kept hb
      obtain ⟨c0, c1⟩ := two_cells hx
      have hl := lt_of_block hx
      have HB := Lib.hid hbw
      clear hb hbw hx
      go_wp2
      go_ret
      exact ⟨rfl, HB.out.alloc HB.out.size _⟩
    · obtain ⟨rfl, rfl⟩ := ho
      obtain ⟨h1, h2⟩ := ht
      have hq1 : (tt == 0) = false := by simpa using h1
      have hq2 : (tt != 0) = true := by simpa using h1
      have HE : holdR true te crit (te, tt) = false := by
        unfold holdR
        rw [decide_eq_false (by omega), decide_eq_false (by omega)]
        simp
      rw [HE]
      clear HE
      go_enter Tryz.func116, Tryz.ntmps116
      go_wp2_with fail
      refine HS.out.mono ?_
      rintro e w1 ⟨rfl, hb⟩
      obtain ⟨hx, hbw⟩ := box_kept hb
      obtain ⟨c0, c1⟩ := two_cells hx
      have hl := lt_of_block hx
      have HB := Lib.hid hbw
      clear hb hbw hx
      go_wp2
      go_ret
      exact ⟨rfl, HB.out.alloc HB.out.size _⟩
    · obtain ⟨rfl, rfl⟩ := ho
      obtain ⟨h1, h2⟩ := ht
      have hq1 : (tt == 0) = false := by simpa using h1
      have hq2 : (tt != 0) = true := by simpa using h1
      have HE : holdR true te crit (te, tt) = false := by
        unfold holdR
        rw [decide_eq_true (show crit < tt by omega)]
        simp
      rw [HE]
      clear HE
      go_enter Tryz.func116, Tryz.ntmps116
      go_wp2_with fail
      refine HS.out.mono ?_
      rintro e w1 ⟨rfl, hb⟩
      obtain ⟨hx, hbw⟩ := box_kept hb
      obtain ⟨c0, c1⟩ := two_cells hx
      have hl := lt_of_block hx
      have HB := Lib.hid hbw
      clear hb hbw hx
      go_wp2
      go_ret
      exact ⟨rfl, HB.out.alloc HB.out.size _⟩
  · rcases ht with ht | ht | ht
    · obtain ⟨rfl, hne⟩ := ho
      have hq : ((te : Int) == (n : Int)) = false := by
        rw [beq_eq_false_iff_ne]
        omega
      have hz : ¬ (te : Int) = n := by omega
      subst ht
      have HE : holdR true n crit (te, 0) = false := by
        unfold holdR
        simp
      rw [HE]
      clear HE
      go_enter Tryz.func116, Tryz.ntmps116
      go_wp2_with fail
      refine HS.out.mono ?_
      rintro e w1 ⟨rfl, hb⟩
      obtain ⟨hx, hbw⟩ := box_kept hb
      obtain ⟨c0, c1⟩ := two_cells hx
      have hl := lt_of_block hx
      have HB := Lib.hid hbw
      clear hb hbw hx
      go_wp2
      go_ret
      exact ⟨rfl, HB.out.alloc HB.out.size _⟩
    · obtain ⟨rfl, hne⟩ := ho
      have hq : ((te : Int) == (n : Int)) = false := by
        rw [beq_eq_false_iff_ne]
        omega
      have hz : ¬ (te : Int) = n := by omega
      obtain ⟨h1, h2⟩ := ht
      have hq1 : (tt == 0) = false := by simpa using h1
      have hq2 : (tt != 0) = true := by simpa using h1
      have HE : holdR true n crit (te, tt) = true := by
        unfold holdR
        rw [decide_eq_false (by omega), decide_eq_false (by omega)]
        simp [hne]
      rw [HE]
      clear HE
      go_enter Tryz.func116, Tryz.ntmps116
      go_wp2_with fail
      refine HS.out.mono ?_
      rintro e w1 ⟨rfl, hb⟩
      obtain ⟨hx, hbw⟩ := box_kept hb
      obtain ⟨c0, c1⟩ := two_cells hx
      have hl := lt_of_block hx
      have HB := Lib.hid hbw
      clear hb hbw hx
      go_wp2
      go_ret
      exact ⟨rfl, HB.out.alloc HB.out.size _⟩
    · obtain ⟨rfl, hne⟩ := ho
      have hq : ((te : Int) == (n : Int)) = false := by
        rw [beq_eq_false_iff_ne]
        omega
      have hz : ¬ (te : Int) = n := by omega
      obtain ⟨h1, h2⟩ := ht
      have hq1 : (tt == 0) = false := by simpa using h1
      have hq2 : (tt != 0) = true := by simpa using h1
      have HE : holdR true n crit (te, tt) = false := by
        unfold holdR
        rw [decide_eq_true (show crit < tt by omega)]
        simp
      rw [HE]
      clear HE
      go_enter Tryz.func116, Tryz.ntmps116
      go_wp2_with fail
      refine HS.out.mono ?_
      rintro e w1 ⟨rfl, hb⟩
      obtain ⟨hx, hbw⟩ := box_kept hb
      obtain ⟨c0, c1⟩ := two_cells hx
      have hl := lt_of_block hx
      have HB := Lib.hid hbw
      clear hb hbw hx
      go_wp2
      go_ret
      exact ⟨rfl, HB.out.alloc HB.out.size _⟩
end Go.Proofs.YtmcfjlkjijaflaaGreatDoor

/- The law's own small; what is said of the program. -/
namespace Go.Proofs.YtmcfjlkjijaflaaGreatDoor
open Go.RowKit

end Go.Proofs.YtmcfjlkjijaflaaGreatDoor

/- A row of locks; what more is allowed, plainly. -/
namespace Go.Proofs.YtmcfjlkjijaflaaGreatDoor
open Go.RowKit

def lkC (x : Lk) : List Value := [.bool x.1, .int .i64 x.2.1, .int .i64 x.2.2.1, .int .i64 x.2.2.2.1, .int .i64 x.2.2.2.2]
theorem lkC_len (x : Lk) : (lkC x).length = 5 := rfl
theorem lkC_one (x : Lk) : ∀ u ∈ lkC x, u.oneCell' = true := by
  intro u hu
  simp only [lkC, List.mem_cons, List.not_mem_nil, or_false] at hu
  rcases hu with rfl | rfl | rfl | rfl | rfl <;> rfl
theorem lock_info : (Tryz.prog.info? 48).map (fun i => (i.zero, i.size, i.bytes)) = some (some (.agg #[.bool false, .int .i64 0, .int .i64 0, .int .i64 0, .int .i64 0]), 5, 40) := by kernel_rfl
/-- A row of locks. -/
abbrev LkRow (base : Nat) (w : World) (v : Value) (L : List Lk) : Prop := w.ownsRow base 48 5 v L.length (cellsOf lkC L)
theorem LArg.of_row {base : Nat} {w : World} {v : Value} {L : List Lk} (h : LkRow base w v L) : ∃ ao b cap, v = .slice ao L.length cap ∧ LArg w ao b 0 L := by
  by_cases h0 : 0 < L.length
  · obtain ⟨g, cap, rfl, _, _⟩ := ownsRow_pos h h0
    refine ⟨_, g, cap, rfl, fun _ => ⟨rfl, (h.lt g (by simp [Value.ownBlock])).2⟩, fun i hi => ?_⟩
    have hk : ∀ q, q < 5 → w.cell? ⟨g, 0 + i * 5 + q, none⟩ = (lkC L[i])[q]? := fun q hq => by
      rw [Nat.zero_add, h.cellAt _ (by omega)]
      exact cellsOf_get lkC_len L i q hi hq
    exact ⟨hk 0 (by omega), hk 1 (by omega), hk 2 (by omega), hk 3 (by omega), hk 4 (by omega)⟩
  · obtain ⟨ao, cap, rfl, _⟩ := ownsRow_shape h
    exact ⟨ao, 0, cap, rfl, fun h => absurd h h0, fun i hi => absurd (Nat.lt_of_le_of_lt (Nat.zero_le _) hi) h0⟩
theorem five_new (W : World) (a b c d e : Value) (t : TypeId) : ∀ (j : Nat) (u : Value), [a, b, c, d, e][j]? = some u → (W.alloc (.cells #[a, b, c, d, e] t)).cell? ((⟨W.heap.size, 0, none⟩ : Addr).add j) = some u := by
  intro j u hj
  rw [Addr.add_lit]
  match j, hj with
  | 0, hj | 1, hj | 2, hj | 3, hj | 4, hj =>
    simp at hj
    subst hj
    simp
theorem five_cells {w : World} {B : Nat} {a b c d e : Value} {t : TypeId} (h : w.heap[B]? = some (.cells #[a, b, c, d, e] t (0, 0))) :
    w.cell? ⟨B, 0, none⟩ = some a ∧ w.cell? ⟨B, 1, none⟩ = some b ∧ w.cell? ⟨B, 2, none⟩ = some c ∧ w.cell? ⟨B, 3, none⟩ = some d ∧ w.cell? ⟨B, 4, none⟩ = some e ∧ ∀ i, w.frozen? ⟨B, i, none⟩ = false :=
  ⟨by simp [World.cell?, h], by simp [World.cell?, h], by simp [World.cell?, h], by simp [World.cell?, h], by simp [World.cell?, h], fun i => frozen_of_row w B i _ t h⟩
end Go.Proofs.YtmcfjlkjijaflaaGreatDoor

/- The document's Check, of any program. -/
namespace Go.Proofs.YtmcfjlkjijaflaaGreatDoor
open Go.RowKit

set_option maxRecDepth 100000 in
set_option maxHeartbeats 1600000 in
theorem rcheck_not (f : Bool) (ao : Option Addr) (b off cap : Nat) (L : List Opn) (ao2 : Option Addr) (m cap2 : Nat) (progs : Int) (w : World) (h : OArg w ao b off L) (hs : ∀ x ∈ L, small x.1) (hl : L.length ≤ 100000) (hq : mayR (f, L) = false) :
    Calls Tryz.prog 26 #[prgV f ao L.length cap, .slice ao2 m cap2, .int .i64 progs] w (CkP (0, 1) w) := by
  have hb0 : Below w.heap.size w (w.alloc (.cells #[.bool f, .slice ao L.length cap] 51)) := (Below.refl _ w).alloc (Nat.le_refl _) _
  have hmay := rmay_any f ao b off cap L _ (h.below hb0) hl hs
  rw [hq] at hmay
  obtain ⟨n, hn⟩ : ∃ n, L.length = n := ⟨_, rfl⟩
  rw [hn] at hmay ⊢
  have HMAY := Lib.hid hmay
  clear h hs hq hb0 hmay hn hl
  go_enter Tryz.func26, Tryz.ntmps26
  go_wp2_with fail
  refine HMAY.out.mono ?_
  rintro e w1 ⟨rfl, hb1⟩
  have HB := Lib.hid (box_kept hb1).2
  clear hb1
  go_wp2
  go_ret2
  exact ⟨rfl, HB.out⟩
/-- Check of any program, any locks. -/
theorem rcheck_any (f : Bool) (ao : Option Addr) (b off cap : Nat) (L : List Opn) (ao2 : Option Addr) (b2 off2 cap2 : Nat) (locks : List Lk) (progs : Int) (w : World) (h : OArg w ao b off L) (hl : LArg w ao2 b2 off2 locks) (hs : ∀ x ∈ L, small x.1) (hm : L.length ≤ 100000) (hm2 : locks.length ≤ 100000) :
    Calls Tryz.prog 26 #[prgV f ao L.length cap, .slice ao2 locks.length cap2, .int .i64 progs] w (CkP (checkR (f, L) locks progs) w) := by
  unfold checkR
  cases hq : mayR (f, L) with
  | true => exact rcheck_may f ao b off cap L ao2 b2 off2 cap2 locks progs w h hl hs hm2 hq
  | false => exact rcheck_not f ao b off cap L ao2 locks.length cap2 progs w h hs hm hq
end Go.Proofs.YtmcfjlkjijaflaaGreatDoor

/- Setups as they are read: ints, programs, a setup. -/
namespace Go.Proofs.YtmcfjlkjijaflaaGreatDoor
open Go.RowKit

/-- A slice of ints as it is read. -/
structure IArg (w : World) (ao : Option Addr) (b off : Nat) (L : List Int) : Prop where
  at_ : 0 < L.length → ao = some ⟨b, off, none⟩ ∧ b < w.heap.size
  cells : ∀ i (hi : i < L.length), w.cell? ⟨b, off + i, none⟩ = some (.int .i64 L[i])
theorem IArg.below {w w' : World} {ao : Option Addr} {b off : Nat} {L : List Int} (h : IArg w ao b off L) (hb : Below w.heap.size w w') : IArg w' ao b off L := by
  refine ⟨fun h0 => ⟨(h.at_ h0).1, Nat.lt_of_lt_of_le (h.at_ h0).2 hb.size⟩, fun i hi => ?_⟩
  have hl := (h.at_ (by omega)).2
  exact (hb.cell (p := ⟨b, off + i, none⟩) hl).trans (h.cells i hi)
/-- A slice of programs as it is read. -/
structure GArg (w : World) (ao : Option Addr) (b off : Nat) (L : List Prg) : Prop where
  at_ : 0 < L.length → ao = some ⟨b, off, none⟩ ∧ b < w.heap.size
  cells : ∀ i (hi : i < L.length), ∃ (ai : Option Addr) (bi oi ci : Nat), w.cell? ⟨b, off + i * 2, none⟩ = some (.bool L[i].1) ∧ w.cell? ⟨b, off + i * 2 + 1, none⟩ = some (.slice ai L[i].2.length ci) ∧ OArg w ai bi oi L[i].2
theorem GArg.below {w w' : World} {ao : Option Addr} {b off : Nat} {L : List Prg} (h : GArg w ao b off L) (hb : Below w.heap.size w w') : GArg w' ao b off L := by
  refine ⟨fun h0 => ⟨(h.at_ h0).1, Nat.lt_of_lt_of_le (h.at_ h0).2 hb.size⟩, fun i hi => ?_⟩
  have hl := (h.at_ (by omega)).2
  obtain ⟨ai, bi, oi, ci, h0, h1, h2⟩ := h.cells i hi
  exact ⟨ai, bi, oi, ci, (hb.cell (p := ⟨b, off + i * 2, none⟩) hl).trans h0, (hb.cell (p := ⟨b, off + i * 2 + 1, none⟩) hl).trans h1, h2.below hb⟩
abbrev stC (c g : Int) (ag : Option Addr) (ng cg : Nat) (al : Option Addr) (nl cl : Nat) (ap : Option Addr) (np cp : Nat) : Array Value := #[.int .i64 c, .int .i64 g, .slice ag ng cg, .slice al nl cl, .slice ap np cp]
/-- A setup as it is read. -/
structure SArg (w : World) (s : Stp) (ag : Option Addr) (bg og : Nat) (al : Option Addr) (bl ol : Nat) (ap : Option Addr) (bp op : Nat) : Prop where
  gs : IArg w ag bg og s.2.2.1
  ls : LArg w al bl ol s.2.2.2.1
  ps : GArg w ap bp op s.2.2.2.2
theorem SArg.below {w w' : World} {s : Stp} {ag : Option Addr} {bg og : Nat} {al : Option Addr} {bl ol : Nat} {ap : Option Addr} {bp op : Nat} (h : SArg w s ag bg og al bl ol ap bp op) (hb : Below w.heap.size w w') : SArg w' s ag bg og al bl ol ap bp op :=
  ⟨h.gs.below hb, h.ls.below hb, h.ps.below hb⟩
/-- How great a setup's parts may be. -/
structure SSize (s : Stp) : Prop where
  g : s.2.2.1.length ≤ 100000
  l : s.2.2.2.1.length ≤ 100000
  p : s.2.2.2.2.length ≤ 100000
  ops : ∀ x ∈ s.2.2.2.2, x.2.length ≤ 100000 ∧ ∀ o ∈ x.2, small o.1
theorem st_cells {w : World} {B : Nat} {a b c d e : Value} {t : TypeId} (h : w.heap[B]? = some (.cells #[a, b, c, d, e] t (0, 0))) :
    w.cell? ⟨B, 0, none⟩ = some a ∧ w.cell? ⟨B, 1, none⟩ = some b ∧ w.cell? ⟨B, 2, none⟩ = some c ∧ w.cell? ⟨B, 3, none⟩ = some d ∧ w.cell? ⟨B, 4, none⟩ = some e := by
  refine ⟨?_, ?_, ?_, ?_, ?_⟩ <;> simp [World.cell?, h]
theorem mayS_eq (c g : Int) (gs : List Int) (ls : List Lk) (ps : List Prg) :
    mayS (c, g, gs, ls, ps) = (inS c 4 && (inS g 8 && (inS gs.length 4 && (decide (ls.length ≤ 8) && (inS ps.length 8 && (gs.all (inS · 16) && (ls.all lkMay && ps.all (fitS ls ps.length)))))))) := by
  unfold mayS
  simp only [Bool.and_assoc]
theorem rwithin_any (n most : Int) (w : World) : Calls Tryz.prog 25 #[.int .i64 n, .int .i64 most] w fun e w' => e = .returned (.bool (inS n most)) ∧ w' = w := by
  by_cases h1 : 1 ≤ n
  · have e : inS n most = decide (n ≤ most) := by simp [inS, h1]
    rw [e]
    go_enter Tryz.func25, Tryz.ntmps25
    go_wp2
    go_ret
    exact ⟨rfl, rfl⟩
  · have e : inS n most = false := by simp [inS, h1]
    rw [e]
    go_enter Tryz.func25, Tryz.ntmps25
    go_wp2
    go_ret
    exact ⟨rfl, rfl⟩
end Go.Proofs.YtmcfjlkjijaflaaGreatDoor
