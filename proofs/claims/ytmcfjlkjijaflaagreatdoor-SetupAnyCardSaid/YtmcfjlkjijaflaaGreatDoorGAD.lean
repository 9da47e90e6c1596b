/-
  Ops and programs as values, in cells, in rows.
  The program's add.
  The program's Join.
-/
import Derived.Test.YtmcfjlkjijaflaaGreatDoorGAC
import Derived.Test.YtmcfjlkjijaflaaGreatDoorGAB

/- Ops and programs as values, in cells, in rows. -/
namespace Go.Proofs.YtmcfjlkjijaflaaGreatDoor
open Go.RowKit

/-- An op as a value; its cells; those of many. -/
def opC (o : Opn) : List Value := [.int .i64 o.1, .int .i64 o.2.1, .int .i64 o.2.2]
def opV (o : Opn) : Value := .agg #[.int .i64 o.1, .int .i64 o.2.1, .int .i64 o.2.2]
abbrev opsC (L : List Opn) : List Value := L.flatMap opC
theorem opC_len (x : Opn) : (opC x).length = 3 := rfl
theorem opsC_len : ∀ L : List Opn, (opsC L).length = L.length * 3
  | [] => rfl
  | x :: L => by
    have := opsC_len L
    simp only [opsC, List.flatMap_cons, List.length_append, opC_len, List.length_cons] at this ⊢
    omega
theorem opsC_get : ∀ (L : List Opn) (j i : Nat) (hj : j < L.length), i < 3 → (opsC L)[j * 3 + i]? = (opC L[j])[i]?
  | x :: L, 0, i, _, hi => by
    simp only [opsC, List.flatMap_cons, Nat.zero_mul, Nat.zero_add, List.getElem_cons_zero]
    rw [List.getElem?_append_left (by rw [opC_len]; exact hi)]
  | x :: L, j + 1, i, hj, hi => by
    have ih := opsC_get L j i (by simpa using hj) hi
    have e : (j + 1) * 3 + i = (opC x).length + (j * 3 + i) := by rw [opC_len]; omega
    simp only [opsC, List.flatMap_cons, List.getElem_cons_succ] at ih ⊢
    rw [e, List.getElem?_append_right (by omega), Nat.add_sub_cancel_left]
    exact ih
theorem opsC_snoc (L : List Opn) (x : Opn) : opsC (L ++ [x]) = opsC L ++ opC x := by simp [opsC]
/-- A row of ops. -/
abbrev ORow (base : Nat) (w : World) (v : Value) (L : List Opn) : Prop := w.ownsRow base 109 3 v L.length (opsC L)
theorem row_op {base : Nat} {w : World} {g n cap : Nat} {L : List Opn} (h : ORow base w (.slice (some ⟨g, 0, none⟩) n cap) L) (j : Nat) (hj : j < L.length) :
    w.cell? ⟨g, j * 3, none⟩ = some (.int .i64 L[j].1) ∧ w.cell? ⟨g, j * 3 + 1, none⟩ = some (.int .i64 L[j].2.1) ∧ w.cell? ⟨g, j * 3 + 2, none⟩ = some (.int .i64 L[j].2.2) := by
  obtain ⟨_, _, h1, _⟩ := ownsRow_shape h
  simp only [Value.slice.injEq] at h1
  obtain ⟨_, rfl, _⟩ := h1
  refine ⟨?_, ?_, ?_⟩
  · rw [h.cellAt _ (by omega)]; exact opsC_get L j 0 hj (by omega)
  · rw [h.cellAt _ (by omega)]; exact opsC_get L j 1 hj (by omega)
  · rw [h.cellAt _ (by omega)]; exact opsC_get L j 2 hj (by omega)
theorem op_info : (Tryz.prog.info? 109).map (fun i => (i.zero, i.size, i.bytes)) = some (some (.agg #[.int .i64 0, .int .i64 0, .int .i64 0]), 3, 24) := by kernel_rfl
/-- A slice of ops, as it is read. -/
structure OArg (w : World) (ao : Option Addr) (b off : Nat) (L : List Opn) : Prop where
  at_ : 0 < L.length → ao = some ⟨b, off, none⟩ ∧ b < w.heap.size
  cells : ∀ i (hi : i < L.length), w.cell? ⟨b, off + i * 3, none⟩ = some (.int .i64 L[i].1) ∧ w.cell? ⟨b, off + i * 3 + 1, none⟩ = some (.int .i64 L[i].2.1) ∧ w.cell? ⟨b, off + i * 3 + 2, none⟩ = some (.int .i64 L[i].2.2)
theorem OArg.below {w w' : World} {ao : Option Addr} {b off : Nat} {L : List Opn} (h : OArg w ao b off L) (hb : Below w.heap.size w w') : OArg w' ao b off L := by
  refine ⟨fun h0 => ⟨(h.at_ h0).1, Nat.lt_of_lt_of_le (h.at_ h0).2 hb.size⟩, fun i hi => ?_⟩
  have hl := (h.at_ (by omega)).2
  obtain ⟨h0, h1, h2⟩ := h.cells i hi
  exact ⟨(hb.cell (p := ⟨b, off + i * 3, none⟩) hl).trans h0, (hb.cell (p := ⟨b, off + i * 3 + 1, none⟩) hl).trans h1, (hb.cell (p := ⟨b, off + i * 3 + 2, none⟩) hl).trans h2⟩
theorem OArg.of_row {base : Nat} {w : World} {v : Value} {L : List Opn} (h : ORow base w v L) : ∃ ao b cap, v = .slice ao L.length cap ∧ OArg w ao b 0 L := by
  by_cases h0 : 0 < L.length
  · obtain ⟨g, cap, rfl, _, _⟩ := ownsRow_pos h h0
    refine ⟨_, g, cap, rfl, fun _ => ⟨rfl, (h.lt g (by simp [Value.ownBlock])).2⟩, fun i hi => ?_⟩
    have hr := row_op h i hi
    simpa using hr
  · obtain ⟨a, cap, rfl, _, _⟩ := ownsRow_shape h
    exact ⟨a, 0, cap, rfl, fun h => absurd h h0, fun i hi => by omega⟩
/-- A program as it is read. -/
abbrev prgV (f : Bool) (ao : Option Addr) (n cap : Nat) : Value := .agg #[.bool f, .slice ao n cap]
end Go.Proofs.YtmcfjlkjijaflaaGreatDoor

/- The program's add. -/
namespace Go.Proofs.YtmcfjlkjijaflaaGreatDoor
open Go.RowKit

def AddPost (base : Nat) (l : List By) (w : World) (e : Ending) (w' : World) : Prop := ∃ v, e = .returned v ∧ BRow base w' v l ∧ Below base w w'
set_option maxHeartbeats 800000 in
theorem add_plain {base : Nat} {w : World} {v : Value} {l : List By} (h : BRow base w v l) (hb : base ≤ w.heap.size) (t : ByteArray) (hl : l.length + t.size ≤ 1000000) (hc : ¬ (l ≠ [] ∧ t.data.toList ≠ [59])) :
    Calls Tryz.prog 48 #[v, .string t] w (AddPost base (l ++ t.data.toList) w) := by
  obtain ⟨i0, hi0, hz0, hz1, hz2⟩ := info_parts byte_info
  obtain ⟨a, cap, rfl, _, _⟩ := ownsRow_shape h
  have HO : Hid (w.ownsRow base 5 1 (.slice a l.length cap) l.length (bC l)) := h
  rw [← Lib.toList_data] at hc
  have HE : Hid (l.length + t.size = (l ++ t.data.toList).length ∧ bC l ++ Lib.strCells t = bC (l ++ t.data.toList)) := by
    refine ⟨by rw [List.length_append, ← Lib.size_eq], ?_⟩
    unfold bC
    rw [List.map_append]
    rfl
  have fin : ∀ v' w2, w2.ownsRow base 5 1 v' (l.length + t.size) (bC l ++ Lib.strCells t) → w.grownBy w2 (Value.ownBlock (.slice a l.length cap)) → AddPost base (l ++ t.data.toList) w (.returned v') w2 := fun v' w2 h1 h2 => by
    rw [HE.out.1, HE.out.2] at h1
    exact ⟨v', rfl, h1, app_below (Below.refl _ _) hb (Nat.le_refl _) HO.out h2⟩
  have FIN := Lib.hid fin
  obtain ⟨L, hL⟩ : ∃ L, l ++ t.data.toList = L := ⟨_, rfl⟩
  rw [hL] at FIN ⊢
  obtain ⟨n, hn⟩ : ∃ n, l.length = n := ⟨_, rfl⟩
  rw [hn] at HO FIN hl ⊢
  have hd : n = 0 ∨ (0 < n ∧ (t.toList == [59]) = true) := by
    by_cases h0 : l = []
    · left
      rw [← hn, h0]
      rfl
    · right
      refine ⟨by rw [← hn]; exact List.length_pos_iff.2 h0, ?_⟩
      simp [h0] at hc
      simp [hc]
  clear hL hn hc h fin HE
  rcases hd with rfl | ⟨h0, h59⟩
  · go_enter Tryz.func48, Tryz.ntmps48
    go_wp2_with (at_builtin; refine Lib.wpList_append_own_string _ rfl _ _ 90 9 rfl base 5 i0 Tryz.underlying90 Tryz.underlying9 hi0 hz0 hz1 hz2 _ _ _ rfl HO.out t rfl ?c1 ?c2 ?c3 ?_)
    case c1 => unfold maxLen; omega
    case c2 => omega
    case c3 => exact hb
    intro v' w2 h1 h2 _
    have HF := Lib.hid (FIN.out v' w2 (by rw [Nat.zero_add]; exact h1) h2)
    clear h1 h2
    go_wp2
    go_ret
    exact HF.out
  · go_enter Tryz.func48, Tryz.ntmps48
    go_wp2_with (at_builtin; refine Lib.wpList_append_own_string _ rfl _ _ 90 9 rfl base 5 i0 Tryz.underlying90 Tryz.underlying9 hi0 hz0 hz1 hz2 _ _ _ rfl HO.out t rfl ?d1 ?d2 ?d3 ?_)
    case d1 => unfold maxLen; omega
    case d2 => omega
    case d3 => exact hb
    intro v' w2 h1 h2 _
    have HF := Lib.hid (FIN.out v' w2 h1 h2)
    clear h1 h2
    go_wp2
    go_ret
    exact HF.out
set_option maxHeartbeats 800000 in
theorem add_blank {base : Nat} {w : World} {v : Value} {l : List By} (h : BRow base w v l) (hb : base ≤ w.heap.size) (t : ByteArray) (hl : l.length + t.size ≤ 1000000) (hc : l ≠ [] ∧ t.data.toList ≠ [59]) :
    Calls Tryz.prog 48 #[v, .string t] w (AddPost base (l ++ [32] ++ t.data.toList) w) := by
  obtain ⟨i0, hi0, hz0, hz1, hz2⟩ := info_parts byte_info
  obtain ⟨a, cap, rfl, _, _⟩ := ownsRow_shape h
  have HO : Hid (w.ownsRow base 5 1 (.slice a l.length cap) l.length (bC l)) := h
  rw [← Lib.toList_data] at hc
  have h0 : 0 < l.length := List.length_pos_iff.2 hc.1
  have h59 : (t.toList == [59]) = false := by simpa using hc.2
  have HE : Hid (l.length + 1 + t.size = (l ++ [32] ++ t.data.toList).length ∧ bC l ++ [.int .u8 32] ++ Lib.strCells t = bC (l ++ [32] ++ t.data.toList)) := by
    refine ⟨by rw [List.length_append, List.length_append, ← Lib.size_eq]; rfl, ?_⟩
    unfold bC
    rw [List.map_append, List.map_append]
    rfl
  obtain ⟨L, hL⟩ : ∃ L, l ++ [32] ++ t.data.toList = L := ⟨_, rfl⟩
  rw [hL] at HE ⊢
  obtain ⟨n, hn⟩ : ∃ n, l.length = n := ⟨_, rfl⟩
  rw [hn] at HO HE hl h0 ⊢
  clear hL hn hc h
  go_enter Tryz.func48, Tryz.ntmps48
  go_wp2_with (at_builtin; refine wpList_append_own _ rfl _ _ 90 rfl base 5 i0 (.int .u8 0) 1 1 Tryz.underlying90 hi0 hz0 hz1 hz2 rfl (by decide) _ _ _ rfl (HO.out.alloc _) ⟨w.heap.size, 0, none⟩ 1 1 [.int .u8 32] rfl rfl ?c1 ?c2 ?c3 ?c4 ?c5 ?_)
  case c1 =>
    intro j u hj
    rw [Addr.add_lit]
    match j, hj with
    | 0, hj =>
      simp at hj
      subst hj
      exact one_cell w _ _
  case c2 => intro u hu; simp at hu; subst hu; rfl
  case c3 => unfold maxLen; omega
  case c4 => omega
  case c5 => first | omega | (simp; omega) | trace_state
  intro v1 w1 h1 h2 _
  have hb1 := app_below ((Below.refl base w).alloc hb _) hb (Nat.le_refl _) HO.out h2
  have hs1 := hb1.size
  have HO1 := Lib.hid h1
  have HB1 := Lib.hid hb1
  clear h1 h2 hb1
  go_wp2_with (at_builtin; refine Lib.wpList_append_own_string _ rfl _ _ 90 9 rfl base 5 i0 Tryz.underlying90 Tryz.underlying9 hi0 hz0 hz1 hz2 _ _ _ rfl HO1.out t rfl ?d1 ?d2 ?d3 ?_)
  case d1 => unfold maxLen; omega
  case d2 => omega
  case d3 => omega
  intro v2 w2 h1 h2 _
  have HB2 := Lib.hid (app_below HB1.out hb (Nat.le_refl _) HO1.out h2)
  have HO2 : Hid (BRow base w2 v2 L) := by
    unfold Hid BRow
    rw [← HE.out.1, ← HE.out.2, List.append_assoc]
    exact h1
  clear h1 h2
  go_wp2
  go_ret
  exact ⟨_, rfl, HO2.out, HB2.out⟩
theorem add_any {base : Nat} {w : World} {v : Value} {l : List By} (h : BRow base w v l) (hb : base ≤ w.heap.size) (t : ByteArray) (hl : l.length + t.size ≤ 1000000) :
    Calls Tryz.prog 48 #[v, .string t] w (AddPost base (addR l t.data.toList) w) := by
  unfold addR
  by_cases hc : l ≠ [] ∧ t.data.toList ≠ [59]
  · rw [if_pos hc]
    exact add_blank h hb t hl hc
  · rw [if_neg hc]
    exact add_plain h hb t hl hc
end Go.Proofs.YtmcfjlkjijaflaaGreatDoor

/- The program's Join. -/
namespace Go.Proofs.YtmcfjlkjijaflaaGreatDoor
open Go.RowKit

theorem addR_ge (out s : List By) : out.length ≤ (addR out s).length := by
  unfold addR
  split <;> simp
theorem join_over {L : List Wd} {out : List By} (h : joinF L [] = some out) (hl : 8000 < out.length) {w w' : World} (hb : Below w.heap.size w w') : JoinPost L w (.returned (.tuple #[.string ⟨#[]⟩, .int .i64 6])) w' := by
  unfold JoinPost joinA
  rw [h]
  simp only
  rw [if_pos hl]
  exact ⟨rfl, hb⟩
set_option maxRecDepth 100000 in
set_option maxHeartbeats 3200000 in
theorem join_long (ao : Option Addr) (b off cap : Nat) (L : List Wd) (w : World) (h : WArg w ao b off L) (hL : L.length ≤ 1000000) (hx : ∀ x ∈ L, x.2.1.length ≤ 40) (hT : TabOk w) :
    Calls Tryz.prog 20 #[.slice ao L.length cap] w (JoinPost L w) := by
  have HA := Lib.hid h
  have HX := Lib.hid hx
  have HT := Lib.hid hT
  obtain ⟨n, hn⟩ : ∃ n, L.length = n := ⟨_, rfl⟩
  have HN := Lib.hid hn
  rw [hn] at hL ⊢
  clear h hx hT hn
  go_enter Tryz.func20, Tryz.ntmps20
  go_wp2
  go_loopw [4, 11] (fun v i' wr => ∃ (i : Nat) (out outT : List By), i' = .int .i64 i ∧ i ≤ n ∧ Hid (joinF L [] = joinF (L.drop i) outT) ∧ Hid (BRow w.heap.size wr v out) ∧ Hid (Below w.heap.size w wr) ∧ Hid (out.length ≤ 8041 ∧ (out = outT ∨ 8000 < out.length ∧ 8000 < outT.length))) (fun _ i' _ => n - (intOf i').toNat)
  case atStart => exact ⟨0, [], [], rfl, Nat.zero_le _, rfl, World.ownsRow_nil _ _ _ _, Below.refl _ _, Lib.hid ⟨Nat.zero_le _, .inl rfl⟩⟩
  case round =>
    obtain ⟨i, out, outT, rfl, hi, HE, HO, HB, HL⟩ := hrel
    obtain ⟨av, cv, rfl, _, _⟩ := ownsRow_shape HO.out
    by_cases hlt : i < n
    · have hlt' : i < L.length := by rw [HN.out]; exact hlt
      have ha := HA.out.below HB.out
      obtain ⟨rfl, hbl⟩ := ha.at_ (by omega)
      obtain ⟨c0, c1, c2, c3⟩ := ha.cells i hlt'
      have hd : L.drop i = L[i] :: L.drop (i + 1) := List.drop_eq_getElem_cons hlt'
      have hx := HX.out L[i] (List.getElem_mem hlt')
      obtain ⟨⟨k, l, m, p⟩, hxe⟩ : ∃ x, L[i] = x := ⟨_, rfl⟩
      rw [hxe] at c0 c1 c2 c3 hd hx
      simp only at c0 c1 c2 c3 hx
      have hsz : (⟨l.toArray⟩ : ByteArray).size = l.length := by rw [Lib.size_eq]
      have HTX := Lib.hid (fun W hW => text_any k ⟨l.toArray⟩ m p W (by rw [hsz]; unfold maxLen; omega) hW)
      have hn2 := HE.out
      rw [hd, joinF_cons] at hn2
      have hle := HB.out.size
      have HC := Lib.hid (show TabOk (wr.alloc (.cells #[.int .i64 k, .string ⟨l.toArray⟩, .int .i64 m, .int .i64 p] 72)) from (HT.out.below HB.out).below ((Below.refl _ _).alloc (Nat.le_refl _) _))
      obtain ⟨tx, htx⟩ : ∃ tx : ByteArray, ⟨l.toArray⟩ = tx := ⟨_, rfl⟩
      rw [htx] at c1 HTX HC
      have hlx : ∀ s, textR (k, l, m, p) = some s → s.length ≤ 40 := fun s hs => textR_len hs hx
      cases hs : textR (k, l, m, p) with
      | none =>
        have e : textA (k, l, m, p) = ([], 1) := by unfold textA; rw [hs]
        rw [hs] at hn2
        rw [show tx.data.toList = l by rw [← htx], e] at HTX
        have HJ := Lib.hid hn2
        clear e hs hn2 hd hxe hx hlx htx hsz ha hlt'
        go_wp2_with fail
        with_reducible refine (HTX.out _ HC.out).mono ?_
        rintro e w2 ⟨rfl, hb2⟩
        have HB2 := Lib.hid hb2
        clear hb2
        go_wp2
        go_ret2
        exact join_none HJ.out ((HB.out.alloc hle _).trans (HB2.out.mono (by simp; omega)))
      | some s =>
        have e : textA (k, l, m, p) = (s, 0) := by unfold textA; rw [hs]
        rw [hs] at hn2
        rw [show tx.data.toList = l by rw [← htx], e] at HTX
        have HJ := Lib.hid hn2
        have h40 := hlx s hs
        have HD : Hid (∃ r : ByteArray, (⟨s.toArray⟩ : ByteArray) = r ∧ r.data.toList = s ∧ r.size = s.length) := ⟨_, rfl, rfl, by rw [Lib.size_eq]⟩
        obtain ⟨r, hr1, hr2, hr3⟩ := HD.out
        simp only at HTX
        rw [hr1] at HTX
        by_cases h8 : out.length ≤ 8000
        · obtain rfl : out = outT := by
            rcases HL.out.2 with h | h
            · exact h
            · omega
          have HADD := Lib.hid (fun (W : World) (v : Value) (h : BRow w.heap.size W v out) (hw : w.heap.size ≤ W.heap.size) => add_any h hw r (by omega))
          have HR2 := Lib.hid hr2
          have HR3 := Lib.hid hr3
          clear e hs hn2 hd hxe hx hlx htx hsz ha hlt' HD hr1 hr2 hr3
          go_wp2_with fail
          with_reducible refine (HTX.out _ HC.out).mono ?_
          rintro e w2 ⟨rfl, hb2⟩
          have hs2 := hb2.size
          have HB2 := Lib.hid (((Below.refl wr.heap.size wr).alloc (Nat.le_refl _) (.cells #[.int .i64 k, .string tx, .int .i64 m, .int .i64 p] 72)).trans (hb2.mono (by simp)))
          clear hb2
          go_wp2_with fail
          with_reducible refine (HADD.out _ _ (row_below HO.out HB2.out) (Nat.le_trans hle HB2.out.size)).mono ?_
          rintro e w3 ⟨v3, rfl, hr3, hb3⟩
          rw [HR2.out] at hr3
          have HO3 := Lib.hid hr3
          have HB3 := Lib.hid ((HB.out.trans (HB2.out.mono hle)).trans hb3)
          have HL3 : Hid ((addR out s).length ≤ 8041) := by
            unfold Hid
            have := addR_len out s
            omega
          clear hr3 hb3
          go_wp2
          go_roundw
          case rel => exact ⟨i + 1, addR out s, addR out s, by go_num, by omega, HJ, HO3, HB3, Lib.hid ⟨HL3.out, .inl rfl⟩⟩
          case measure => simp [intOf]; omega
        · have g8 : ¬ ((out.length : Nat) : Int) ≤ 8000 := by omega
          have HL3 : Hid (out.length ≤ 8041 ∧ (out = addR outT s ∨ 8000 < out.length ∧ 8000 < (addR outT s).length)) := by
            have h1 := HL.out
            have h2 := addR_ge outT s
            refine Lib.hid ⟨h1.1, .inr ⟨by omega, ?_⟩⟩
            rcases h1.2 with h | h
            · rw [← h] at h2
              rw [← h]
              omega
            · omega
          clear e hs hn2 hd hxe hx hlx htx hsz ha hlt' HD hr1 hr2 hr3
          go_wp2_with fail
          with_reducible refine (HTX.out _ HC.out).mono ?_
          rintro e w2 ⟨rfl, hb2⟩
          have HB2 := Lib.hid (((Below.refl wr.heap.size wr).alloc (Nat.le_refl _) (.cells #[.int .i64 k, .string tx, .int .i64 m, .int .i64 p] 72)).trans (hb2.mono (by simp)))
          have HO3 := Lib.hid (row_below HO.out HB2.out)
          have HB3 := Lib.hid (HB.out.trans (HB2.out.mono hle))
          clear hb2
          go_wp2
          go_roundw
          case rel => exact ⟨i + 1, out, addR outT s, by go_num, by omega, HJ, HO3, HB3, HL3⟩
          case measure => simp [intOf]; omega
    · obtain rfl : i = n := by omega
      have hE := HE.out
      rw [List.drop_eq_nil_of_le (by rw [HN.out]; exact Nat.le_refl _)] at hE
      have HJ := Lib.hid (show joinF L [] = some outT from hE)
      by_cases h8 : out.length ≤ 8000
      · obtain rfl : out = outT := by
          rcases HL.out.2 with h | h
          · exact h
          · omega
        have hcv := conv_back HO.out
        clear hE
        go_wp2
        go_ret2
        exact join_some HJ.out h8 HB.out
      · have g8 : (8000 : Int) < (out.length : Nat) := by omega
        have hT8 : 8000 < outT.length := by
          rcases HL.out.2 with h | h
          · rw [← h]
            omega
          · omega
        clear hE
        go_wp2
        go_ret2
        exact join_over HJ.out hT8 HB.out
end Go.Proofs.YtmcfjlkjijaflaaGreatDoor
