/-
  Rows of bytes; the program's add and Join.
-/
import Derived.Test.YtalnejbpgollkaaDoorTkText
import Derived.Test.YtalnejbpgollkaaDoorTkScan
import Derived.Lib.AppendStr
namespace Go.Proofs.YtalnejbpgollkaaDoor
open Go.RowKit

abbrev bC (l : List By) : List Value := l.map fun b => Value.int .u8 b.toNat
/-- A row of bytes. -/
abbrev BRow (base : Nat) (w : World) (v : Value) (l : List By) : Prop := w.ownsRow base 5 1 v l.length (bC l)
theorem byte_info : (Tryd.prog.info? 5).map (fun i => (i.zero, i.size, i.bytes)) = some (some (.int .u8 0), 1, 1) := by kernel_rfl
theorem one_cell (W : World) (v : Value) (t : TypeId) : (W.alloc (Obj.cells #[v] t)).cell? ⟨W.heap.size, 0, none⟩ = some v := by simp
/-- What add makes of a text. -/
def addR (out s : List By) : List By := (if out ≠ [] ∧ s ≠ [59] then out ++ [32] else out) ++ s
def AddPost (base : Nat) (l : List By) (w : World) (e : Ending) (w' : World) : Prop := ∃ v, e = .returned v ∧ BRow base w' v l ∧ Below base w w'

set_option maxHeartbeats 800000 in
theorem add_plain {base : Nat} {w : World} {v : Value} {l : List By} (h : BRow base w v l) (hb : base ≤ w.heap.size) (t : ByteArray) (hl : l.length + t.size ≤ 1000000) (hc : ¬ (l ≠ [] ∧ t.data.toList ≠ [59])) :
    Calls Tryd.prog 14 #[v, .string t] w (AddPost base (l ++ t.data.toList) w) := by
  obtain ⟨i0, hi0, hz0, hz1, hz2⟩ := info_parts byte_info
  obtain ⟨a, cap, rfl, _, _⟩ := ownsRow_shape h
  have HO : Hid (w.ownsRow base 5 1 (.slice a l.length cap) l.length (bC l)) := h
  rw [← Lib.toList_data] at hc
  have HE : Hid (l.length + t.size = (l ++ t.data.toList).length ∧ bC l ++ Lib.strCells t = bC (l ++ t.data.toList)) := by
    refine ⟨by rw [List.length_append, ← Lib.size_eq], ?_⟩
    unfold bC
    rw [List.map_append]
    rfl
  have fin : ∀ v' w2, w2.ownsRow base 5 1 v' (l.length + t.size) (bC l ++ Lib.strCells t) → w.grownBy w2 (Value.ownBlock (.slice a l.length cap)) → AddPost base (l ++ t.data.toList) w (.returned v') w2 := fun v' w2 h1 h2 => by
    rw [HE.out.1, HE.out.2] at h1
    exact ⟨v', rfl, h1, app_below (Below.refl _ _) hb (Nat.le_refl _) HO.out h2⟩
  have FIN := Lib.hid fin
  obtain ⟨L, hL⟩ : ∃ L, l ++ t.data.toList = L := ⟨_, rfl⟩
  rw [hL] at FIN ⊢
  obtain ⟨n, hn⟩ : ∃ n, l.length = n := ⟨_, rfl⟩
  rw [hn] at HO FIN hl ⊢
  have hd : n = 0 ∨ (0 < n ∧ (t.toList == [59]) = true) := by
    by_cases h0 : l = []
    · left
      rw [← hn, h0]
      rfl
    · right
      refine ⟨by rw [← hn]; exact List.length_pos_iff.2 h0, ?_⟩
      simp [h0] at hc
      simp [hc]
  clear hL hn hc h fin HE
  rcases hd with rfl | ⟨h0, h59⟩
  · go_enter Tryd.func14, Tryd.ntmps14
    go_wp2_with (at_builtin; refine Lib.wpList_append_own_string _ rfl _ _ 40 9 rfl base 5 i0 Tryd.underlying40 Tryd.underlying9 hi0 hz0 hz1 hz2 _ _ _ rfl HO.out t rfl ?c1 ?c2 ?c3 ?_)
    case c1 => unfold maxLen; omega
    case c2 => omega
    case c3 => exact hb
    intro v' w2 h1 h2 _
    have HF := Lib.hid (FIN.out v' w2 (by rw [Nat.zero_add]; exact h1) h2)
    clear h1 h2
    go_wp2
    go_ret
    exact HF.out
  · go_enter Tryd.func14, Tryd.ntmps14
    go_wp2_with (at_builtin; refine Lib.wpList_append_own_string _ rfl _ _ 40 9 rfl base 5 i0 Tryd.underlying40 Tryd.underlying9 hi0 hz0 hz1 hz2 _ _ _ rfl HO.out t rfl ?d1 ?d2 ?d3 ?_)
    case d1 => unfold maxLen; omega
    case d2 => omega
    case d3 => exact hb
    intro v' w2 h1 h2 _
    have HF := Lib.hid (FIN.out v' w2 h1 h2)
    clear h1 h2
    go_wp2
    go_ret
    exact HF.out

set_option maxHeartbeats 800000 in
theorem add_blank {base : Nat} {w : World} {v : Value} {l : List By} (h : BRow base w v l) (hb : base ≤ w.heap.size) (t : ByteArray) (hl : l.length + t.size ≤ 1000000) (hc : l ≠ [] ∧ t.data.toList ≠ [59]) :
    Calls Tryd.prog 14 #[v, .string t] w (AddPost base (l ++ [32] ++ t.data.toList) w) := by
  obtain ⟨i0, hi0, hz0, hz1, hz2⟩ := info_parts byte_info
  obtain ⟨a, cap, rfl, _, _⟩ := ownsRow_shape h
  have HO : Hid (w.ownsRow base 5 1 (.slice a l.length cap) l.length (bC l)) := h
  rw [← Lib.toList_data] at hc
  have h0 : 0 < l.length := List.length_pos_iff.2 hc.1
  have h59 : (t.toList == [59]) = false := by simpa using hc.2
  have HE : Hid (l.length + 1 + t.size = (l ++ [32] ++ t.data.toList).length ∧ bC l ++ [.int .u8 32] ++ Lib.strCells t = bC (l ++ [32] ++ t.data.toList)) := by
    refine ⟨by rw [List.length_append, List.length_append, ← Lib.size_eq]; rfl, ?_⟩
    unfold bC
    rw [List.map_append, List.map_append]
    rfl
  obtain ⟨L, hL⟩ : ∃ L, l ++ [32] ++ t.data.toList = L := ⟨_, rfl⟩
  rw [hL] at HE ⊢
  obtain ⟨n, hn⟩ : ∃ n, l.length = n := ⟨_, rfl⟩
  rw [hn] at HO HE hl h0 ⊢
  clear hL hn hc h
  go_enter Tryd.func14, Tryd.ntmps14
  go_wp2_with (at_builtin; refine wpList_append_own _ rfl _ _ 40 rfl base 5 i0 (.int .u8 0) 1 1 Tryd.underlying40 hi0 hz0 hz1 hz2 rfl (by decide) _ _ _ rfl (HO.out.alloc _) ⟨w.heap.size, 0, none⟩ 1 1 [.int .u8 32] rfl rfl ?c1 ?c2 ?c3 ?c4 ?c5 ?_)
  case c1 =>
    intro j u hj
    rw [Addr.add_lit]
    match j, hj with
    | 0, hj =>
      simp at hj
      subst hj
      exact one_cell w _ _
  case c2 => intro u hu; simp at hu; subst hu; rfl
  case c3 => unfold maxLen; omega
  case c4 => omega
  case c5 => first | omega | (simp; omega) | trace_state
  intro v1 w1 h1 h2 _
  have hb1 := app_below ((Below.refl base w).alloc hb _) hb (Nat.le_refl _) HO.out h2
  have hs1 := hb1.size
  have HO1 := Lib.hid h1
  have HB1 := Lib.hid hb1
  clear h1 h2 hb1
  go_wp2_with (at_builtin; refine Lib.wpList_append_own_string _ rfl _ _ 40 9 rfl base 5 i0 Tryd.underlying40 Tryd.underlying9 hi0 hz0 hz1 hz2 _ _ _ rfl HO1.out t rfl ?d1 ?d2 ?d3 ?_)
  case d1 => unfold maxLen; omega
  case d2 => omega
  case d3 => omega
  intro v2 w2 h1 h2 _
  have HB2 := Lib.hid (app_below HB1.out hb (Nat.le_refl _) HO1.out h2)
  have HO2 : Hid (BRow base w2 v2 L) := by
    unfold Hid BRow
    rw [← HE.out.1, ← HE.out.2, List.append_assoc]
    exact h1
  clear h1 h2
  go_wp2
  go_ret
  exact ⟨_, rfl, HO2.out, HB2.out⟩
theorem add_any {base : Nat} {w : World} {v : Value} {l : List By} (h : BRow base w v l) (hb : base ≤ w.heap.size) (t : ByteArray) (hl : l.length + t.size ≤ 1000000) :
    Calls Tryd.prog 14 #[v, .string t] w (AddPost base (addR l t.data.toList) w) := by
  unfold addR
  by_cases hc : l ≠ [] ∧ t.data.toList ≠ [59]
  · rw [if_pos hc]
    exact add_blank h hb t hl hc
  · rw [if_neg hc]
    exact add_plain h hb t hl hc
end Go.Proofs.YtalnejbpgollkaaDoor
