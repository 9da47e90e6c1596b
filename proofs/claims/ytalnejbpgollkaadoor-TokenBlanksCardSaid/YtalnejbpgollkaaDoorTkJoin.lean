/-
  The program's Join.
-/
import Derived.Test.YtalnejbpgollkaaDoorTkArg
namespace Go.Proofs.YtalnejbpgollkaaDoor
open Go.RowKit

def JoinPost (L : List Wd) (w : World) (e : Ending) (w' : World) : Prop := e = .returned (.tuple #[.string ⟨(joinA L).1.toArray⟩, .int .i64 (joinA L).2]) ∧ Below w.heap.size w w'
theorem join_none {L : List Wd} (h : joinF L [] = none) {w w' : World} (hb : Below w.heap.size w w') : JoinPost L w (.returned (.tuple #[.string ⟨#[]⟩, .int .i64 1])) w' := by
  unfold JoinPost joinA
  rw [h]
  exact ⟨rfl, hb⟩
theorem join_some {L : List Wd} {out : List By} (h : joinF L [] = some out) (hl : out.length ≤ 8000) {w w' : World} (hb : Below w.heap.size w w') : JoinPost L w (.returned (.tuple #[.string ⟨out.toArray⟩, .int .i64 0])) w' := by
  unfold JoinPost joinA
  rw [h]
  simp only
  rw [if_neg (by omega)]
  exact ⟨rfl, hb⟩

set_option maxRecDepth 100000 in
set_option maxHeartbeats 1600000 in
theorem join_any (ao : Option Addr) (b off cap : Nat) (L : List Wd) (w : World) (h : WArg w ao b off L) (hL : L.length ≤ 60) (hx : ∀ x ∈ L, x.2.1.length ≤ 40) (hT : TabOk w) :
    Calls Tryd.prog 7 #[.slice ao L.length cap] w (JoinPost L w) := by
  have HA := Lib.hid h
  have HX := Lib.hid hx
  have HT := Lib.hid hT
  obtain ⟨n, hn⟩ : ∃ n, L.length = n := ⟨_, rfl⟩
  have HN := Lib.hid hn
  rw [hn] at hL ⊢
  clear h hx hT hn
  go_enter Tryd.func7, Tryd.ntmps7
  go_wp2
  go_loopw [4, 11] (fun v i' wr => ∃ (i : Nat) (out : List By), i' = .int .i64 i ∧ i ≤ n ∧ Hid (joinF L [] = joinF (L.drop i) out) ∧ Hid (BRow w.heap.size wr v out) ∧ Hid (Below w.heap.size w wr) ∧ Hid (out.length ≤ 41 * i)) (fun _ i' _ => n - (intOf i').toNat)
  case atStart => exact ⟨0, [], rfl, Nat.zero_le _, rfl, World.ownsRow_nil _ _ _ _, Below.refl _ _, Nat.le_refl _⟩
  case round =>
    obtain ⟨i, out, rfl, hi, HE, HO, HB, HL⟩ := hrel
    obtain ⟨av, cv, rfl, _, _⟩ := ownsRow_shape HO.out
    by_cases hlt : i < n
    · have hlt' : i < L.length := by rw [HN.out]; exact hlt
      have ha := HA.out.below HB.out
      obtain ⟨rfl, hbl⟩ := ha.at_ (by omega)
      obtain ⟨c0, c1, c2, c3⟩ := ha.cells i hlt'
      have hd : L.drop i = L[i] :: L.drop (i + 1) := List.drop_eq_getElem_cons hlt'
      have hx := HX.out L[i] (List.getElem_mem hlt')
      obtain ⟨⟨k, l, m, p⟩, hxe⟩ : ∃ x, L[i] = x := ⟨_, rfl⟩
      rw [hxe] at c0 c1 c2 c3 hd hx
      simp only at c0 c1 c2 c3 hx
      have hsz : (⟨l.toArray⟩ : ByteArray).size = l.length := by rw [Lib.size_eq]
      have HTX := Lib.hid (fun W hW => text_any k ⟨l.toArray⟩ m p W (by rw [hsz]; unfold maxLen; omega) hW)
      have hn2 := HE.out
      rw [hd, joinF_cons] at hn2
      have hle := HB.out.size
      have HC := Lib.hid (show TabOk (wr.alloc (.cells #[.int .i64 k, .string ⟨l.toArray⟩, .int .i64 m, .int .i64 p] 25)) from (HT.out.below HB.out).below ((Below.refl _ _).alloc (Nat.le_refl _) _))
      obtain ⟨tx, htx⟩ : ∃ tx : ByteArray, ⟨l.toArray⟩ = tx := ⟨_, rfl⟩
      rw [htx] at c1 HTX HC
      have hlx : ∀ s, textR (k, l, m, p) = some s → s.length ≤ 40 := fun s hs => textR_len hs hx
      cases hs : textR (k, l, m, p) with
      | none =>
        have e : textA (k, l, m, p) = ([], 1) := by unfold textA; rw [hs]
        rw [hs] at hn2
        rw [show tx.data.toList = l by rw [← htx], e] at HTX
        have HJ := Lib.hid hn2
        clear e hs hn2 hd hxe hx hlx htx hsz ha hlt'
        go_wp2_with fail
        with_reducible refine (HTX.out _ HC.out).mono ?_
        rintro e w2 ⟨rfl, hb2⟩
        have HB2 := Lib.hid hb2
        clear hb2
        go_wp2
        go_ret2
        exact join_none HJ.out ((HB.out.alloc hle _).trans (HB2.out.mono (by simp; omega)))
      | some s =>
        have e : textA (k, l, m, p) = (s, 0) := by unfold textA; rw [hs]
        rw [hs] at hn2
        rw [show tx.data.toList = l by rw [← htx], e] at HTX
        have HJ := Lib.hid hn2
        have h40 := hlx s hs
        have HD : Hid (∃ r : ByteArray, (⟨s.toArray⟩ : ByteArray) = r ∧ r.data.toList = s ∧ r.size = s.length) := ⟨_, rfl, rfl, by rw [Lib.size_eq]⟩
        obtain ⟨r, hr1, hr2, hr3⟩ := HD.out
        simp only at HTX
        rw [hr1] at HTX
        have hol := HL.out
        have h8 : out.length ≤ 8000 := by omega
        have HADD := Lib.hid (fun (W : World) (v : Value) (h : BRow w.heap.size W v out) (hw : w.heap.size ≤ W.heap.size) => add_any h hw r (by omega))
        have HR2 := Lib.hid hr2
        have HR3 := Lib.hid hr3
        clear e hs hn2 hd hxe hx hlx htx hsz ha hlt' HD hr1 hr2 hr3
        go_wp2_with fail
        with_reducible refine (HTX.out _ HC.out).mono ?_
        rintro e w2 ⟨rfl, hb2⟩
        have hs2 := hb2.size
        have HB2 := Lib.hid (((Below.refl wr.heap.size wr).alloc (Nat.le_refl _) (.cells #[.int .i64 k, .string tx, .int .i64 m, .int .i64 p] 25)).trans (hb2.mono (by simp)))
        clear hb2
        go_wp2_with fail
        with_reducible refine (HADD.out _ _ (row_below HO.out HB2.out) (Nat.le_trans hle HB2.out.size)).mono ?_
        rintro e w3 ⟨v3, rfl, hr3, hb3⟩
        rw [HR2.out] at hr3
        have HO3 := Lib.hid hr3
        have HB3 := Lib.hid ((HB.out.trans (HB2.out.mono hle)).trans hb3)
        have HL3 : Hid ((addR out s).length ≤ 41 * (i + 1)) := by
          unfold Hid
          have := addR_len out s
          omega
        clear hr3 hb3
        go_wp2
        go_roundw
        case rel => exact ⟨i + 1, addR out s, by go_num, by omega, HJ, HO3, HB3, HL3⟩
        case measure => simp [intOf]; omega
    · obtain rfl : i = n := by omega
      have hol := HL.out
      have h8 : out.length ≤ 8000 := by omega
      have hcv := conv_back HO.out
      have hE := HE.out
      rw [List.drop_eq_nil_of_le (by rw [HN.out]; exact Nat.le_refl _)] at hE
      have HJ := Lib.hid (show joinF L [] = some out from hE)
      clear hE
      go_wp2
      go_ret2
      exact join_some HJ.out h8 HB.out
end Go.Proofs.YtalnejbpgollkaaDoor
