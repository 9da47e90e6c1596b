/-
  The document's Join.
-/
import Derived.Test.YtalnejbpgollkaaDoorTkSame
import Derived.Test.YtalnejbpgollkaaDoorTkJoin
namespace Go.Proofs.YtalnejbpgollkaaDoor
open Go.RowKit

theorem ba_add (a b : ByteArray) : (a ++ b).data.toList = a.data.toList ++ b.data.toList ∧ (a ++ b).size = a.size + b.size := by
  constructor
  · simp [ByteArray.data_append]
  · simp

set_option maxRecDepth 100000 in
set_option maxHeartbeats 3200000 in
theorem rjoin_any (ao : Option Addr) (b off cap : Nat) (L : List Wd) (w : World) (h : WArg w ao b off L) (hL : L.length ≤ 60) (hx : ∀ x ∈ L, x.2.1.length ≤ 40) :
    Calls Tryd.prog 8 #[.slice ao L.length cap] w (JoinPost L w) := by
  have HA := Lib.hid h
  have HX := Lib.hid hx
  obtain ⟨n, hn⟩ : ∃ n, L.length = n := ⟨_, rfl⟩
  have HN := Lib.hid hn
  rw [hn] at hL ⊢
  clear h hx hn
  go_enter Tryd.func8, Tryd.ntmps8
  go_wp2
  go_loopw [4, 5] (fun v i' wr => ∃ (i : Nat) (o : ByteArray), i' = .int .i64 i ∧ v = .string o ∧ i ≤ n ∧ Hid (joinF L [] = joinF (L.drop i) o.data.toList) ∧ Hid (Below w.heap.size w wr) ∧ o.size ≤ 41 * i) (fun _ i' _ => n - (intOf i').toNat)
  case atStart => exact ⟨0, ⟨#[]⟩, rfl, rfl, Nat.zero_le _, rfl, Below.refl _ _, Nat.le_refl _⟩
  case round =>
    obtain ⟨i, o, rfl, rfl, hi, HE, HB, hol⟩ := hrel
    by_cases hlt : i < n
    · have hlt' : i < L.length := by rw [HN.out]; exact hlt
      have ha := HA.out.below HB.out
      obtain ⟨rfl, hbl⟩ := ha.at_ (by omega)
      obtain ⟨c0, c1, c2, c3⟩ := ha.cells i hlt'
      have hd : L.drop i = L[i] :: L.drop (i + 1) := List.drop_eq_getElem_cons hlt'
      have hx := HX.out L[i] (List.getElem_mem hlt')
      obtain ⟨⟨k, l, m, p⟩, hxe⟩ : ∃ x, L[i] = x := ⟨_, rfl⟩
      rw [hxe] at c0 c1 c2 c3 hd hx
      simp only at c0 c1 c2 c3 hx
      have hsz : (⟨l.toArray⟩ : ByteArray).size = l.length := by rw [Lib.size_eq]
      have HTX := Lib.hid (fun W => rtext_any k ⟨l.toArray⟩ m p W (by rw [hsz]; omega))
      have hn2 := HE.out
      rw [hd, joinF_cons] at hn2
      have hle := HB.out.size
      obtain ⟨tx, htx⟩ : ∃ tx : ByteArray, ⟨l.toArray⟩ = tx := ⟨_, rfl⟩
      rw [htx] at c1 HTX
      have hlx : ∀ s, textR (k, l, m, p) = some s → s.length ≤ 40 := fun s hs => textR_len hs hx
      cases hs : textR (k, l, m, p) with
      | none =>
        have e : textA (k, l, m, p) = ([], 1) := by unfold textA; rw [hs]
        rw [hs] at hn2
        rw [show tx.data.toList = l by rw [← htx], e] at HTX
        have HJ := Lib.hid hn2
        clear e hs hn2 hd hxe hx hlx htx hsz ha hlt'
        go_wp2_with fail
        with_reducible refine (HTX.out _).mono ?_
        rintro e w2 ⟨rfl, hb2⟩
        have HB2 := Lib.hid hb2
        clear hb2
        go_wp2
        go_ret2
        exact join_none HJ.out (HB.out.trans (HB2.out.mono hle))
      | some s =>
        have e : textA (k, l, m, p) = (s, 0) := by unfold textA; rw [hs]
        rw [hs] at hn2
        rw [show tx.data.toList = l by rw [← htx], e] at HTX
        have HJ := Lib.hid hn2
        have h40 := hlx s hs
        have HD : Hid (∃ r : ByteArray, (⟨s.toArray⟩ : ByteArray) = r ∧ r.data.toList = s ∧ r.size = s.length) := ⟨_, rfl, rfl, by rw [Lib.size_eq]⟩
        obtain ⟨r, hr1, hr2, hr3⟩ := HD.out
        simp only at HTX
        rw [hr1] at HTX
        have hr4 : r.size ≤ 40 := by omega
        have HR2 := Lib.hid hr2
        clear e hs hn2 hd hxe hx hlx htx hsz ha hlt' HD hr1 hr2 hr3 h40
        have hadd : ∀ (a : ByteArray) W, a.size ≤ 3000 → (Op.stringOp .add a r).run Tryd.prog W = .ok (.string (a ++ r)) W := fun a W ha => run_string_add_sum W a r (by omega)
        by_cases hcond : o.data.toList ≠ [] ∧ r.data.toList ≠ [59]
        · have q1 : o.toList.isEmpty = false := by rw [Lib.toList_data]; simpa using hcond.1
          have q0 : ¬ o.toList = [] := by rw [Lib.toList_data]; exact hcond.1
          have q2 : (r.toList == [59]) = false := by rw [Lib.toList_data]; simpa using hcond.2
          have a1 : ∀ W, (Op.stringOp .add o ⟨#[32]⟩).run Tryd.prog W = .ok (.string (o ++ ⟨#[32]⟩)) W := fun W => run_string_add_sum W o _ (by have : (⟨#[32]⟩ : ByteArray).size = 1 := rfl; omega)
          have hz : (o ++ (⟨#[32]⟩ : ByteArray)).size = o.size + 1 := (ba_add _ _).2
          have a2 := fun W => hadd (o ++ ⟨#[32]⟩) W (by omega)
          have HP : Hid ((o ++ (⟨#[32]⟩ : ByteArray) ++ r).data.toList = addR o.data.toList s ∧ (o ++ (⟨#[32]⟩ : ByteArray) ++ r).size = o.size + 1 + r.size) := by
            constructor
            · rw [(ba_add _ _).1, (ba_add _ _).1]
              unfold addR
              rw [if_pos (by rw [← HR2.out]; exact hcond), HR2.out]
            · rw [(ba_add _ _).2, hz]
          obtain ⟨o1, ho1⟩ : ∃ o1, o ++ (⟨#[32]⟩ : ByteArray) = o1 := ⟨_, rfl⟩
          rw [ho1] at a1 a2 HP
          obtain ⟨o2, ho2⟩ : ∃ o2, o1 ++ r = o2 := ⟨_, rfl⟩
          rw [ho2] at a2 HP
          clear hcond hadd ho1 ho2 hz
          go_wp2_with fail
          with_reducible refine (HTX.out _).mono ?_
          rintro e w2 ⟨rfl, hb2⟩
          have HB2 := Lib.hid hb2
          clear hb2
          go_wp2
          go_roundw
          case rel => exact ⟨i + 1, o2, by go_num, rfl, by omega, by rw [HP.out.1]; exact HJ, HB.out.trans (HB2.out.mono hle), by have := HP.out.2; omega⟩
          case measure => simp [intOf]; omega
        · have hd : o.toList = [] ∨ (¬ o.toList = [] ∧ (r.toList == [59]) = true) := by
            rw [Lib.toList_data, Lib.toList_data]
            by_cases h0 : o.data.toList = []
            · exact .inl h0
            · right
              refine ⟨h0, ?_⟩
              have h59 : r.data.toList = [59] := Classical.byContradiction fun h => hcond ⟨h0, h⟩
              simp [h59]
          have a2 := fun W => hadd o W (by omega)
          have HP : Hid ((o ++ r).data.toList = addR o.data.toList s ∧ (o ++ r).size = o.size + r.size) := by
            constructor
            · rw [(ba_add _ _).1]
              unfold addR
              rw [if_neg (by rw [← HR2.out]; exact hcond), HR2.out]
            · exact (ba_add _ _).2
          obtain ⟨o2, ho2⟩ : ∃ o2, o ++ r = o2 := ⟨_, rfl⟩
          rw [ho2] at a2 HP
          clear hcond hadd ho2
          rcases hd with q0 | ⟨q0, q2⟩
          · have q1 : o.toList.isEmpty = true := by rw [q0]; rfl
            go_wp2_with fail
            with_reducible refine (HTX.out _).mono ?_
            rintro e w2 ⟨rfl, hb2⟩
            have HB2 := Lib.hid hb2
            clear hb2
            go_wp2
            go_roundw
            case rel => exact ⟨i + 1, o2, by go_num, rfl, by omega, by rw [HP.out.1]; exact HJ, HB.out.trans (HB2.out.mono hle), by have := HP.out.2; omega⟩
            case measure => simp [intOf]; omega
          · have q1 : o.toList.isEmpty = false := by simpa using q0
            go_wp2_with fail
            with_reducible refine (HTX.out _).mono ?_
            rintro e w2 ⟨rfl, hb2⟩
            have HB2 := Lib.hid hb2
            clear hb2
            go_wp2
            go_roundw
            case rel => exact ⟨i + 1, o2, by go_num, rfl, by omega, by rw [HP.out.1]; exact HJ, HB.out.trans (HB2.out.mono hle), by have := HP.out.2; omega⟩
            case measure => simp [intOf]; omega
    · obtain rfl : i = n := by omega
      have h8 : o.size ≤ 8000 := by omega
      have hE := HE.out
      rw [List.drop_eq_nil_of_le (by rw [HN.out]; exact Nat.le_refl _)] at hE
      have HJ := Lib.hid (show joinF L [] = some o.data.toList from hE)
      clear hE
      go_wp2
      go_ret2
      have h := join_some HJ.out (by rw [← Lib.size_eq]; exact h8) HB.out
      rw [Lib.mk_data] at h
      exact h
end Go.Proofs.YtalnejbpgollkaaDoor
