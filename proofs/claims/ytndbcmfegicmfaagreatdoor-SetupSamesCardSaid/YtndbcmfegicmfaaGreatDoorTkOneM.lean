/-
  The document's one: a mark, or none; all of it.
-/
import Derived.Test.YtndbcmfegicmfaaGreatDoorTkOne
import Derived.Deep.RegionWith
namespace Go.Proofs.YtndbcmfegicmfaaGreatDoor
open Go.RowKit

set_option maxRecDepth 100000 in
set_option maxHeartbeats 1600000 in
theorem one_mark (s : ByteArray) (p : Nat) (c : By) (t : List By) (w : World) (hp : p < s.size) (hs : s.size ≤ 140737488355328) (hd : s.data.toList.drop p = c :: t) (hl : isLet c = false) (hg : isDig c = false) :
    Calls Tryz.prog 40 #[.string s, .int .i64 p] w fun e w' => e = .returned (.tuple #[wdV (oneR c t p).1, .int .i64 (p + 1 + (oneR c t p).2.1 : Nat), .bool (oneR c t p).2.2]) ∧ Below w.heap.size w w' := by
  have e : oneR c t p = ((3, [c], 0, (p : Int)), 0, isMk c) := by unfold oneR; rw [if_neg (by simp [hl]), if_neg (by simp [hg])]
  rw [e]
  have h0 := byte_drop s p hp
  rw [hd] at h0
  obtain ⟨hc, _⟩ := List.cons.inj h0
  have HQ0 := Lib.hid (fun W => hl ▸ rlet_any c W)
  have HQ1 := Lib.hid (fun W => hg ▸ rdig_any c W)
  have hx : (⟨[c].toArray⟩ : ByteArray) = s.extract p (p + 1) := by
    rw [Lib.extract_eq, hd, show p + 1 - p = 1 by omega]
    rfl
  unfold wdV
  simp only
  rw [hx, Nat.add_zero, Int.natCast_add p 1]
  obtain ⟨b, hb⟩ : ∃ b, isMk c = b := ⟨_, rfl⟩
  have HQ2 := Lib.hid (fun W => hb ▸ rmk_any c W)
  rw [hb]
  have hc' : s[p] = c := hc.symm
  have hp1 : p + 1 ≤ s.size := hp
  obtain ⟨x, hxx⟩ : ∃ x, s.extract p (p + 1) = x := ⟨_, rfl⟩
  rw [hxx]
  have hw : IntKind.i64.wrap ((p : Int) + 1) = (p : Int) + 1 := IntWalk.i64_in _ (by omega)
  have hsl : ∀ W, (Instr.slice 9 (.string s) (some (.int .i64 (p : Int))) (some (.int .i64 ((p : Int) + 1))) none).run Tryz.prog W = .ok (.string x) W := fun W => by
    rw [run_slice_string W 9 s .i64 .i64 (p : Int) ((p : Int) + 1) Tryz.underlying9 (by omega) (by omega) (by omega)]
    rw [show ((p : Int) + 1).toNat = p + 1 by omega, Int.toNat_natCast, hxx]
  clear e h0 hd hl hg hb hx hc hxx
  go_enter Tryz.func40, Tryz.ntmps40
  go_wp2_with fail
  with_reducible refine (HQ0.out _).mono ?_
  rintro e w1 ⟨rfl, rfl⟩
  go_wp2_with fail
  with_reducible refine (HQ1.out _).mono ?_
  rintro e w1 ⟨rfl, rfl⟩
  go_wp2_with fail
  go_region_with ((go_at_call 85; with_reducible refine (HQ2.out _).mono ?_; rintro e w1 ⟨rfl, rfl⟩))
  simp only [List.getElem_toArray, List.getElem_cons_succ, List.getElem_cons_zero, Act.put, List.setIfInBounds_toArray]
  simp only [List.set_cons_succ, List.set_cons_zero]
  go_wp2
  exact bodyPost_ret (word_result2 rfl rfl rfl rfl (heap_alloc_new w _)) rfl ⟨rfl, ((Below.refl _ _).alloc (Nat.le_refl _) _).drew⟩
/-- The word that begins at a place. -/
theorem one_any (s : ByteArray) (p : Nat) (c : By) (t : List By) (w : World) (hp : p < s.size) (hs : s.size ≤ 140737488355328) (hd : s.data.toList.drop p = c :: t) :
    Calls Tryz.prog 40 #[.string s, .int .i64 p] w fun e w' => e = .returned (.tuple #[wdV (oneR c t p).1, .int .i64 (p + 1 + (oneR c t p).2.1 : Nat), .bool (oneR c t p).2.2]) ∧ Below w.heap.size w w' := by
  cases hl : isLet c with
  | true => exact one_let s p c t w hp hs hd hl
  | false =>
    cases hg : isDig c with
    | true => exact one_dig s p c t w hp hs hd hl hg
    | false => exact one_mark s p c t w hp hs hd hl hg
end Go.Proofs.YtndbcmfegicmfaaGreatDoor
