/-
  (*Arena[int]).Put, Set, Drop.
-/
import Derived.Test.YtiicbmgompnehaaArOpen
namespace Go.Proofs.Ytiicbmgompnehaa
open Go.RowKit

section
variable {α : Type}
def full (m : Int) (S : List (α × Bool)) (F : List Nat) : Bool := decide ((S.length : Int) - F.length = m)
/-- What Put makes of slots and free places; where it puts; its error. -/
def pS (m : Int) (S : List (α × Bool)) (F : List Nat) (v : α) : List (α × Bool) := if full m S F then S else match F.getLast? with | none => S ++ [(v, true)] | some f => S.set f (v, true)
def pF (m : Int) (S : List (α × Bool)) (F : List Nat) : List Nat := if full m S F then F else F.dropLast
def pAt (m : Int) (S : List (α × Bool)) (F : List Nat) : Int := if full m S F then 0 else match F.getLast? with | none => S.length | some f => f
def pErr (m : Int) (S : List (α × Bool)) (F : List Nat) : Int := if full m S F then 3 else 0

variable {tA tS : TypeId} {w : World} {b : Nat} {X : List Nat} {m : Int} {S : List (α × Bool)} {F : List Nat}
/-- Behind 'a.slots[j] = slot{v, t}'. -/
theorem ArAt.stored {e : α → Value} {g cap n : Nat} {fv : Value} (hn : n = S.length) (h1 : w.heap[b]? = some (.cells #[.int .i64 m, .slice (some ⟨g, 0, none⟩) n cap, fv] tA (0, 0))) (h2 : w.ownsRow 0 tS 2 (.slice (some ⟨g, 0, none⟩) n cap) n (slots (fun x => [e x]) S))
    (h3 : w.ownsRow 0 3 1 fv F.length (places F)) (n1 : tA ≠ tS) (n3 : tS ≠ 3) (j : Nat) (v : α) (t : Bool) :
    ArAt tA tS (fun x => [e x]) 1 ((w.setCell ⟨g, j * 2, none⟩ (e v)).setCell ⟨g, j * 2 + 1, none⟩ (.bool t)) b (b :: ([g] ++ fv.ownBlock.toList)) m (S.set j (v, t)) F ∧
      Turned (b :: ([g] ++ fv.ownBlock.toList)) w ((w.setCell ⟨g, j * 2, none⟩ (e v)).setCell ⟨g, j * 2 + 1, none⟩ (.bool t)) := by
  have hbg : b ≠ g := fun h => block_off h1 h2 n1 (by simp [Value.ownBlock, h])
  have hfg : fv.ownBlock ≠ some g := by
    rcases rows_off h3 h2 n3.symm with h | h
    · rw [h]; simp
    · simpa [Value.ownBlock] using h
  have s1 := h2.stored (j * 2) (e v)
  have s2 := s1.1.stored (j * 2 + 1) (.bool t)
  have h3' := ownsRow_setCell_other (ownsRow_setCell_other h3 (a := ⟨g, j * 2, none⟩) hfg (e v)) (a := ⟨g, j * 2 + 1, none⟩) hfg (.bool t)
  refine ⟨⟨.slice (some ⟨g, 0, none⟩) n cap, fv, ?_, ?_, h3', rfl⟩, ?_⟩
  · rw [Below.heap_setCell _ _ _ _ hbg, Below.heap_setCell _ _ _ _ hbg]
    exact h1
  · have := s2.1
    rw [← slots_set1 S j (v, t)] at this
    subst hn
    simpa using this
  · exact ((Turned.refl _ w).setCell (.inl (by simp)) _).setCell (.inl (by simp)) _
end

set_option maxHeartbeats 400000 in
theorem put_full {w : World} {b : Nat} {X : List Nat} {m : Int} {S : List (Int × Bool)} {F : List Nat} (h : ArI w b X m S F) (v : Int) (hS : S.length ≤ 1000000) (hF : F.length ≤ 1000000) (hm : (S.length : Int) - F.length = m) :
    Calls Try.prog 8 #[.pointer (some ⟨b, 0, none⟩), .int .i64 v] w fun e w' => e = .returned (.tuple #[.int .i64 0, .int .i64 3]) ∧ ∃ n, w' = w.drewN n := by
  have HL := Lib.hid (fun q : Nat => len_any (w := w.drewN q) h hS hF)
  obtain ⟨sv, fv, h1, h2, h3, _⟩ := h
  obtain ⟨c0, _, _, _⟩ := cells3 h1
  rw [← hm] at c0
  clear h1 h2 h3 hm
  go_enter Try.func8, Try.ntmps8
  go_wp2
  go_quiet ((go_at_call 16; exact Calls.quiet_of (HL.out _)))
  go_wp2
  go_ret2
  exact ⟨rfl, _, rfl⟩
set_option maxHeartbeats 400000 in
theorem put_new {w : World} {b : Nat} {X : List Nat} {m : Int} {S : List (Int × Bool)} (h : ArI w b X m S []) (v : Int) (hS : S.length ≤ 1000000) (hm : (S.length : Int) - ([] : List Nat).length ≠ m) :
    Calls Try.prog 8 #[.pointer (some ⟨b, 0, none⟩), .int .i64 v] w fun e w' => e = .returned (.tuple #[.int .i64 (S.length : Int), .int .i64 0]) ∧
      ∃ X', ArI w' b X' m (S ++ [(v, true)]) [] ∧ Turned X w w' ∧ Newer X w.heap.size X' := by
  have HL := Lib.hid (fun q : Nat => len_any (w := w.drewN q) h hS (by simp))
  have HO := Lib.hid (fun q : Nat => open_new (w := w.drewN q) h hS)
  obtain ⟨sv, fv, h1, h2, h3, _⟩ := h
  obtain ⟨c0, _, _, _⟩ := cells3 h1
  have hb : ((S.length : Int) == m) = false := by rw [beq_eq_false_iff_ne]; simpa using hm
  clear h1 h2 h3 hm
  go_enter Try.func8, Try.ntmps8
  go_wp2
  go_quiet ((go_at_call 16; exact Calls.quiet_of (HL.out _)))
  go_wp2_with fail
  refine (HO.out _).mono ?_
  rintro e w1 ⟨rfl, X1, hA, hT, hN⟩
  have HT := Lib.hid hT
  have HN := Lib.hid hN
  obtain ⟨sv1, fv1, k1, k2, k3, hX1⟩ := hA
  have hl : (S ++ [((0 : Int), false)]).length = S.length + 1 := by simp
  rw [hl] at k2
  obtain ⟨g, cap, rfl, _, _⟩ := ownsRow_pos k2 (by omega)
  have R := ArAt.stored (e := Value.int .i64) hl.symm k1 k2 k3 (by decide) (by decide) S.length v true
  obtain ⟨s0, s1, f0, f1⟩ := slot_cells (j := S.length) (v := 0) (t := false) (by rw [hl]; exact k2) rfl (by simp)
  obtain ⟨_, d1, _, _⟩ := cells3 k1
  have i0 : (0 : Int) ≤ (S.length : Int) := by omega
  have i1 : (S.length : Int) < (S.length : Int) + 1 := by omega
  have RR := Lib.hid R
  have HX := Lib.hid hX1
  clear hT hN k1 k2 k3 hl R hX1 c0 hb
  go_wp2
  go_ret2
  obtain rfl : X1 = b :: ([g] ++ fv1.ownBlock.toList) := HX.out
  have hA := RR.out.1
  rw [List.set_append_right _ _ (Nat.le_refl _), Nat.sub_self] at hA
  exact ⟨rfl, _, hA, (((Turned.refl X w).drewN _).trans HT.out (Newer.refl _ _)).trans RR.out.2 HN.out, HN.out⟩

set_option maxHeartbeats 400000 in
theorem put_old {w : World} {b : Nat} {X : List Nat} {m : Int} {S : List (Int × Bool)} {F : List Nat} {f : Nat} (h : ArI w b X m S (F ++ [f])) (v : Int) (hS : S.length ≤ 1000000) (hF : (F ++ [f]).length ≤ 1000000) (hf : f < S.length) (hm : (S.length : Int) - (F ++ [f]).length ≠ m) :
    Calls Try.prog 8 #[.pointer (some ⟨b, 0, none⟩), .int .i64 v] w fun e w' => e = .returned (.tuple #[.int .i64 (f : Int), .int .i64 0]) ∧
      ArI w' b X m (S.set f (v, true)) F ∧ Turned X w w' := by
  have HL := Lib.hid (fun q : Nat => len_any (w := w.drewN q) h hS hF)
  have HO := Lib.hid (fun q : Nat => open_old (w := w.drewN q) h (by simp at hF; omega))
  obtain ⟨sv, fv, h1, h2, h3, _⟩ := h
  obtain ⟨c0, _, _, _⟩ := cells3 h1
  have hb : ((S.length : Int) - ((F ++ [f]).length : Int) == m) = false := by rw [beq_eq_false_iff_ne]; exact hm
  obtain ⟨q, hq⟩ : ∃ q : Nat, (F ++ [f]).length = q := ⟨_, rfl⟩
  rw [hq] at HL hb
  clear h1 h2 h3 hm hF hq
  go_enter Try.func8, Try.ntmps8
  go_wp2
  go_quiet ((go_at_call 16; exact Calls.quiet_of (HL.out _)))
  go_wp2_with fail
  refine (HO.out _).mono ?_
  rintro e w1 ⟨rfl, hA, hT⟩
  have HT := Lib.hid hT
  obtain ⟨sv1, fv1, k1, k2, k3, hX1⟩ := hA
  obtain ⟨g, cap, rfl, _, _⟩ := ownsRow_pos k2 (by omega)
  have R := ArAt.stored (e := Value.int .i64) rfl k1 k2 k3 (by decide) (by decide) f v true
  obtain ⟨s0, s1, f0, f1⟩ := slot_cells (j := f) (v := (S[f]).1) (t := (S[f]).2) k2 rfl (by simp [hf])
  obtain ⟨_, d1, _, _⟩ := cells3 k1
  have i0 : (0 : Int) ≤ (f : Int) := by omega
  have i1 : (f : Int) < (S.length : Int) := by omega
  have RR := Lib.hid R
  have HX := Lib.hid hX1
  clear hT k1 k2 k3 R hX1 c0 hb
  go_wp2
  go_ret2
  obtain rfl : X = b :: ([g] ++ fv1.ownBlock.toList) := HX.out
  exact ⟨rfl, RR.out.1, (((Turned.refl _ w).drewN _).trans HT.out (Newer.refl _ _)).trans RR.out.2 (Newer.refl _ _)⟩

theorem put_any {w : World} {b : Nat} {X : List Nat} {m : Int} {S : List (Int × Bool)} {F : List Nat} (h : ArI w b X m S F) (v : Int) (hS : S.length ≤ 1000000) (hF : F.length ≤ 1000000) (hf : ∀ f ∈ F, f < S.length) :
    Calls Try.prog 8 #[.pointer (some ⟨b, 0, none⟩), .int .i64 v] w fun e w' => e = .returned (.tuple #[.int .i64 (pAt m S F), .int .i64 (pErr m S F)]) ∧
      ∃ X', ArI w' b X' m (pS m S F v) (pF m S F) ∧ Turned X w w' ∧ Newer X w.heap.size X' := by
  by_cases hm : (S.length : Int) - F.length = m
  · have hfl : full m S F = true := by simpa [full] using hm
    simp only [pS, pF, pAt, pErr, hfl, if_true]
    exact (put_full h v hS hF hm).mono fun e w' ⟨he, n, hw⟩ => ⟨he, X, by rw [hw]; exact h, by rw [hw]; exact (Turned.refl _ _).drewN _, Newer.refl _ _⟩
  · have hfl : full m S F = false := by simpa [full] using hm
    simp only [pS, pF, pAt, pErr, hfl]
    rcases List.eq_nil_or_concat F with rfl | ⟨F', f, rfl⟩
    · exact put_new h v hS hm
    · simp only [List.concat_eq_append, List.getLast?_append, List.getLast?_singleton, Option.some_or, List.dropLast_concat] at *
      exact (put_old h v hS hF (hf f (by simp)) hm).mono fun e w' ⟨he, h1, h2⟩ => ⟨he, X, h1, h2, Newer.refl _ _⟩

set_option maxHeartbeats 400000 in
theorem set_no {w : World} {b : Nat} {X : List Nat} {m : Int} {S : List (Int × Bool)} {F : List Nat} (h : ArI w b X m S F) (n v : Int) (hn : isB S n = false) :
    Calls Try.prog 12 #[.pointer (some ⟨b, 0, none⟩), .int .i64 n, .int .i64 v] w fun e w' => e = .returned (.bool false) ∧ w = w' := by
  have hh := has_any h n
  rw [hn] at hh
  have H := Lib.hid hh
  clear hh hn h
  go_enter Try.func12, Try.ntmps12
  go_wp2_with (go_at_call 30; refine H.out.mono ?_; rintro e w' ⟨rfl, rfl⟩)
  go_ret
  exact ⟨rfl, rfl⟩
set_option maxHeartbeats 400000 in
theorem set_yes {w : World} {b : Nat} {X : List Nat} {m : Int} {S : List (Int × Bool)} {F : List Nat} (h : ArI w b X m S F) (j : Nat) (u v : Int) (hj : S[j]? = some (u, true)) :
    Calls Try.prog 12 #[.pointer (some ⟨b, 0, none⟩), .int .i64 (j : Int), .int .i64 v] w fun e w' => e = .returned (.bool true) ∧ ArI w' b X m (S.set j (v, true)) F ∧ Turned X w w' := by
  have hh := has_any h (j : Int)
  rw [isB_mk hj] at hh
  have H := Lib.hid hh
  obtain ⟨sv, fv, h1, h2, h3, hX⟩ := h
  obtain ⟨_, c1, _, _⟩ := cells3 h1
  have hl : j < S.length := (List.getElem?_eq_some_iff.1 hj).1
  obtain ⟨g, cap, rfl, _, _⟩ := ownsRow_pos h2 (by omega)
  obtain ⟨s0, s1, f0, f1⟩ := slot_cells h2 rfl hj
  obtain rfl : X = b :: ([g] ++ fv.ownBlock.toList) := hX
  have R : ArI (w.setCell ⟨g, j * 2, none⟩ (.int .i64 v)) b (b :: ([g] ++ fv.ownBlock.toList)) m (S.set j (v, true)) F ∧ Turned (b :: ([g] ++ fv.ownBlock.toList)) w (w.setCell ⟨g, j * 2, none⟩ (.int .i64 v)) := by
    have hbg : b ≠ g := fun h => block_off h1 h2 (by decide) (by simp [Value.ownBlock, h])
    have hfg : fv.ownBlock ≠ some g := by
      rcases rows_off h3 h2 (by decide) with h | h
      · rw [h]; simp
      · simpa [Value.ownBlock] using h
    refine ⟨⟨.slice (some ⟨g, 0, none⟩) S.length cap, fv, ?_, ?_, ownsRow_setCell_other h3 (a := ⟨g, j * 2, none⟩) hfg _, rfl⟩, (Turned.refl _ w).setCell (.inl (by simp)) _⟩
    · rw [Below.heap_setCell _ _ _ _ hbg]
      exact h1
    · have s1 := (h2.stored (j * 2) (.int .i64 v)).1
      have e1 : slots encI (S.set j (v, true)) = (slots encI S).set (j * 2) (.int .i64 v) := by
        have hg := slots_get (enc := encI) (k := 1) (fun _ => rfl) S j 1 hl (by omega)
        rw [(List.getElem?_eq_some_iff.1 hj).2] at hg
        have e2 : slots encI (S.set j (v, true)) = ((slots encI S).set (j * 2) (.int .i64 v)).set (j * 2 + 1) (.bool true) := slots_set1 (e := Value.int .i64) S j (v, true)
        rw [e2]
        refine List.ext_getElem? fun i => ?_
        rw [List.getElem?_set]
        split
        · rename_i hi
          subst hi
          rw [List.getElem?_set_ne (by omega)]
          split
          · simpa using hg.symm
          · rename_i hlt
            rw [List.getElem?_eq_none (by simpa using hlt)]
        · rfl
      rw [e1]
      simpa using s1
  have i0 : (0 : Int) ≤ j := by omega
  have i1 : (j : Int) < S.length := by omega
  have RR := Lib.hid R
  clear hh hj h1 h2 h3 R
  go_enter Try.func12, Try.ntmps12
  go_wp2_with (go_at_call 30; refine H.out.mono ?_; rintro e w' ⟨rfl, rfl⟩)
  go_ret
  exact ⟨rfl, RR.out⟩
end Go.Proofs.Ytiicbmgompnehaa
