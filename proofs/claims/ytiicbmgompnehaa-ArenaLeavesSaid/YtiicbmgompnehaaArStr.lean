/-
  The calls of (*Arena[string]): made by program out of those of (*Arena[int]).
-/
import Derived.Test.YtiicbmgompnehaaArDrop
namespace Go.Proofs.Ytiicbmgompnehaa.St
open Go.RowKit

abbrev encS (x : ByteArray) : List Value := [.string x]
abbrev ArS (w : World) (b : Nat) (X : List Nat) (m : Int) (S : List (ByteArray × Bool)) (F : List Nat) : Prop := ArAt 76 78 encS 1 w b X m S F

theorem has_neg (b : Nat) (n : Int) (w : World) (hn : n < 0) : Calls Try.prog 40 #[.pointer (some ⟨b, 0, none⟩), .int .i64 n] w fun e w' => e = .returned (.bool false) ∧ w = w' := by
  go_enter Try.func40, Try.ntmps40
  go_wp2
  go_ret
  exact ⟨rfl, rfl⟩

theorem has_far (b : Nat) (n : Int) (w : World) (a : Option Addr) (len cap : Nat) (hc : w.cell? ⟨b, 1, none⟩ = some (.slice a len cap)) (hn : 0 ≤ n) (hl : (len : Int) ≤ n) :
    Calls Try.prog 40 #[.pointer (some ⟨b, 0, none⟩), .int .i64 n] w fun e w' => e = .returned (.bool false) ∧ w = w' := by
  go_enter Try.func40, Try.ntmps40
  go_wp2
  go_ret
  exact ⟨rfl, rfl⟩

theorem has_in (b g : Nat) (n : Int) (w : World) (len cap j : Nat) (t : Bool) (hc : w.cell? ⟨b, 1, none⟩ = some (.slice (some ⟨g, 0, none⟩) len cap)) (hn : n = j) (hl : j < len) (ht : w.cell? ⟨g, j * 2 + 1, none⟩ = some (.bool t)) :
    Calls Try.prog 40 #[.pointer (some ⟨b, 0, none⟩), .int .i64 n] w fun e w' => e = .returned (.bool t) ∧ w = w' := by
  subst hn
  have h0 : (0 : Int) ≤ j := by omega
  have h1 : (j : Int) < len := by omega
  go_enter Try.func40, Try.ntmps40
  go_wp2
  go_ret
  exact ⟨rfl, rfl⟩

theorem slot_cells {w : World} {g n cap : Nat} {S : List (ByteArray × Bool)} {j : Nat} {v : ByteArray} {t : Bool} (h : w.ownsRow 0 78 2 (.slice (some ⟨g, 0, none⟩) n cap) n (slots encS S)) (hn : n = S.length) (hj : S[j]? = some (v, t)) :
    w.cell? ⟨g, j * 2, none⟩ = some (.string v) ∧ w.cell? ⟨g, j * 2 + 1, none⟩ = some (.bool t) ∧ (w.frozen? ⟨g, j * 2, none⟩ = false ∧ w.frozen? ⟨g, j * 2 + 1, none⟩ = false) := by
  obtain ⟨hl, he⟩ := List.getElem?_eq_some_iff.1 hj
  have g0 := slots_get (enc := encS) (k := 1) (fun _ => rfl) S j 0 hl (by omega)
  have g1 := slots_get (enc := encS) (k := 1) (fun _ => rfl) S j 1 hl (by omega)
  rw [he] at g0 g1
  refine ⟨?_, ?_, h.frozenAt _, h.frozenAt _⟩
  · rw [h.cellAt _ (by omega)]; simpa using g0
  · rw [h.cellAt _ (by omega)]; simpa using g1

theorem has_any {w : World} {b : Nat} {X : List Nat} {m : Int} {S : List (ByteArray × Bool)} {F : List Nat} (h : ArS w b X m S F) (n : Int) :
    Calls Try.prog 40 #[.pointer (some ⟨b, 0, none⟩), .int .i64 n] w fun e w' => e = .returned (.bool (isB S n)) ∧ w = w' := by
  obtain ⟨sv, fv, h1, h2, h3, _⟩ := h
  obtain ⟨_, c1, _, _⟩ := cells3 h1
  by_cases hn : n < 0
  · rw [show isB S n = false by simp [isB]; omega]
    exact has_neg b n w hn
  · obtain ⟨j, rfl⟩ := Int.eq_ofNat_of_zero_le (show 0 ≤ n by omega)
    by_cases hl : j < S.length
    · obtain ⟨g, cap, rfl, _, _⟩ := ownsRow_pos h2 (by omega)
      have hs : S[j]? = some (S[j].1, S[j].2) := by simp [hl]
      obtain ⟨_, s1, _⟩ := slot_cells h2 rfl hs
      rw [isB_mk hs]
      exact has_in b g _ w _ cap j _ c1 rfl hl s1
    · obtain ⟨a, cap, rfl, _, _⟩ := ownsRow_shape h2
      rw [show isB S (j : Int) = false by simp [isB, List.getElem?_eq_none (show S.length ≤ j by omega)]]
      exact has_far b _ w a _ cap c1 (by omega) (by omega)

theorem get_no {w : World} {b : Nat} {X : List Nat} {m : Int} {S : List (ByteArray × Bool)} {F : List Nat} (h : ArS w b X m S F) (n : Int) (hn : isB S n = false) :
    Calls Try.prog 26 #[.pointer (some ⟨b, 0, none⟩), .int .i64 n] w fun e w' => e = .returned (.tuple #[.string ⟨#[]⟩, .bool false]) ∧ w = w' := by
  have hh := has_any h n
  rw [hn] at hh
  have H := Lib.hid hh
  clear hh hn h
  go_enter Try.func26, Try.ntmps26
  go_wp2_with (go_at_call 40; refine H.out.mono ?_; rintro e w' ⟨rfl, rfl⟩)
  go_ret2
  exact ⟨rfl, rfl⟩

theorem get_yes {w : World} {b : Nat} {X : List Nat} {m : Int} {S : List (ByteArray × Bool)} {F : List Nat} (h : ArS w b X m S F) (n : Int) (j : Nat) (v : ByteArray) (hn : n = j) (hj : S[j]? = some (v, true)) :
    Calls Try.prog 26 #[.pointer (some ⟨b, 0, none⟩), .int .i64 n] w fun e w' => e = .returned (.tuple #[.string v, .bool true]) ∧ w = w' := by
  subst hn
  have hh := has_any h (j : Int)
  rw [isB_mk hj] at hh
  have H := Lib.hid hh
  obtain ⟨sv, fv, h1, h2, h3, _⟩ := h
  obtain ⟨_, c1, _, _⟩ := cells3 h1
  have hl : j < S.length := (List.getElem?_eq_some_iff.1 hj).1
  obtain ⟨g, cap, rfl, _, _⟩ := ownsRow_pos h2 (by omega)
  obtain ⟨s0, s1, _⟩ := slot_cells h2 rfl hj
  have i0 : (0 : Int) ≤ j := by omega
  have i1 : (j : Int) < S.length := by omega
  clear hh hj h1 h2 h3
  go_enter Try.func26, Try.ntmps26
  go_wp2_with (go_at_call 40; refine H.out.mono ?_; rintro e w' ⟨rfl, rfl⟩)
  go_ret2
  exact ⟨rfl, rfl⟩

theorem most_any {w : World} {b : Nat} {X : List Nat} {m : Int} {S : List (ByteArray × Bool)} {F : List Nat} (h : ArS w b X m S F) :
    Calls Try.prog 28 #[.pointer (some ⟨b, 0, none⟩)] w fun e w' => e = .returned (.int .i64 m) ∧ w = w' := by
  obtain ⟨sv, fv, h1, h2, h3, _⟩ := h
  obtain ⟨c0, _, _, _⟩ := cells3 h1
  clear h1 h2 h3
  go_enter Try.func28, Try.ntmps28
  go_wp2
  go_ret
  exact ⟨rfl, rfl⟩

theorem len_any {w : World} {b : Nat} {X : List Nat} {m : Int} {S : List (ByteArray × Bool)} {F : List Nat} (h : ArS w b X m S F) (hS : S.length ≤ 1000000) (hF : F.length ≤ 1000000) :
    Calls Try.prog 27 #[.pointer (some ⟨b, 0, none⟩)] w fun e w' => e = .returned (.int .i64 ((S.length : Int) - F.length)) ∧ ∃ n, w' = w.drewN n := by
  obtain ⟨sv, fv, h1, h2, h3, _⟩ := h
  obtain ⟨_, c1, c2, _⟩ := cells3 h1
  obtain ⟨a, cap, rfl, _, _⟩ := ownsRow_shape h2
  obtain ⟨a', cap', rfl, _, _⟩ := ownsRow_shape h3
  clear h1 h2 h3
  go_enter Try.func27, Try.ntmps27
  go_wp2
  go_quiet (fail)
  go_wp2
  go_ret
  exact ⟨rfl, _, rfl⟩

theorem infoSlotS : (Try.prog.info? 78).map (fun i => (i.zero, i.size, i.bytes)) = some (some (.agg #[.string ⟨#[]⟩, .bool false]), 2, 24) := by kernel_rfl

theorem open_new {w : World} {b : Nat} {X : List Nat} {m : Int} {S : List (ByteArray × Bool)} (h : ArS w b X m S []) (hS : S.length ≤ 1000000) :
    Calls Try.prog 39 #[.pointer (some ⟨b, 0, none⟩)] w fun e w' => e = .returned (.int .i64 (S.length : Int)) ∧ ∃ X', ArS w' b X' m (S ++ [(⟨#[]⟩, false)]) [] ∧ Turned X w w' ∧ Newer X w.heap.size X' := by
  obtain ⟨sv, fv, h1, h2, h3, rfl⟩ := h
  obtain ⟨_, c1, c2, hf⟩ := cells3 h1
  obtain ⟨a, cap, hsv, _, _⟩ := ownsRow_shape h2
  obtain ⟨a', cap', hfv, _, _⟩ := ownsRow_shape h3
  obtain ⟨i0, hi, hz0, hz1, hz2⟩ := info_parts infoSlotS
  have hf1 := hf 1
  have hf2 := hf 2
  have H1 := Lib.hid h1
  have H2 := Lib.hid h2
  have H3 := Lib.hid h3
  have HS := Lib.hid hsv
  have hsl := hS
  rw [hsv] at c1
  rw [hfv] at c2
  clear h1 h2 h3 hf hsv hfv hS
  go_enter Try.func39, Try.ntmps39
  go_wp2_with (at_builtin; refine wpList_append_at _ rfl _ _ 74 rfl 78 i0 (.agg #[.string ⟨#[]⟩, .bool false]) 2 24 Try.underlying74 hi hz0 hz1 hz2 rfl (by decide) _ S.length (slots encS S) rfl (by rw [← HS.out]; exact H2.out.alloc _) ⟨w.heap.size, 0, none⟩ 1 1 [.string ⟨#[]⟩, .bool false] rfl (by decide) rfl (two_new _ _ _ _) (by intro u hu; simp at hu; rcases hu with rfl | rfl <;> rfl) (by unfold maxLen; omega) (by omega) ?_)
  intro g cp w1 hown hgrow hw _ _
  rw [← HS.out] at hgrow hw
  obtain ⟨hb1, _⟩ := ArAt.appended1 (k := 1) H1.out H2.out H3.out (by decide) (by decide) _ hgrow
  have R := ArAt.appended2 (k := 1) H1.out H2.out H3.out (by decide) (by decide) (by decide) _ hgrow (n := S.length + 1) (T := S ++ [(⟨#[]⟩, false)]) (by simp) (by rw [slots_append]; exact hown) (by simpa using hw)
  obtain ⟨_, d1, _, hf⟩ := cells3 hb1
  have e1 := hf 1
  have RR := Lib.hid R
  clear hown hgrow hw R hb1 hf c1 c2 hf1 hf2
  go_wp2
  go_ret
  exact ⟨rfl, RR.out⟩

theorem open_old {w : World} {b : Nat} {X : List Nat} {m : Int} {S : List (ByteArray × Bool)} {F : List Nat} {f : Nat} (h : ArS w b X m S (F ++ [f])) (hF : F.length ≤ 1000000) :
    Calls Try.prog 39 #[.pointer (some ⟨b, 0, none⟩)] w fun e w' => e = .returned (.int .i64 (f : Int)) ∧ ArS w' b X m S F ∧ Turned X w w' := by
  obtain ⟨sv, fv, h1, h2, h3, rfl⟩ := h
  have hl : (F ++ [f]).length = F.length + 1 := by simp
  rw [hl] at h3
  obtain ⟨g, cap, rfl, hc, hm⟩ := ownsRow_pos h3 (by omega)
  obtain ⟨_, c1, c2, hf⟩ := cells3 h1
  have R := ArAt.popped (k := 1) h1 h2 h3 (by decide) (by decide)
  have hf2 := hf 2
  have hcell : w.cell? ⟨g, F.length, none⟩ = some (.int .i64 (f : Int)) := by
    rw [h3.cellAt _ (by omega), places_snoc, List.getElem?_append_right (by rw [places_len]; omega), places_len]
    simp
  have i0 : (0 : Int) ≤ (F.length : Int) := by omega
  have i1 : (F.length : Int) < (F.length : Int) + 1 := by omega
  have i2 : F.length ≤ cap := by omega
  have RR := Lib.hid R
  clear h1 h2 h3 hf R hl
  go_enter Try.func39, Try.ntmps39
  go_wp2
  go_ret
  exact ⟨rfl, RR.out⟩

theorem put_new {w : World} {b : Nat} {X : List Nat} {m : Int} {S : List (ByteArray × Bool)} (h : ArS w b X m S []) (v : ByteArray) (hS : S.length ≤ 1000000) (hm : (S.length : Int) - ([] : List Nat).length ≠ m) :
    Calls Try.prog 24 #[.pointer (some ⟨b, 0, none⟩), .string v] w fun e w' => e = .returned (.tuple #[.int .i64 (S.length : Int), .int .i64 0]) ∧
      ∃ X', ArS w' b X' m (S ++ [(v, true)]) [] ∧ Turned X w w' ∧ Newer X w.heap.size X' := by
  have HL := Lib.hid (fun q : Nat => len_any (w := w.drewN q) h hS (by simp))
  have HO := Lib.hid (fun q : Nat => open_new (w := w.drewN q) h hS)
  obtain ⟨sv, fv, h1, h2, h3, _⟩ := h
  obtain ⟨c0, _, _, _⟩ := cells3 h1
  have hb : ((S.length : Int) == m) = false := by rw [beq_eq_false_iff_ne]; simpa using hm
  clear h1 h2 h3 hm
  go_enter Try.func24, Try.ntmps24
  go_wp2
  go_quiet ((go_at_call 27; exact Calls.quiet_of (HL.out _)))
  go_wp2_with fail
  refine (HO.out _).mono ?_
  rintro e w1 ⟨rfl, X1, hA, hT, hN⟩
  have HT := Lib.hid hT
  have HN := Lib.hid hN
  obtain ⟨sv1, fv1, k1, k2, k3, hX1⟩ := hA
  have hl : (S ++ [((⟨#[]⟩ : ByteArray), false)]).length = S.length + 1 := by simp
  rw [hl] at k2
  obtain ⟨g, cap, rfl, _, _⟩ := ownsRow_pos k2 (by omega)
  have R := ArAt.stored (e := Value.string) hl.symm k1 k2 k3 (by decide) (by decide) S.length v true
  obtain ⟨s0, s1, f0, f1⟩ := slot_cells (j := S.length) (v := ⟨#[]⟩) (t := false) (by rw [hl]; exact k2) rfl (by simp)
  obtain ⟨_, d1, _, _⟩ := cells3 k1
  have i0 : (0 : Int) ≤ (S.length : Int) := by omega
  have i1 : (S.length : Int) < (S.length : Int) + 1 := by omega
  have RR := Lib.hid R
  have HX := Lib.hid hX1
  clear hT hN k1 k2 k3 hl R hX1 c0 hb
  go_wp2
  go_ret2
  obtain rfl : X1 = b :: ([g] ++ fv1.ownBlock.toList) := HX.out
  have hA := RR.out.1
  rw [List.set_append_right _ _ (Nat.le_refl _), Nat.sub_self] at hA
  exact ⟨rfl, _, hA, (((Turned.refl X w).drewN _).trans HT.out (Newer.refl _ _)).trans RR.out.2 HN.out, HN.out⟩

theorem put_old {w : World} {b : Nat} {X : List Nat} {m : Int} {S : List (ByteArray × Bool)} {F : List Nat} {f : Nat} (h : ArS w b X m S (F ++ [f])) (v : ByteArray) (hS : S.length ≤ 1000000) (hF : (F ++ [f]).length ≤ 1000000) (hf : f < S.length) (hm : (S.length : Int) - (F ++ [f]).length ≠ m) :
    Calls Try.prog 24 #[.pointer (some ⟨b, 0, none⟩), .string v] w fun e w' => e = .returned (.tuple #[.int .i64 (f : Int), .int .i64 0]) ∧
      ArS w' b X m (S.set f (v, true)) F ∧ Turned X w w' := by
  have HL := Lib.hid (fun q : Nat => len_any (w := w.drewN q) h hS hF)
  have HO := Lib.hid (fun q : Nat => open_old (w := w.drewN q) h (by simp at hF; omega))
  obtain ⟨sv, fv, h1, h2, h3, _⟩ := h
  obtain ⟨c0, _, _, _⟩ := cells3 h1
  have hb : ((S.length : Int) - ((F ++ [f]).length : Int) == m) = false := by rw [beq_eq_false_iff_ne]; exact hm
  obtain ⟨q, hq⟩ : ∃ q : Nat, (F ++ [f]).length = q := ⟨_, rfl⟩
  rw [hq] at HL hb
  clear h1 h2 h3 hm hF hq
  go_enter Try.func24, Try.ntmps24
  go_wp2
  go_quiet ((go_at_call 27; exact Calls.quiet_of (HL.out _)))
  go_wp2_with fail
  refine (HO.out _).mono ?_
  rintro e w1 ⟨rfl, hA, hT⟩
  have HT := Lib.hid hT
  obtain ⟨sv1, fv1, k1, k2, k3, hX1⟩ := hA
  obtain ⟨g, cap, rfl, _, _⟩ := ownsRow_pos k2 (by omega)
  have R := ArAt.stored (e := Value.string) rfl k1 k2 k3 (by decide) (by decide) f v true
  obtain ⟨s0, s1, f0, f1⟩ := slot_cells (j := f) (v := (S[f]).1) (t := (S[f]).2) k2 rfl (by simp [hf])
  obtain ⟨_, d1, _, _⟩ := cells3 k1
  have i0 : (0 : Int) ≤ (f : Int) := by omega
  have i1 : (f : Int) < (S.length : Int) := by omega
  have RR := Lib.hid R
  have HX := Lib.hid hX1
  clear hT k1 k2 k3 R hX1 c0 hb
  go_wp2
  go_ret2
  obtain rfl : X = b :: ([g] ++ fv1.ownBlock.toList) := HX.out
  exact ⟨rfl, RR.out.1, (((Turned.refl _ w).drewN _).trans HT.out (Newer.refl _ _)).trans RR.out.2 (Newer.refl _ _)⟩

theorem drop_yes {w : World} {b : Nat} {X : List Nat} {m : Int} {S : List (ByteArray × Bool)} {F : List Nat} (h : ArS w b X m S F) (j : Nat) (v : ByteArray) (hj : S[j]? = some (v, true)) (hF : F.length ≤ 1000000) :
    Calls Try.prog 25 #[.pointer (some ⟨b, 0, none⟩), .int .i64 (j : Int)] w fun e w' => e = .returned (.tuple #[.string v, .bool true]) ∧
      ∃ X', ArS w' b X' m (S.set j (⟨#[]⟩, false)) (F ++ [j]) ∧ Turned X w w' ∧ Newer X w.heap.size X' := by
  have H := Lib.hid (get_yes h (j : Int) j v rfl hj)
  obtain ⟨sv, fv, h1, h2, h3, hX⟩ := h
  obtain ⟨_, c1, _, _⟩ := cells3 h1
  have hl : j < S.length := (List.getElem?_eq_some_iff.1 hj).1
  obtain ⟨g, cap, rfl, _, _⟩ := ownsRow_pos h2 (by omega)
  obtain ⟨s0, s1, f0, f1⟩ := slot_cells h2 rfl hj
  have R := ArAt.stored (e := Value.string) rfl h1 h2 h3 (by decide) (by decide) j ⟨#[]⟩ false
  obtain rfl : X = b :: ([g] ++ fv.ownBlock.toList) := hX
  obtain ⟨⟨sv2, fv2, k1, k2, k3, kX⟩, hT⟩ := R
  have i0 : (0 : Int) ≤ (j : Int) := by omega
  have i1 : (j : Int) < (S.length : Int) := by omega
  obtain ⟨_, d1, d2, df⟩ := cells3 k1
  obtain ⟨a', cap', hfv, _, _⟩ := ownsRow_shape k3
  have df2 := df 2
  obtain ⟨ii, hi, hz0, hz1, hz2⟩ := info_parts infoInt
  have K1 := Lib.hid k1
  have K2 := Lib.hid k2
  have K3 := Lib.hid k3
  have KX := Lib.hid kX
  have HT := Lib.hid hT
  have HF := Lib.hid hfv
  rw [hfv] at d2
  clear h1 h2 h3 k1 k2 k3 kX hT hfv df hj
  go_enter Try.func25, Try.ntmps25
  go_wp2_with (first | (go_at_call 26; refine H.out.mono ?_; rintro e w' ⟨rfl, rfl⟩) | (at_builtin; refine wpList_append_at _ rfl _ _ 39 rfl 3 ii (.int .i64 0) 1 8 Try.underlying39 hi hz0 hz1 hz2 rfl (by decide) _ F.length (places F) rfl (by rw [← HF.out]; exact K3.out.alloc _) ⟨w.heap.size, 0, none⟩ 1 1 [.int .i64 (j : Int)] rfl (by decide) rfl (one_new_at _ w.heap.size (by simp) _ _) (by intro u hu; simp at hu; subst hu; rfl) (by unfold maxLen; omega) (by omega) ?_))
  intro g' cp w1 hown hgrow hw _ _
  rw [← HF.out] at hgrow hw
  obtain ⟨hb1, _⟩ := ArAt.freed1 (k := 1) K1.out K2.out K3.out (by decide) (by decide) _ hgrow
  have R := ArAt.freed2 (k := 1) K1.out K2.out K3.out (by decide) (by decide) (by decide) _ hgrow (n := F.length + 1) (G := F ++ [j]) (by simp) (by rw [places_snoc]; exact hown) (by simpa using hw)
  obtain ⟨_, _, e2, hf⟩ := cells3 hb1
  have e3 := hf 2
  have RR := Lib.hid R
  clear hown hgrow hw R hb1 hf c1 d1 d2 df2 s0 s1 f0 f1
  go_wp2
  go_ret2
  obtain ⟨X', r1, r2, r3⟩ := RR.out
  rw [← KX.out] at r2 r3
  exact ⟨rfl, X', r1, HT.out.trans r2 (Newer.refl _ _), r3.mono (by simp)⟩

theorem new_any (m : Int) (w : World) : Calls Try.prog 23 #[.int .i64 m] w fun e w' => e = .returned (.pointer (some ⟨w.heap.size, 0, none⟩)) ∧
    w' = w.alloc (.cells #[.int .i64 (min (max m 0) 4096), .slice none 0 0, .slice none 0 0] 76) := by
  by_cases h0 : m < 0
  · rw [show min (max m 0) 4096 = 0 by omega]
    go_enter Try.func23, Try.ntmps23
    go_wp2
    go_ret
    exact ⟨rfl, rfl⟩
  · by_cases h1 : m > 4096
    · rw [show min (max m 0) 4096 = 4096 by omega]
      have h1' : 4096 < m := by omega
      clear h1
      go_enter Try.func23, Try.ntmps23
      go_wp2
      go_ret
      exact ⟨rfl, rfl⟩
    · rw [show min (max m 0) 4096 = m by omega]
      have h0' : 0 ≤ m := by omega
      have h1' : m ≤ 4096 := by omega
      clear h0 h1
      go_enter Try.func23, Try.ntmps23
      go_wp2
      go_ret
      exact ⟨rfl, rfl⟩

end Go.Proofs.Ytiicbmgompnehaa.St
