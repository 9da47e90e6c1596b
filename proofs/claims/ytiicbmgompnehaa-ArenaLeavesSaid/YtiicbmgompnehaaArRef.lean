/-
  The document's arena: New, Len, Is, Get, Put, Drop.
-/
import Derived.Test.YtiicbmgompnehaaArRefP
import Derived.Test.YtiicbmgompnehaaArPut
namespace Go.Proofs.Ytiicbmgompnehaa
open Go.RowKit

/-- The document's arena, its parts apart, over slots. -/
theorem RfAt.parts {w : World} {b : Nat} {X : List Nat} {m : Int} {S : List (Int × Bool)} {F : List Nat} (h : RfAt w b X m S F) :
    ∃ lv ov fv, ∃ L : List Int, RfP w b m lv S.length (L.map (Value.int .i64)) ov S.length (S.map fun s => .bool s.2) fv F.length (places F) ∧ (∀ (i : Nat) (v : Int), S[i]? = some (v, true) → L[i]? = some v) ∧ X = rb b lv ov fv := by
  obtain ⟨lv, ov, fv, L, h1, h2, h3, h4, h5, h6, h7⟩ := h
  exact ⟨lv, ov, fv, L, ⟨h1, h2, h3, h4, h5⟩, h6, h7⟩
theorem RfP.whole {w : World} {b : Nat} {m : Int} {lv ov fv : Value} {S : List (Int × Bool)} {F : List Nat} {L : List Int} {nl no nf : Nat} {Os Ls Fs : List Value}
    (h : RfP w b m lv nl Ls ov no Os fv nf Fs) (hl : nl = S.length) (ho : no = S.length) (hf : nf = F.length) (hL : Ls = L.map (Value.int .i64)) (hO : Os = S.map fun s => .bool s.2) (hF : Fs = places F) (h6 : ∀ (i : Nat) (v : Int), S[i]? = some (v, true) → L[i]? = some v) :
    RfAt w b (rb b lv ov fv) m S F := by
  subst hl ho hf hL hO hF
  exact ⟨lv, ov, fv, L, h.blk, h.rl, h.ro, h.rf, h.off, h6, rfl⟩

theorem rel_set {S : List (Int × Bool)} {L : List Int} (h : ∀ (i : Nat) (v : Int), S[i]? = some (v, true) → L[i]? = some v) (hl : L.length = S.length) (f : Nat) (v : Int) :
    ∀ (i : Nat) (u : Int), (S.set f (v, true))[i]? = some (u, true) → (L.set f v)[i]? = some u := by
  intro i u hi
  rw [List.getElem?_set] at hi ⊢
  by_cases e : f = i
  · rw [if_pos e] at hi ⊢
    by_cases e2 : f < S.length
    · rw [if_pos e2] at hi
      rw [if_pos (by omega)]
      simpa using hi
    · rw [if_neg e2] at hi
      cases hi
  · rw [if_neg e] at hi ⊢
    exact h i u hi
theorem rel_drop {S : List (Int × Bool)} {L : List Int} (h : ∀ (i : Nat) (v : Int), S[i]? = some (v, true) → L[i]? = some v) (f : Nat) (z : Int) :
    ∀ (i : Nat) (u : Int), (S.set f (z, false))[i]? = some (u, true) → L[i]? = some u := by
  intro i u hi
  rw [List.getElem?_set] at hi
  by_cases e : f = i
  · rw [if_pos e] at hi
    by_cases e2 : f < S.length
    · rw [if_pos e2] at hi
      simp at hi
    · rw [if_neg e2] at hi
      cases hi
  · rw [if_neg e] at hi
    exact h i u hi

set_option maxHeartbeats 400000 in
theorem rnew_any (m : Int) (w : World) : Calls Try.prog 7 #[.int .i64 m] w fun e w' => e = .returned (.pointer (some ⟨w.heap.size, 0, none⟩)) ∧
    w' = w.alloc (.cells #[.int .i64 (min (max m 0) 4096), .slice none 0 0, .slice none 0 0, .slice none 0 0] tRf) := by
  by_cases h0 : m < 0
  · rw [show min (max m 0) 4096 = 0 by omega]
    go_enter Try.func7, Try.ntmps7
    go_wp2
    go_ret
    exact ⟨rfl, rfl⟩
  · by_cases h1 : m > 4096
    · rw [show min (max m 0) 4096 = 4096 by omega]
      have h1' : 4096 < m := by omega
      clear h1
      go_enter Try.func7, Try.ntmps7
      go_wp2
      go_ret
      exact ⟨rfl, rfl⟩
    · rw [show min (max m 0) 4096 = m by omega]
      have h0' : 0 ≤ m := by omega
      have h1' : m ≤ 4096 := by omega
      clear h0 h1
      go_enter Try.func7, Try.ntmps7
      go_wp2
      go_ret
      exact ⟨rfl, rfl⟩
set_option maxHeartbeats 400000 in
theorem new_any (m : Int) (w : World) : Calls Try.prog 6 #[.int .i64 m] w fun e w' => e = .returned (.pointer (some ⟨w.heap.size, 0, none⟩)) ∧
    w' = w.alloc (.cells #[.int .i64 (min (max m 0) 4096), .slice none 0 0, .slice none 0 0] 63) := by
  by_cases h0 : m < 0
  · rw [show min (max m 0) 4096 = 0 by omega]
    go_enter Try.func6, Try.ntmps6
    go_wp2
    go_ret
    exact ⟨rfl, rfl⟩
  · by_cases h1 : m > 4096
    · rw [show min (max m 0) 4096 = 4096 by omega]
      have h1' : 4096 < m := by omega
      clear h1
      go_enter Try.func6, Try.ntmps6
      go_wp2
      go_ret
      exact ⟨rfl, rfl⟩
    · rw [show min (max m 0) 4096 = m by omega]
      have h0' : 0 ≤ m := by omega
      have h1' : m ≤ 4096 := by omega
      clear h0 h1
      go_enter Try.func6, Try.ntmps6
      go_wp2
      go_ret
      exact ⟨rfl, rfl⟩
set_option maxHeartbeats 400000 in
theorem rlen_any {w : World} {b : Nat} {X : List Nat} {m : Int} {S : List (Int × Bool)} {F : List Nat} (h : RfAt w b X m S F) (hS : S.length ≤ 1000000) (hF : F.length ≤ 1000000) :
    Calls Try.prog 17 #[.pointer (some ⟨b, 0, none⟩)] w fun e w' => e = .returned (.int .i64 ((S.length : Int) - F.length)) ∧ ∃ n, w' = w.drewN n := by
  obtain ⟨lv, ov, fv, L, hP, _, _⟩ := h.parts
  obtain ⟨_, c1, _, c3, _⟩ := hP.cells
  obtain ⟨a, cap, rfl, _, _⟩ := ownsRow_shape hP.rl
  obtain ⟨a', cap', rfl, _, _⟩ := ownsRow_shape hP.rf
  clear hP h
  go_enter Try.func17, Try.ntmps17
  go_wp2
  go_quiet (fail)
  go_wp2
  go_ret
  exact ⟨rfl, _, rfl⟩

set_option maxHeartbeats 400000 in
theorem is_neg (b : Nat) (n : Int) (w : World) (hn : n < 0) : Calls Try.prog 13 #[.pointer (some ⟨b, 0, none⟩), .int .i64 n] w fun e w' => e = .returned (.bool false) ∧ w = w' := by
  go_enter Try.func13, Try.ntmps13
  go_wp2
  go_ret
  exact ⟨rfl, rfl⟩
set_option maxHeartbeats 400000 in
theorem is_far (b : Nat) (n : Int) (w : World) (a : Option Addr) (len cap : Nat) (hc : w.cell? ⟨b, 1, none⟩ = some (.slice a len cap)) (hn : 0 ≤ n) (hl : (len : Int) ≤ n) :
    Calls Try.prog 13 #[.pointer (some ⟨b, 0, none⟩), .int .i64 n] w fun e w' => e = .returned (.bool false) ∧ w = w' := by
  go_enter Try.func13, Try.ntmps13
  go_wp2
  go_ret
  exact ⟨rfl, rfl⟩
set_option maxHeartbeats 400000 in
theorem is_in (b g : Nat) (n : Int) (w : World) (a : Option Addr) (len cap cap' j : Nat) (t : Bool) (hc : w.cell? ⟨b, 1, none⟩ = some (.slice a len cap)) (hd : w.cell? ⟨b, 2, none⟩ = some (.slice (some ⟨g, 0, none⟩) len cap')) (hn : n = j) (hl : j < len)
    (ht : w.cell? ⟨g, j, none⟩ = some (.bool t)) : Calls Try.prog 13 #[.pointer (some ⟨b, 0, none⟩), .int .i64 n] w fun e w' => e = .returned (.bool t) ∧ w = w' := by
  subst hn
  have h0 : (0 : Int) ≤ j := by omega
  have h1 : (j : Int) < len := by omega
  go_enter Try.func13, Try.ntmps13
  go_wp2
  go_ret
  exact ⟨rfl, rfl⟩
theorem is_any {w : World} {b : Nat} {X : List Nat} {m : Int} {S : List (Int × Bool)} {F : List Nat} (h : RfAt w b X m S F) (n : Int) :
    Calls Try.prog 13 #[.pointer (some ⟨b, 0, none⟩), .int .i64 n] w fun e w' => e = .returned (.bool (isB S n)) ∧ w = w' := by
  obtain ⟨lv, ov, fv, L, hP, _, _⟩ := h.parts
  obtain ⟨_, c1, c2, _, _⟩ := hP.cells
  obtain ⟨a, cap, rfl, _, _⟩ := ownsRow_shape hP.rl
  by_cases hn : n < 0
  · rw [show isB S n = false by simp [isB]; omega]
    exact is_neg b n w hn
  · obtain ⟨j, rfl⟩ := Int.eq_ofNat_of_zero_le (show 0 ≤ n by omega)
    by_cases hl : j < S.length
    · obtain ⟨g, cap', rfl, _, _⟩ := ownsRow_pos hP.ro (by omega)
      have hs : S[j]? = some (S[j].1, S[j].2) := by simp [hl]
      obtain ⟨s1, _⟩ := hP.cellO (j := j) (u := .bool S[j].2) (by simp [hl])
      rw [isB_mk hs]
      exact is_in b g _ w a _ cap cap' j _ c1 c2 rfl hl s1
    · rw [show isB S (j : Int) = false by simp [isB, List.getElem?_eq_none (show S.length ≤ j by omega)]]
      exact is_far b _ w a _ cap c1 (by omega) (by omega)
set_option maxHeartbeats 400000 in
theorem rget_no {w : World} {b : Nat} {X : List Nat} {m : Int} {S : List (Int × Bool)} {F : List Nat} (h : RfAt w b X m S F) (n : Int) (hn : isB S n = false) :
    Calls Try.prog 15 #[.pointer (some ⟨b, 0, none⟩), .int .i64 n] w fun e w' => e = .returned (.tuple #[.int .i64 0, .bool false]) ∧ w = w' := by
  have hh := is_any h n
  rw [hn] at hh
  have H := Lib.hid hh
  clear hh hn h
  go_enter Try.func15, Try.ntmps15
  go_wp2_with (go_at_call 13; refine H.out.mono ?_; rintro e w' ⟨rfl, rfl⟩)
  go_ret2
  exact ⟨rfl, rfl⟩
set_option maxHeartbeats 400000 in
theorem rget_yes {w : World} {b : Nat} {X : List Nat} {m : Int} {S : List (Int × Bool)} {F : List Nat} (h : RfAt w b X m S F) (j : Nat) (v : Int) (hj : S[j]? = some (v, true)) :
    Calls Try.prog 15 #[.pointer (some ⟨b, 0, none⟩), .int .i64 (j : Int)] w fun e w' => e = .returned (.tuple #[.int .i64 v, .bool true]) ∧ w = w' := by
  have hh := is_any h (j : Int)
  rw [isB_mk hj] at hh
  have H := Lib.hid hh
  obtain ⟨lv, ov, fv, L, hP, hL, _⟩ := h.parts
  obtain ⟨_, c1, c2, _, _⟩ := hP.cells
  have hl : j < S.length := (List.getElem?_eq_some_iff.1 hj).1
  obtain ⟨g, cap, rfl, _, _⟩ := ownsRow_pos hP.rl (by omega)
  obtain ⟨s0, _⟩ := hP.cellL (j := j) (u := .int .i64 v) (by simp [hL j v hj])
  have i0 : (0 : Int) ≤ j := by omega
  have i1 : (j : Int) < S.length := by omega
  clear hh hj hP h hL
  go_enter Try.func15, Try.ntmps15
  go_wp2_with (go_at_call 13; refine H.out.mono ?_; rintro e w' ⟨rfl, rfl⟩)
  go_ret2
  exact ⟨rfl, rfl⟩

set_option maxHeartbeats 400000 in
theorem rput_full {w : World} {b : Nat} {X : List Nat} {m : Int} {S : List (Int × Bool)} {F : List Nat} (h : RfAt w b X m S F) (v : Int) (hS : S.length ≤ 1000000) (hF : F.length ≤ 1000000) (hm : (S.length : Int) - F.length = m) :
    Calls Try.prog 9 #[.pointer (some ⟨b, 0, none⟩), .int .i64 v] w fun e w' => e = .returned (.tuple #[.int .i64 0, .int .i64 3]) ∧ ∃ n, w' = w.drewN n := by
  have HL := Lib.hid (fun q : Nat => rlen_any (w := w.drewN q) h hS hF)
  obtain ⟨lv, ov, fv, L, hP, _, _⟩ := h.parts
  obtain ⟨c0, _, _, _, _⟩ := hP.cells
  have hge : m ≤ (S.length : Int) - F.length := by omega
  clear hP h hm
  go_enter Try.func9, Try.ntmps9
  go_wp2
  go_quiet ((go_at_call 17; exact Calls.quiet_of (HL.out _)))
  go_wp2
  go_ret2
  exact ⟨rfl, _, rfl⟩

set_option maxHeartbeats 800000 in
theorem rput_new {w : World} {b : Nat} {X : List Nat} {m : Int} {S : List (Int × Bool)} (h : RfAt w b X m S []) (v : Int) (hS : S.length ≤ 1000000) (hm : (S.length : Int) < m) :
    Calls Try.prog 9 #[.pointer (some ⟨b, 0, none⟩), .int .i64 v] w fun e w' => e = .returned (.tuple #[.int .i64 (S.length : Int), .int .i64 0]) ∧
      ∃ X', RfAt w' b X' m (S ++ [(v, true)]) [] ∧ Turned X w w' ∧ Newer X w.heap.size X' := by
  have HL := Lib.hid (fun q : Nat => rlen_any (w := w.drewN q) h hS (by simp))
  obtain ⟨lv, ov, fv, L, hP, hL, rfl⟩ := h.parts
  have HP : Hid (∀ q, RfP (w.drewN q) b m lv S.length (L.map (Value.int .i64)) ov S.length (S.map fun s => .bool s.2) fv ([] : List Nat).length (places [])) := Lib.hid (fun _ => ⟨hP.blk, hP.rl, hP.ro, hP.rf, hP.off⟩)
  obtain ⟨c0, c1, c2, c3, hf⟩ := hP.cells
  obtain ⟨al, cl, hlv, _, _⟩ := ownsRow_shape hP.rl
  obtain ⟨ao, co, hov, _, _⟩ := ownsRow_shape hP.ro
  obtain ⟨af, cf, hfv, _, _⟩ := ownsRow_shape hP.rf
  have hlen : L.length = S.length := by have := hP.rl.1; simpa using this
  rw [hlv] at c1
  rw [hov] at c2
  rw [hfv] at c3
  have f1 := hf 1
  have HLV := Lib.hid hlv
  have HOV := Lib.hid hov
  have HFV := Lib.hid hfv
  have HLL := Lib.hid hL
  have HLEN := Lib.hid hlen
  obtain ⟨ii, hi, hz0, hz1, hz2⟩ := info_parts infoInt
  obtain ⟨ib, bi, bz0, bz1, bz2⟩ := info_parts infoBool
  clear hP h hf hlv hov hfv hL hlen
  go_enter Try.func9, Try.ntmps9
  go_wp2
  go_quiet ((go_at_call 17; exact Calls.quiet_of (HL.out _)))
  go_wp2_with (at_builtin; refine wpList_append_at _ rfl _ _ 39 rfl 3 ii (.int .i64 0) 1 8 Try.underlying39 hi hz0 hz1 hz2 rfl (by decide) _ S.length (L.map (Value.int .i64)) rfl (by rw [← HLV.out]; exact (HP.out _).rl.alloc _) ⟨w.heap.size, 0, none⟩ 1 1 [.int .i64 v] rfl (by decide) rfl (one_new_at _ w.heap.size rfl _ _) (by intro u hu; simp at hu; subst hu; rfl) (by unfold maxLen; omega) (by omega) ?_)
  intro g cp w1 hown hgrow hw _ _
  rw [← HLV.out] at hgrow hw
  obtain ⟨hb1, _⟩ := RfP.appL1 (HP.out _) _ hgrow
  have R := RfP.appL2 (HP.out _) _ hgrow hown (by simpa using hw)
  have d1 : w1.cell? ⟨b, 1, none⟩ = some lv := by simp [World.cell?, hb1]
  have d2 : w1.cell? ⟨b, 2, none⟩ = some ov := by simp [World.cell?, hb1]
  have g1 : w1.frozen? ⟨b, 1, none⟩ = false := frozen_of_row w1 b 1 _ tRf hb1
  rw [HOV.out] at d2
  have HR := Lib.hid R
  clear hown hgrow hw hb1 R c0 c1 c2 c3 f1
  go_wp2_with (at_builtin; refine wpList_append_at _ rfl _ _ 40 rfl 4 ib (.bool false) 1 1 Try.underlying40 bi bz0 bz1 bz2 rfl (by decide) _ S.length (S.map fun s => .bool s.2) rfl (by rw [← HOV.out]; exact HR.out.1.ro.alloc _) ⟨w1.heap.size, 0, none⟩ 1 1 [.bool true] rfl (by decide) rfl (one_new_at _ w1.heap.size (by simp) _ _) (by intro u hu; simp at hu; subst hu; rfl) (by unfold maxLen; omega) (by omega) ?_)
  intro g2 cp2 w2 hown hgrow hw _ _
  rw [← HOV.out] at hgrow hw
  obtain ⟨hb1, _⟩ := RfP.appO1 HR.out.1 _ hgrow
  have R := RfP.appO2 HR.out.1 _ hgrow hown (by simpa using hw)
  have e1 : w2.cell? ⟨b, 1, none⟩ = some (.slice (some ⟨g, 0, none⟩) (S.length + 1) cp) := by simp [World.cell?, hb1]
  have e2 : w2.cell? ⟨b, 2, none⟩ = some ov := by simp [World.cell?, hb1]
  have g2 : w2.frozen? ⟨b, 2, none⟩ = false := frozen_of_row w2 b 2 _ tRf hb1
  have HR2 := Lib.hid R
  clear hown hgrow hw hb1 R d1 d2 g1
  go_wp2
  go_ret2
  obtain ⟨r1, r2, r3⟩ := HR.out
  obtain ⟨q1, q2, q3⟩ := HR2.out
  refine ⟨rfl, _, q1.whole (L := L ++ [v]) (by simp) (by simp) rfl (by simp) (by simp) rfl ?_, (((Turned.refl _ w).drewN _).trans r2 (Newer.refl _ _)).trans q2 r3, r3.trans q3 (by simpa using r2.size)⟩
  intro i u hi
  have hl := HLEN.out
  rw [List.getElem?_append] at hi ⊢
  rw [hl]
  split at hi
  · rename_i hlt
    rw [if_pos hlt]
    exact HLL.out i u hi
  · rename_i hlt
    rw [if_neg hlt]
    have e : i - S.length = 0 := by
      have := (List.getElem?_eq_some_iff.1 hi).1
      simp at this
      omega
    rw [e] at hi ⊢
    simp at hi
    simp [hi]

set_option maxHeartbeats 800000 in
theorem rput_old {w : World} {b : Nat} {X : List Nat} {m : Int} {S : List (Int × Bool)} {F : List Nat} {f : Nat} (h : RfAt w b X m S (F ++ [f])) (v : Int) (hS : S.length ≤ 1000000) (hF : (F ++ [f]).length ≤ 1000000) (hf : f < S.length) (hm : (S.length : Int) - (F ++ [f]).length < m) :
    Calls Try.prog 9 #[.pointer (some ⟨b, 0, none⟩), .int .i64 v] w fun e w' => e = .returned (.tuple #[.int .i64 (f : Int), .int .i64 0]) ∧
      RfAt w' b X m (S.set f (v, true)) F ∧ Turned X w w' := by
  have HL := Lib.hid (fun q : Nat => rlen_any (w := w.drewN q) h hS hF)
  obtain ⟨lv, ov, fv, L, hP, hL, rfl⟩ := h.parts
  have hlen : L.length = S.length := by have := hP.rl.1; simpa using this
  have hl : (F ++ [f]).length = F.length + 1 := by simp
  rw [hl] at hP hm HL
  obtain ⟨gl, cl, rfl, _, _⟩ := ownsRow_pos hP.rl (by omega)
  obtain ⟨go, co, rfl, _, _⟩ := ownsRow_pos hP.ro (by omega)
  obtain ⟨gf, cf, rfl, hcf, _⟩ := ownsRow_pos hP.rf (by omega)
  obtain ⟨c0, c1, c2, c3, hfr⟩ := hP.cells
  obtain ⟨k3, _⟩ := hP.cellF (j := F.length) (u := .int .i64 (f : Int)) (by rw [places_snoc, List.getElem?_append_right (by rw [places_len]; omega), places_len]; simp)
  obtain ⟨lf, hlf⟩ : ∃ lf, L[f]? = some lf := ⟨_, List.getElem?_eq_getElem (by omega)⟩
  obtain ⟨k1, l1⟩ := hP.cellL (j := f) (u := .int .i64 lf) (by simp [hlf])
  obtain ⟨k2, l2⟩ := hP.cellO (j := f) (u := .bool (S[f]).2) (by simp [hf])
  have f3 := hfr 3
  have n1 : b ≠ gl := fun e => block_off hP.blk hP.rl (by decide) (by simp [Value.ownBlock, e])
  have n2 : b ≠ go := fun e => block_off hP.blk hP.ro (by decide) (by simp [Value.ownBlock, e])
  have n3 : gl ≠ go := by
    rcases rows_off hP.rl hP.ro (by decide) with e | e
    · simp [Value.ownBlock] at e
    · simpa [Value.ownBlock] using e
  have n1' := n1.symm
  have n2' := n2.symm
  have n3' := n3.symm
  have R1 := hP.cutF (k := F.length) (by omega)
  have R2 := R1.1.setL f (.int .i64 v)
  have R3 := R2.1.setO f (.bool true)
  have HR1 := Lib.hid R1
  have HR2 := Lib.hid R2
  have HR3 := Lib.hid R3
  have HLL := Lib.hid hL
  have HLEN := Lib.hid hlen
  have i0 : (0 : Int) ≤ (F.length : Int) := by omega
  have i1 : (F.length : Int) < (F.length : Int) + 1 := by omega
  have i2 : F.length ≤ cf := by omega
  have j0 : (0 : Int) ≤ (f : Int) := by omega
  have j1 : (f : Int) < S.length := by omega
  have hm' : (S.length : Int) - ((F.length : Int) + 1) < m := by simpa using hm
  have hF' : F.length ≤ 1000000 := by simp at hF; omega
  clear hP h hfr hL hlf hlen hl R1 R2 R3 hm hF
  go_enter Try.func9, Try.ntmps9
  go_wp2
  go_quiet ((go_at_call 17; exact Calls.quiet_of (HL.out _)))
  go_wp2
  go_ret2
  obtain ⟨_, t1⟩ := HR1.out
  obtain ⟨_, t2⟩ := HR2.out
  obtain ⟨r3, t3⟩ := HR3.out
  have hlen := HLEN.out
  have hW := r3.whole (S := S.set f (v, true)) (F := F) (L := L.set f v) (by simp) (by simp) rfl (by rw [List.map_set]) (by rw [List.map_set]) (by rw [places_snoc, List.take_left' (places_len F)]) ?_
  · have hT := (t1.trans t2 (Newer.refl _ _)).trans t3 (Newer.refl _ _)
    exact ⟨rfl, hW, hT.drewN _⟩
  · exact rel_set HLL.out hlen f v

theorem rput_any {w : World} {b : Nat} {X : List Nat} {m : Int} {S : List (Int × Bool)} {F : List Nat} (h : RfAt w b X m S F) (v : Int) (hS : S.length ≤ 1000000) (hF : F.length ≤ 1000000) (hf : ∀ f ∈ F, f < S.length) (hm : (S.length : Int) - F.length ≤ m) :
    Calls Try.prog 9 #[.pointer (some ⟨b, 0, none⟩), .int .i64 v] w fun e w' => e = .returned (.tuple #[.int .i64 (pAt m S F), .int .i64 (pErr m S F)]) ∧
      ∃ X', RfAt w' b X' m (pS m S F v) (pF m S F) ∧ Turned X w w' ∧ Newer X w.heap.size X' := by
  by_cases he : (S.length : Int) - F.length = m
  · have hfl : full m S F = true := by simpa [full] using he
    simp only [pS, pF, pAt, pErr, hfl, if_true]
    exact (rput_full h v hS hF he).mono fun e w' ⟨he, n, hw⟩ => ⟨he, X, by rw [hw]; exact h, by rw [hw]; exact (Turned.refl _ _).drewN _, Newer.refl _ _⟩
  · have hfl : full m S F = false := by simpa [full] using he
    simp only [pS, pF, pAt, pErr, hfl]
    have hlt : (S.length : Int) - F.length < m := by omega
    clear hm he
    rcases List.eq_nil_or_concat F with rfl | ⟨F', f, rfl⟩
    · exact rput_new h v hS (by simpa using hlt)
    · simp only [List.concat_eq_append, List.getLast?_append, List.getLast?_singleton, Option.some_or, List.dropLast_concat] at *
      exact (rput_old h v hS hF (hf f (by simp)) hlt).mono fun e w' ⟨he, h1, h2⟩ => ⟨he, X, h1, h2, Newer.refl _ _⟩

set_option maxHeartbeats 400000 in
theorem rdrop_no {w : World} {b : Nat} {X : List Nat} {m : Int} {S : List (Int × Bool)} {F : List Nat} (h : RfAt w b X m S F) (n : Int) (hn : isB S n = false) :
    Calls Try.prog 11 #[.pointer (some ⟨b, 0, none⟩), .int .i64 n] w fun e w' => e = .returned (.tuple #[.int .i64 0, .bool false]) ∧ w = w' := by
  have hh := is_any h n
  rw [hn] at hh
  have H := Lib.hid hh
  clear hh hn h
  go_enter Try.func11, Try.ntmps11
  go_wp2_with (go_at_call 13; refine H.out.mono ?_; rintro e w' ⟨rfl, rfl⟩)
  go_ret2
  exact ⟨rfl, rfl⟩

set_option maxHeartbeats 800000 in
theorem rdrop_yes {w : World} {b : Nat} {X : List Nat} {m : Int} {S : List (Int × Bool)} {F : List Nat} (h : RfAt w b X m S F) (j : Nat) (v z : Int) (hj : S[j]? = some (v, true)) (hF : F.length ≤ 1000000) :
    Calls Try.prog 11 #[.pointer (some ⟨b, 0, none⟩), .int .i64 (j : Int)] w fun e w' => e = .returned (.tuple #[.int .i64 v, .bool true]) ∧
      ∃ X', RfAt w' b X' m (S.set j (z, false)) (F ++ [j]) ∧ Turned X w w' ∧ Newer X w.heap.size X' := by
  have hh := is_any h (j : Int)
  rw [isB_mk hj] at hh
  have H := Lib.hid hh
  obtain ⟨lv, ov, fv, L, hP, hL, rfl⟩ := h.parts
  have hlen : L.length = S.length := by have := hP.rl.1; simpa using this
  have hl : j < S.length := (List.getElem?_eq_some_iff.1 hj).1
  obtain ⟨gl, cl, rfl, _, _⟩ := ownsRow_pos hP.rl (by omega)
  obtain ⟨go, co, rfl, _, _⟩ := ownsRow_pos hP.ro (by omega)
  obtain ⟨af, cf, hfv, _, _⟩ := ownsRow_shape hP.rf
  obtain ⟨c0, c1, c2, c3, hfr⟩ := hP.cells
  obtain ⟨k1, l1⟩ := hP.cellL (j := j) (u := .int .i64 v) (by simp [hL j v hj])
  obtain ⟨k2, l2⟩ := hP.cellO (j := j) (u := .bool (S[j]).2) (by simp [hl])
  have f3 := hfr 3
  have n1 : b ≠ gl := fun e => block_off hP.blk hP.rl (by decide) (by simp [Value.ownBlock, e])
  have n2 : b ≠ go := fun e => block_off hP.blk hP.ro (by decide) (by simp [Value.ownBlock, e])
  have n3 : gl ≠ go := by
    rcases rows_off hP.rl hP.ro (by decide) with e | e
    · simp [Value.ownBlock] at e
    · simpa [Value.ownBlock] using e
  have n1' := n1.symm
  have n2' := n2.symm
  have n3' := n3.symm
  have R1 := hP.setO j (.bool false)
  have HR1 := Lib.hid R1
  have HLL := Lib.hid hL
  have HLEN := Lib.hid hlen
  have HFV := Lib.hid hfv
  have i0 : (0 : Int) ≤ (j : Int) := by omega
  have i1 : (j : Int) < S.length := by omega
  obtain ⟨ii, hi, hz0, hz1, hz2⟩ := info_parts infoInt
  rw [hfv] at c3
  clear hh hP h hfr hL hlen R1 hfv hj
  go_enter Try.func11, Try.ntmps11
  go_wp2_with (first | (go_at_call 13; refine H.out.mono ?_; rintro e w' ⟨rfl, rfl⟩) | (at_builtin; refine wpList_append_at _ rfl _ _ 39 rfl 3 ii (.int .i64 0) 1 8 Try.underlying39 hi hz0 hz1 hz2 rfl (by decide) _ F.length (places F) rfl (by rw [← HFV.out]; exact HR1.out.1.rf.alloc _) ⟨w.heap.size, 0, none⟩ 1 1 [.int .i64 (j : Int)] rfl (by decide) rfl (one_new_at _ w.heap.size (by simp) _ _) (by intro u hu; simp at hu; subst hu; rfl) (by unfold maxLen; omega) (by omega) ?_))
  intro g' cp w1 hown hgrow hw _ _
  rw [← HFV.out] at hgrow hw
  obtain ⟨hb1, hl1, _⟩ := RfP.appF1 HR1.out.1 _ hgrow
  have R := RfP.appF2 HR1.out.1 _ hgrow hown (by simpa using hw)
  have e1 : w1.cell? ⟨b, 1, none⟩ = some (.slice (some ⟨gl, 0, none⟩) S.length cl) := by simp [World.cell?, hb1]
  have e3 : w1.cell? ⟨b, 3, none⟩ = some fv := by simp [World.cell?, hb1]
  have f4 : w1.frozen? ⟨b, 3, none⟩ = false := frozen_of_row w1 b 3 _ tRf hb1
  have e4 : w1.cell? ⟨gl, j, none⟩ = some (.int .i64 v) := by
    rw [hl1.cellAt _ (by omega)]
    have h1 := (HR1.out.1.rl.cellAt j (by omega))
    rw [← h1]
    exact (World.cell?_of_block (a := ⟨gl, j, none⟩) (Below.heap_setCell w ⟨go, j, none⟩ (.bool false) gl n3)).trans k1
  have HR := Lib.hid R
  clear hown hgrow hw R hb1 hl1 c0 c1 c2 c3 f3 k1 k2 l1 l2
  go_wp2
  go_ret2
  obtain ⟨_, t1⟩ := HR1.out
  obtain ⟨r2, t2, m2⟩ := HR.out
  refine ⟨rfl, _, r2.whole (S := S.set j (z, false)) (F := F ++ [j]) (L := L) (by simp) (by simp) (by simp) rfl (by rw [List.map_set]) (by rw [places_snoc]) ?_, t1.trans t2 (Newer.refl _ _), m2.mono (by simp)⟩
  exact rel_drop HLL.out j z
end Go.Proofs.Ytiicbmgompnehaa
