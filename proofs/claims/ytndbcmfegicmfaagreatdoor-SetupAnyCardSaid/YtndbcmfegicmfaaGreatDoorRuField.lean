/-
  The document's reader of setups: long, field.
-/
import Derived.Test.YtndbcmfegicmfaaGreatDoorGAG
namespace Go.Proofs.YtndbcmfegicmfaaGreatDoor
open Go.RowKit

def longS (s : Rd) (n most : Int) : Bool × Rd := if s.2 = 0 ∧ most ≤ n then (true, (s.1, 6)) else (decide (s.2 ≠ 0), s)
set_option maxRecDepth 100000 in
set_option maxHeartbeats 1600000 in
theorem rslong_any {w : World} {b : Nat} {ao : Option Addr} {bw off cap : Nat} {L : List Wd} {s : Rd} (h : RsI w b ao bw off cap L s) (n most : Int) :
    Calls Tryz.prog 44 #[.pointer (some ⟨b, 0, none⟩), .int .i64 n, .int .i64 most] w fun r w' => r = .returned (.bool (longS s n most).1) ∧ RsP b ao bw off cap L (longS s n most).2 w w' := by
  have HR := Lib.hid h
  obtain ⟨c, e⟩ := s
  obtain ⟨d0, d1, d2⟩ := op_cells h.rd
  have f2 := frozen_of_row _ _ 2 _ _ h.rd
  simp only at d0 d1 d2
  by_cases he : e = 0
  · subst he
    by_cases hn : most ≤ n
    · have e1 : longS (c, 0) n most = (true, (c, 6)) := by unfold longS; rw [if_pos ⟨rfl, hn⟩]
      rw [e1]
      have hs := HR.out.setBad 6
      have HS := Lib.hid hs
      have d2' := (op_cells hs.1.rd).2.2
      clear h e1 hs
      go_enter Tryz.func44, Tryz.ntmps44
      go_wp2
      go_ret
      exact ⟨rfl, HS.out.1, HS.out.2⟩
    · have e1 : longS (c, 0) n most = (false, (c, 0)) := by unfold longS; rw [if_neg (fun h => hn h.2)]; simp
      rw [e1]
      clear h e1
      go_enter Tryz.func44, Tryz.ntmps44
      go_wp2
      go_ret
      exact ⟨rfl, HR.out, Turned.refl _ _⟩
  · have e1 : longS (c, e) n most = (true, (c, e)) := by unfold longS; rw [if_neg (fun h => he h.1)]; simp [he]
    rw [e1]
    have ee : (e == 0) = false := by simpa using he
    have en : (e != 0) = true := by simpa using he
    clear h e1
    go_enter Tryz.func44, Tryz.ntmps44
    go_wp2
    go_ret
    exact ⟨rfl, HR.out, Turned.refl _ _⟩
theorem rsp_then {b : Nat} {ao : Option Addr} {bw off cap : Nat} {L : List Wd} {s : Rd} {w w1 w2 : World} (h : Turned [b] w w1) (h2 : RsP b ao bw off cap L s w1 w2) : RsP b ao bw off cap L s w w2 :=
  ⟨h2.1, h.trans h2.2 (fun _ h => .inl h)⟩
set_option maxRecDepth 100000 in
set_option maxHeartbeats 6400000 in
theorem rsfield_any {w : World} {b : Nat} {ao : Option Addr} {bw off cap : Nat} {L : List Wd} {s : Rd} (h : RsI w b ao bw off cap L s) (name : ByteArray) (most : Int) :
    Calls Tryz.prog 41 #[.pointer (some ⟨b, 0, none⟩), .string name, .int .i64 most] w fun r w' => r = .returned (.int .i64 (fieldS L s name.data.toList most).1) ∧ RsP b ao bw off cap L (fieldS L s name.data.toList most).2 w w' := by
  have HN := Lib.hid (rsneed_any h 1 name)
  have hm := h.len
  unfold fieldS
  obtain ⟨⟨c, e⟩, hs⟩ : ∃ s1, needS L s 1 name.data.toList = s1 := ⟨_, rfl⟩
  rw [hs] at HN ⊢
  clear h hs
  by_cases he : e = 0
  · subst he
    by_cases hlt : c < L.length
    · obtain ⟨x, hx⟩ : ∃ x, L[c]? = some x := ⟨L[c], List.getElem?_eq_getElem hlt⟩
      have hx2 : L[c] = x := by rw [List.getElem?_eq_getElem hlt] at hx; exact Option.some.inj hx
      obtain ⟨k1, t1, m, p⟩ := x
      obtain ⟨n, hn⟩ : ∃ n, L.length = n := ⟨_, rfl⟩
      have HLN := Lib.hid hn
      have HXX := Lib.hid hx2
      have c0 : (0 : Int) ≤ c := by omega
      have c1 : (c : Int) < n := by omega
      have cn : c < n := by omega
      have cw : IntKind.i64.wrap ((c : Int) + 1) = ((c + 1 : Nat) : Int) := by rw [IntKind.wrap_i64]; omega
      by_cases hk : k1 = 2
      · subst hk
        by_cases h1 : m < 1
        · have e1 : numS L (c, 0) most = (0, (c, 1)) := by unfold numS; rw [if_neg (by simp)]; simp only [hx]; rw [if_pos trivial, if_pos (.inl h1)]
          rw [e1]
          clear e1 hx hx2 hn hm
          go_enter Tryz.func41, Tryz.ntmps41
          go_wp2_with fail
          with_reducible refine HN.out.mono ?_
          rintro r w1 ⟨rfl, hr1, ht1⟩
          have HR1 := Lib.hid hr1
          have HT1 := Lib.hid ht1
          obtain ⟨d0, d1, d2⟩ := op_cells hr1.rd
          have f2 := frozen_of_row _ _ 2 _ _ hr1.rd
          obtain ⟨rfl, hbw⟩ := hr1.ws.at_ (by omega)
          obtain ⟨x0, -, x2, -⟩ := hr1.ws.cells c hlt
          rw [HXX.out] at x0 x2
          rw [HLN.out] at d0
          simp only at d0 d1 d2 x0 x2
          clear hr1 ht1
          go_wp2_with fail
          go_quiet (fail)
          go_wp2_with fail
          go_quiet (fail)
          go_wp2
          go_ret
          exact ⟨rfl, rsp_then (HT1.out.drewN _) ((HR1.out.drewN _).setBad 1)⟩
        · by_cases h2 : most < m
          · have e1 : numS L (c, 0) most = (0, (c, 1)) := by unfold numS; rw [if_neg (by simp)]; simp only [hx]; rw [if_pos trivial, if_pos (.inr h2)]
            rw [e1]
            clear e1 hx hx2 hn hm
            go_enter Tryz.func41, Tryz.ntmps41
            go_wp2_with fail
            with_reducible refine HN.out.mono ?_
            rintro r w1 ⟨rfl, hr1, ht1⟩
            have HR1 := Lib.hid hr1
            have HT1 := Lib.hid ht1
            obtain ⟨d0, d1, d2⟩ := op_cells hr1.rd
            have f2 := frozen_of_row _ _ 2 _ _ hr1.rd
            obtain ⟨rfl, hbw⟩ := hr1.ws.at_ (by omega)
            obtain ⟨x0, -, x2, -⟩ := hr1.ws.cells c hlt
            rw [HXX.out] at x0 x2
            rw [HLN.out] at d0
            simp only at d0 d1 d2 x0 x2
            clear hr1 ht1
            go_wp2_with fail
            go_quiet (fail)
            go_wp2_with fail
            go_quiet (fail)
            go_wp2
            go_ret
            exact ⟨rfl, rsp_then (HT1.out.drewN _) ((HR1.out.drewN _).setBad 1)⟩
          · have e1 : numS L (c, 0) most = (m, (c + 1, 0)) := by unfold numS; rw [if_neg (by simp)]; simp only [hx]; rw [if_pos trivial, if_neg (by omega)]
            rw [e1]
            clear e1 hx hx2 hn hm
            go_enter Tryz.func41, Tryz.ntmps41
            go_wp2_with fail
            with_reducible refine HN.out.mono ?_
            rintro r w1 ⟨rfl, hr1, ht1⟩
            have HR1 := Lib.hid hr1
            have HT1 := Lib.hid ht1
            obtain ⟨d0, d1, d2⟩ := op_cells hr1.rd
            have f1 := frozen_of_row _ _ 1 _ _ hr1.rd
            obtain ⟨rfl, hbw⟩ := hr1.ws.at_ (by omega)
            obtain ⟨x0, -, x2, -⟩ := hr1.ws.cells c hlt
            rw [HXX.out] at x0 x2
            rw [HLN.out] at d0
            simp only at d0 d1 d2 x0 x2
            clear hr1 ht1
            go_wp2_with fail
            go_quiet (fail)
            go_wp2_with fail
            go_quiet (fail)
            go_wp2
            go_ret
            exact ⟨rfl, rsp_then (HT1.out.drewN _) ((HR1.out.drewN _).setAt (c' := c + 1) (by omega))⟩
      · have e1 : numS L (c, 0) most = (0, (c, 5)) := by unfold numS; rw [if_neg (by simp)]; simp only [hx]; rw [if_neg hk]
        rw [e1]
        have kk : (k1 != 2) = true := by simpa using hk
        clear e1 hx hx2 hn hm
        go_enter Tryz.func41, Tryz.ntmps41
        go_wp2_with fail
        with_reducible refine HN.out.mono ?_
        rintro r w1 ⟨rfl, hr1, ht1⟩
        have HR1 := Lib.hid hr1
        have HT1 := Lib.hid ht1
        obtain ⟨d0, d1, d2⟩ := op_cells hr1.rd
        have f2 := frozen_of_row _ _ 2 _ _ hr1.rd
        obtain ⟨rfl, hbw⟩ := hr1.ws.at_ (by omega)
        obtain ⟨x0, -, x2, -⟩ := hr1.ws.cells c hlt
        rw [HXX.out] at x0 x2
        rw [HLN.out] at d0
        simp only at d0 d1 d2 x0 x2
        clear hr1 ht1
        go_wp2_with fail
        go_quiet (fail)
        go_wp2
        go_ret
        exact ⟨rfl, rsp_then (HT1.out.drewN _) ((HR1.out.drewN _).setBad 5)⟩
    · have e1 : numS L (c, 0) most = (0, (c, 5)) := by unfold numS; rw [if_neg (by simp)]; simp only [List.getElem?_eq_none (show L.length ≤ c by omega)]
      rw [e1]
      obtain ⟨n, hn⟩ : ∃ n, L.length = n := ⟨_, rfl⟩
      have HLN := Lib.hid hn
      have c1 : ¬ (c : Int) < n := by omega
      have c2 : (n : Int) ≤ c := by omega
      clear e1 hn hm
      go_enter Tryz.func41, Tryz.ntmps41
      go_wp2_with fail
      with_reducible refine HN.out.mono ?_
      rintro r w1 ⟨rfl, hr1, ht1⟩
      have HR1 := Lib.hid hr1
      have HT1 := Lib.hid ht1
      obtain ⟨d0, d1, d2⟩ := op_cells hr1.rd
      have f2 := frozen_of_row _ _ 2 _ _ hr1.rd
      rw [HLN.out] at d0
      simp only at d0 d1 d2
      clear hr1 ht1
      go_wp2_with fail
      go_quiet (fail)
      go_wp2
      go_ret
      exact ⟨rfl, rsp_then (HT1.out.drewN _) ((HR1.out.drewN _).setBad 5)⟩
  · have e1 : numS L (c, e) most = (0, (c, e)) := by unfold numS; rw [if_pos he]
    rw [e1]
    have en : (e != 0) = true := by simpa using he
    clear e1 hm
    go_enter Tryz.func41, Tryz.ntmps41
    go_wp2_with fail
    with_reducible refine HN.out.mono ?_
    rintro r w1 ⟨rfl, hr1, ht1⟩
    have HR1 := Lib.hid hr1
    have HT1 := Lib.hid ht1
    obtain ⟨d0, d1, d2⟩ := op_cells hr1.rd
    simp only at d0 d1 d2
    clear hr1 ht1
    go_wp2
    go_ret
    exact ⟨rfl, HR1.out, HT1.out⟩
end Go.Proofs.YtndbcmfegicmfaaGreatDoor
