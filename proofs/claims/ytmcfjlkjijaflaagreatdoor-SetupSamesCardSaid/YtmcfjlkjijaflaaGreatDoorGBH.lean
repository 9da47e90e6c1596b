/-
  The document's reader of setups: long, field.
  The document's field of setups: a name and a number, as words.
-/
import Derived.Test.YtmcfjlkjijaflaaGreatDoorGAG
import Derived.Test.YtmcfjlkjijaflaaGreatDoorGAB
import Derived.Test.YtmcfjlkjijaflaaGreatDoorGAF
import Derived.Laws.AppendOwn

/- The document's reader of setups: long, field. -/
namespace Go.Proofs.YtmcfjlkjijaflaaGreatDoor
open Go.RowKit

def longS (s : Rd) (n most : Int) : Bool × Rd := if s.2 = 0 ∧ most ≤ n then (true, (s.1, 6)) else (decide (s.2 ≠ 0), s)
set_option maxRecDepth 100000 in
set_option maxHeartbeats 1600000 in
theorem rslong_any {w : World} {b : Nat} {ao : Option Addr} {bw off cap : Nat} {L : List Wd} {s : Rd} (h : RsI w b ao bw off cap L s) (n most : Int) :
    Calls Tryz.prog 44 #[.pointer (some ⟨b, 0, none⟩), .int .i64 n, .int .i64 most] w fun r w' => r = .returned (.bool (longS s n most).1) ∧ RsP b ao bw off cap L (longS s n most).2 w w' := by
  have HR := Lib.hid h
  obtain ⟨c, e⟩ := s
  obtain ⟨d0, d1, d2⟩ := op_cells h.rd
  have f2 := frozen_of_row _ _ 2 _ _ h.rd
  simp only at d0 d1 d2
  by_cases he : e = 0
  · subst he
    by_cases hn : most ≤ n
    · have e1 : longS (c, 0) n most = (true, (c, 6)) := by unfold longS; rw [if_pos ⟨rfl, hn⟩]
      rw [e1]
      have hs := HR.out.setBad 6
      have HS := Lib.hid hs
      have d2' := (op_cells hs.1.rd).2.2
      clear h e1 hs
      go_enter Tryz.func44, Tryz.ntmps44
      go_wp2
      go_ret
      exact ⟨rfl, HS.out.1, HS.out.2⟩
    · have e1 : longS (c, 0) n most = (false, (c, 0)) := by unfold longS; rw [if_neg (fun h => hn h.2)]; simp
      rw [e1]
      clear h e1
      go_enter Tryz.func44, Tryz.ntmps44
      go_wp2
      go_ret
      exact ⟨rfl, HR.out, Turned.refl _ _⟩
  · have e1 : longS (c, e) n most = (true, (c, e)) := by unfold longS; rw [if_neg (fun h => he h.1)]; simp [he]
    rw [e1]
    have ee : (e == 0) = false := by simpa using he
    have en : (e != 0) = true := by simpa using he
    clear h e1
    go_enter Tryz.func44, Tryz.ntmps44
    go_wp2
    go_ret
    exact ⟨rfl, HR.out, Turned.refl _ _⟩
theorem rsp_then {b : Nat} {ao : Option Addr} {bw off cap : Nat} {L : List Wd} {s : Rd} {w w1 w2 : World} (h : Turned [b] w w1) (h2 : RsP b ao bw off cap L s w1 w2) : RsP b ao bw off cap L s w w2 :=
  ⟨h2.1, h.trans h2.2 (fun _ h => .inl h)⟩
set_option maxRecDepth 100000 in
set_option maxHeartbeats 6400000 in
theorem rsfield_any {w : World} {b : Nat} {ao : Option Addr} {bw off cap : Nat} {L : List Wd} {s : Rd} (h : RsI w b ao bw off cap L s) (name : ByteArray) (most : Int) :
    Calls Tryz.prog 41 #[.pointer (some ⟨b, 0, none⟩), .string name, .int .i64 most] w fun r w' => r = .returned (.int .i64 (fieldS L s name.data.toList most).1) ∧ RsP b ao bw off cap L (fieldS L s name.data.toList most).2 w w' := by
  have HN := Lib.hid (rsneed_any h 1 name)
  have hm := h.len
  unfold fieldS
  obtain ⟨⟨c, e⟩, hs⟩ : ∃ s1, needS L s 1 name.data.toList = s1 := ⟨_, rfl⟩
  rw [hs] at HN ⊢
  clear h hs
  by_cases he : e = 0
  · subst he
    by_cases hlt : c < L.length
    · obtain ⟨x, hx⟩ : ∃ x, L[c]? = some x := ⟨L[c], List.getElem?_eq_getElem hlt⟩
      have hx2 : L[c] = x := by rw [List.getElem?_eq_getElem hlt] at hx; exact Option.some.inj hx
      obtain ⟨k1, t1, m, p⟩ := x
      obtain ⟨n, hn⟩ : ∃ n, L.length = n := ⟨_, rfl⟩
      have HLN := Lib.hid hn
      have HXX := Lib.hid hx2
      have c0 : (0 : Int) ≤ c := by omega
      have c1 : (c : Int) < n := by omega
      have cn : c < n := by omega
      have cw : IntKind.i64.wrap ((c : Int) + 1) = ((c + 1 : Nat) : Int) := by rw [IntKind.wrap_i64]; omega
      by_cases hk : k1 = 2
      · subst hk
        by_cases h1 : m < 1
        · have e1 : numS L (c, 0) most = (0, (c, 1)) := by unfold numS; rw [if_neg (by simp)]; simp only [hx]; rw [if_pos trivial, if_pos (.inl h1)]
          rw [e1]
          clear e1 hx hx2 hn hm
          go_enter Tryz.func41, Tryz.ntmps41
          go_wp2_with fail
          with_reducible refine HN.out.mono ?_
          rintro r w1 ⟨rfl, hr1, ht1⟩
          have HR1 := Lib.hid hr1
          have HT1 := Lib.hid ht1
          obtain ⟨d0, d1, d2⟩ := op_cells hr1.rd
          have f2 := frozen_of_row _ _ 2 _ _ hr1.rd
          obtain ⟨rfl, hbw⟩ := hr1.ws.at_ (by omega)
          obtain ⟨x0, -, x2, -⟩ := hr1.ws.cells c hlt
          rw [HXX.out] at x0 x2
          rw [HLN.out] at d0
          simp only at d0 d1 d2 x0 x2
          clear hr1 ht1
          go_wp2_with fail
          go_quiet (fail)
          go_wp2_with fail
          go_quiet (fail)
          go_wp2
          go_ret
          exact ⟨rfl, rsp_then (HT1.out.drewN _) ((HR1.out.drewN _).setBad 1)⟩
        · by_cases h2 : most < m
          · have e1 : numS L (c, 0) most = (0, (c, 1)) := by unfold numS; rw [if_neg (by simp)]; simp only [hx]; rw [if_pos trivial, if_pos (.inr h2)]
            rw [e1]
            clear e1 hx hx2 hn hm
            go_enter Tryz.func41, Tryz.ntmps41
            go_wp2_with fail
            with_reducible refine HN.out.mono ?_
            rintro r w1 ⟨rfl, hr1, ht1⟩
            have HR1 := Lib.hid hr1
            have HT1 := Lib.hid ht1
            obtain ⟨d0, d1, d2⟩ := op_cells hr1.rd
            have f2 := frozen_of_row _ _ 2 _ _ hr1.rd
            obtain ⟨rfl, hbw⟩ := hr1.ws.at_ (by omega)
            obtain ⟨x0, -, x2, -⟩ := hr1.ws.cells c hlt
            rw [HXX.out] at x0 x2
            rw [HLN.out] at d0
            simp only at d0 d1 d2 x0 x2
            clear hr1 ht1
            go_wp2_with fail
            go_quiet (fail)
            go_wp2_with fail
            go_quiet (fail)
            go_wp2
            go_ret
            exact ⟨rfl, rsp_then (HT1.out.drewN _) ((HR1.out.drewN _).setBad 1)⟩
          · have e1 : numS L (c, 0) most = (m, (c + 1, 0)) := by unfold numS; rw [if_neg (by simp)]; simp only [hx]; rw [if_pos trivial, if_neg (by omega)]
            rw [e1]
            clear e1 hx hx2 hn hm
            go_enter Tryz.func41, Tryz.ntmps41
            go_wp2_with fail
            with_reducible refine HN.out.mono ?_
            rintro r w1 ⟨rfl, hr1, ht1⟩
            have HR1 := Lib.hid hr1
            have HT1 := Lib.hid ht1
            obtain ⟨d0, d1, d2⟩ := op_cells hr1.rd
            have f1 := frozen_of_row _ _ 1 _ _ hr1.rd
            obtain ⟨rfl, hbw⟩ := hr1.ws.at_ (by omega)
            obtain ⟨x0, -, x2, -⟩ := hr1.ws.cells c hlt
            rw [HXX.out] at x0 x2
            rw [HLN.out] at d0
            simp only at d0 d1 d2 x0 x2
            clear hr1 ht1
            go_wp2_with fail
            go_quiet (fail)
            go_wp2_with fail
            go_quiet (fail)
            go_wp2
            go_ret
            exact ⟨rfl, rsp_then (HT1.out.drewN _) ((HR1.out.drewN _).setAt (c' := c + 1) (by omega))⟩
      · have e1 : numS L (c, 0) most = (0, (c, 5)) := by unfold numS; rw [if_neg (by simp)]; simp only [hx]; rw [if_neg hk]
        rw [e1]
        have kk : (k1 != 2) = true := by simpa using hk
        clear e1 hx hx2 hn hm
        go_enter Tryz.func41, Tryz.ntmps41
        go_wp2_with fail
        with_reducible refine HN.out.mono ?_
        rintro r w1 ⟨rfl, hr1, ht1⟩
        have HR1 := Lib.hid hr1
        have HT1 := Lib.hid ht1
        obtain ⟨d0, d1, d2⟩ := op_cells hr1.rd
        have f2 := frozen_of_row _ _ 2 _ _ hr1.rd
        obtain ⟨rfl, hbw⟩ := hr1.ws.at_ (by omega)
        obtain ⟨x0, -, x2, -⟩ := hr1.ws.cells c hlt
        rw [HXX.out] at x0 x2
        rw [HLN.out] at d0
        simp only at d0 d1 d2 x0 x2
        clear hr1 ht1
        go_wp2_with fail
        go_quiet (fail)
        go_wp2
        go_ret
        exact ⟨rfl, rsp_then (HT1.out.drewN _) ((HR1.out.drewN _).setBad 5)⟩
    · have e1 : numS L (c, 0) most = (0, (c, 5)) := by unfold numS; rw [if_neg (by simp)]; simp only [List.getElem?_eq_none (show L.length ≤ c by omega)]
      rw [e1]
      obtain ⟨n, hn⟩ : ∃ n, L.length = n := ⟨_, rfl⟩
      have HLN := Lib.hid hn
      have c1 : ¬ (c : Int) < n := by omega
      have c2 : (n : Int) ≤ c := by omega
      clear e1 hn hm
      go_enter Tryz.func41, Tryz.ntmps41
      go_wp2_with fail
      with_reducible refine HN.out.mono ?_
      rintro r w1 ⟨rfl, hr1, ht1⟩
      have HR1 := Lib.hid hr1
      have HT1 := Lib.hid ht1
      obtain ⟨d0, d1, d2⟩ := op_cells hr1.rd
      have f2 := frozen_of_row _ _ 2 _ _ hr1.rd
      rw [HLN.out] at d0
      simp only at d0 d1 d2
      clear hr1 ht1
      go_wp2_with fail
      go_quiet (fail)
      go_wp2
      go_ret
      exact ⟨rfl, rsp_then (HT1.out.drewN _) ((HR1.out.drewN _).setBad 5)⟩
  · have e1 : numS L (c, e) most = (0, (c, e)) := by unfold numS; rw [if_pos he]
    rw [e1]
    have en : (e != 0) = true := by simpa using he
    clear e1 hm
    go_enter Tryz.func41, Tryz.ntmps41
    go_wp2_with fail
    with_reducible refine HN.out.mono ?_
    rintro r w1 ⟨rfl, hr1, ht1⟩
    have HR1 := Lib.hid hr1
    have HT1 := Lib.hid ht1
    obtain ⟨d0, d1, d2⟩ := op_cells hr1.rd
    simp only at d0 d1 d2
    clear hr1 ht1
    go_wp2
    go_ret
    exact ⟨rfl, HR1.out, HT1.out⟩
end Go.Proofs.YtmcfjlkjijaflaaGreatDoor

/- The document's field of setups: a name and a number, as words. -/
namespace Go.Proofs.YtmcfjlkjijaflaaGreatDoor
open Go.RowKit

/-- Words are appended to a row that the call owns from a base on. -/
def MoreW (base : Nat) (v : Value) (ws xs : List Wd) (w : World) (e : Ending) (w' : World) : Prop :=
  ∃ v', e = .returned v' ∧ WRow base w' v' (ws ++ xs) ∧ w.grownBy w' v.ownBlock
theorem grown_trans {w w1 w2 : World} {row : Option Nat} (h : w.grownBy w1 row) (h2 : w1.grownBy w2 row) : w.grownBy w2 row :=
  ⟨h2.os.trans h.os, h2.tape.trans h.tape, h2.output.trans h.output, Nat.le_trans h.size h2.size, fun k hk hr => (h2.block k (Nat.lt_of_lt_of_le hk h.size) hr).trans (h.block k hk hr)⟩
theorem eight_new (W : World) (a b c d e f g h : Value) (t : TypeId) : ∀ (j : Nat) (u : Value), [a, b, c, d, e, f, g, h][j]? = some u → (W.alloc (.cells #[a, b, c, d, e, f, g, h] t)).cell? ((⟨W.heap.size, 0, none⟩ : Addr).add j) = some u := by
  intro j u hj
  rw [Addr.add_lit]
  match j, hj with
  | 0, hj | 1, hj | 2, hj | 3, hj | 4, hj | 5, hj | 6, hj | 7, hj =>
    simp at hj
    subst hj
    simp
set_option maxRecDepth 100000 in
set_option maxHeartbeats 3200000 in
theorem rfieldw_any {w : World} {base : Nat} {v : Value} {ws : List Wd} (h : WRow base w v ws) (hb : base ≤ w.heap.size) (hl : ws.length ≤ 100000) (name : ByteArray) (n : Int) :
    Calls Tryz.prog 33 #[v, .string name, .int .i64 n] w (MoreW base v ws (fieldW name.data.toList n) w) := by
  obtain ⟨i0, hi0, hz0, hz1, hz2⟩ := info_parts word_info
  have HR := Lib.hid (row_below h ((Below.refl _ w).alloc (Nat.le_refl _) (.cells #[.int .i64 1, .string name, .int .i64 0, .int .i64 0, .int .i64 2, .string ⟨#[]⟩, .int .i64 n, .int .i64 0] 72)))
  obtain ⟨av, cv, hv, _, _⟩ := ownsRow_shape h
  subst hv
  clear h
  go_enter Tryz.func33, Tryz.ntmps33
  go_wp2_with (at_builtin; refine wpList_append_own _ rfl _ _ 34 rfl base 72 i0 (.agg #[.int .i64 0, .string ⟨#[]⟩, .int .i64 0, .int .i64 0]) 4 40 Tryz.underlying34 hi0 hz0 hz1 hz2 rfl (by decide) _ _ _ rfl HR.out ⟨_, 0, none⟩ 2 2 [.int .i64 1, .string name, .int .i64 0, .int .i64 0, .int .i64 2, .string ⟨#[]⟩, .int .i64 n, .int .i64 0] rfl rfl ?c1 ?c2 ?c3 ?c4 ?c5 ?_)
  try (case c1 => exact eight_new _ _ _ _ _ _ _ _ _ _)
  try (case c2 =>
    intro u hu
    simp only [List.mem_cons, List.not_mem_nil, or_false] at hu
    rcases hu with rfl | rfl | rfl | rfl | rfl | rfl | rfl | rfl <;> rfl)
  try (case c3 => (unfold maxLen; omega))
  try (case c4 => omega)
  try (case c5 => (simp; omega))
  intro v2 w2 hown hg _
  have HO := Lib.hid hown
  have HG := Lib.hid hg
  clear hown hg
  go_wp2
  go_ret
  refine ⟨v2, rfl, ?_, grown_trans (World.grownBy_alloc w _ _) HG.out⟩
  have e : wdsC (ws ++ fieldW name.data.toList n) = wdsC ws ++ [.int .i64 1, .string name, .int .i64 0, .int .i64 0, .int .i64 2, .string ⟨#[]⟩, .int .i64 n, .int .i64 0] := by
    simp [wdsC, fieldW, wdC]
  unfold WRow
  rw [e, List.length_append]
  exact HO.out
end Go.Proofs.YtmcfjlkjijaflaaGreatDoor
