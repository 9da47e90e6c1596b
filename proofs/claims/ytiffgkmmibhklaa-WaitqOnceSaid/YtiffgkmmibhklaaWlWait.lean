/-
  The program's Wait, New.
-/
import Derived.Test.YtiffgkmmibhklaaGN
namespace Go.Proofs.Ytiffgkmmibhklaa
open Go.RowKit Go.Maps

section
variable {w w' : World} {b : Nat} {X Y : List Nat} {m e : Int} {nB c : Nat} {g0 cap gm hb : Nat} {Xh : List Nat} {D : List (Hm Unit)} {L : List Wt}
/-- 'seats[who]', with 'ok', in whichever world. -/
theorem wlLook (h : WlM w b X m e nB c L D g0 cap gm hb Xh) {a : Int} (ha : isI a) : ∃ (sv : Value) (bb : Bool), (bb = true ↔ ∃ y ∈ L, y.1 = a) ∧ (∃ p t, sv = .agg #[.pointer p, .int .i64 t]) ∧
    ∀ W, Turned [] w W → (Instr.lookup tMs (.map (some gm)) (.int .i64 a) true).run Try.prog W = .ok (.tuple #[sv, .bool bb]) W := by
  have h0 := h
  obtain ⟨R, f, hQ, hI, _⟩ := h
  have hwf : (litN a).wf = true := WalkArith.wf_i64 ha
  have hl : ∀ W, Turned [] w W → (Instr.lookup tMs (.map (some gm)) (.int .i64 a) true).run Try.prog W = .ok (.tuple #[((f a).map seatV).getD seat0, .bool ((f a).map seatV).isSome]) W := by
    intro W hW
    obtain ⟨sv, DD, col, h1, _⟩ := hQ.keep0 hW
    exact lookV_ok Try.underlying58 (zeroSt W) h1.map h1.red hwf
  refine ⟨_, _, ?_, ?_, hl⟩
  · constructor
    · intro hs
      cases hf : f a with
      | none => rw [hf] at hs; cases hs
      | some st =>
        obtain ⟨i, _, x, _, _, A, p, B, _, _, h1, h2, _⟩ := hI.of_seat (q := st.1) (t := st.2) hf
        exact ⟨_, h2, h1⟩
    · rintro ⟨y, hy, hya⟩
      cases hf : f a with
      | none => exact absurd hya (hI.free a hf y hy)
      | some st => rfl
  · cases hf : f a with
    | none => exact ⟨_, _, rfl⟩
    | some st => exact ⟨_, _, rfl⟩

set_option maxRecDepth 100000 in
set_option maxHeartbeats 3200000 in
theorem wlWait_met (h : WlM w b X m e nB c L D g0 cap gm hb Xh) (x : Wt) (hx : wfW x) (hm : ∃ y ∈ L, y.1 = x.1) :
    Calls Try.prog 8 #[.pointer (some ⟨b, 0, none⟩), aggW x] w fun r w' => r = .returned (.int .i64 12) ∧ Turned [] w w' := by
  obtain ⟨sv, bb, hbb, ⟨p, t, rfl⟩, hlook⟩ := wlLook h hx.1
  have hbt : bb = true := hbb.2 hm
  subst hbt
  obtain ⟨x1, x2, x3⟩ := x
  obtain ⟨W, hW⟩ : ∃ W, w.alloc (wtC (x1, x2, x3)) = W := ⟨_, rfl⟩
  have T0 : Turned [] w W := hW ▸ (Turned.refl [] w).alloc _
  have K0 : W.heap[w.heap.size]? = some (wtC (x1, x2, x3)) := by rw [← hW]; exact heap_alloc_new w _
  obtain ⟨_, _, _, c3, _⟩ := cellsB (h.keep0 T0).tab
  obtain ⟨k0, k1, k2, _⟩ := cells3a K0
  have hlt := lt_of_block K0
  have hbl : b < W.heap.size := (h.keep0 T0).lt _ h.head
  have hl1 := hlook W.drew T0.drew
  have hl2 := hlook (W.alloc (.cells #[.pointer none, .int .i64 0] tSt)).drew (T0.alloc _).drew
  simp only at hl1 hl2
  have HT := Lib.hid T0
  clear h hx hm hbb hlook T0 K0
  go_enter Try.func8, Try.ntmps8
  go_wp2_with fail
  go_region
  all_goals
    go_wp2
    go_ret
    exact ⟨rfl, (HT.out.alloc _).drew⟩

/-- Len, Count, and what they lean on, in whichever world. -/
theorem wlBoth (h : WlM w b X m e nB c L D g0 cap gm hb Xh) (a : Int) : ∀ V, Turned [] w V → V.cell? ⟨b, 0, none⟩ = some (.int .i64 m) ∧ V.cell? ⟨b, 1, none⟩ = some (.int .i64 e) ∧
    Calls Try.prog 23 #[.pointer (some ⟨b, 0, none⟩)] V (fun r w' => r = .returned (.int .i64 (L.length : Nat)) ∧ V = w') ∧
    Calls Try.prog 24 #[.pointer (some ⟨b, 0, none⟩), .int .i64 a] V (fun r w' => r = .returned (.int .i64 (cntK L a : Nat)) ∧ Turned [] V w') := by
  intro V hV
  obtain ⟨c0, c1, _⟩ := cellsB (h.keep0 hV).tab
  exact ⟨c0, c1, wlLenM (h.keep0 hV), wlCountM (h.keep0 hV) a⟩

set_option maxRecDepth 100000 in
set_option maxHeartbeats 3200000 in
theorem wlWait_full1 (h : WlM w b X m e nB c L D g0 cap gm hb Xh) (x : Wt) (hx : wfW x) (hm : ∀ y ∈ L, y.1 ≠ x.1) (hful : (L.length : Int) = m) :
    Calls Try.prog 8 #[.pointer (some ⟨b, 0, none⟩), aggW x] w fun r w' => r = .returned (.int .i64 3) ∧ Turned [] w w' := by
  obtain ⟨sv, bb, hbb, ⟨p, t, rfl⟩, hlook⟩ := wlLook h hx.1
  have hbt : bb = false := by
    cases bb with
    | false => rfl
    | true => obtain ⟨y, hy, e⟩ := hbb.1 rfl; exact absurd e (hm y hy)
  subst hbt
  obtain ⟨x1, x2, x3⟩ := x
  obtain ⟨W, hW⟩ : ∃ W, w.alloc (wtC (x1, x2, x3)) = W := ⟨_, rfl⟩
  have T0 : Turned [] w W := hW ▸ (Turned.refl [] w).alloc _
  have K0 : W.heap[w.heap.size]? = some (wtC (x1, x2, x3)) := by rw [← hW]; exact heap_alloc_new w _
  obtain ⟨c0, c1, _, c3, _⟩ := cellsB (h.keep0 T0).tab
  obtain ⟨k0, k1, k2, _⟩ := cells3a K0
  have hlt := lt_of_block K0
  have hbl : b < W.heap.size := (h.keep0 T0).lt _ h.head
  have hl1 := hlook W.drew T0.drew
  have hl2 := hlook (W.alloc (.cells #[.pointer none, .int .i64 0] tSt)).drew (T0.alloc _).drew
  simp only at hl1 hl2
  have HT := Lib.hid T0
  have HA := Lib.hid (wlBoth h x2)
  obtain ⟨l, hl⟩ : ∃ l, L.length = l := ⟨_, rfl⟩
  rw [hl] at HA hful
  have z0 : ((l : Int) == m) = true := by simpa using hful
  clear h hx hm hbb hlook T0 K0 hl
  go_enter Try.func8, Try.ntmps8
  go_wp2_with fail
  go_region
  all_goals
    obtain ⟨V, hV⟩ : ∃ V, (W.alloc (.cells #[.pointer p, .int .i64 t] tSt)).drew = V := ⟨_, rfl⟩
    have TV : Turned [] w V := by rw [← hV]; exact (HT.out.alloc _).drew
    rw [hV]
    obtain ⟨d0, d1, _, _⟩ := HA.out V TV
    have HTV := Lib.hid TV
    have HL := Lib.hid (fun n : Nat => ((HA.out (V.drewN n) (TV.drewN n)).2.2.1).mono fun r w' (hh : r = .returned (.int .i64 (l : Nat)) ∧ V.drewN n = w') => (⟨hh.1, hh.2.symm⟩ : r = .returned (.int .i64 (l : Nat)) ∧ w' = V.drewN n))
    clear hV TV c0 c1 c3 k0 k1 k2 hl1 hl2
    go_wp2_with fail
    go_quiet ((go_at_call 23; exact Calls.quiet_of_same (HL.out _)))
    go_wp2
    go_ret
    exact ⟨rfl, HTV.out.drewN _⟩
set_option maxRecDepth 100000 in
set_option maxHeartbeats 3200000 in
theorem wlWait_full2 (h : WlM w b X m e nB c L D g0 cap gm hb Xh) (x : Wt) (hx : wfW x) (hm : ∀ y ∈ L, y.1 ≠ x.1) (hful : (L.length : Int) ≠ m) (he : (cntK L x.2.1 : Int) = e) :
    Calls Try.prog 8 #[.pointer (some ⟨b, 0, none⟩), aggW x] w fun r w' => r = .returned (.int .i64 3) ∧ Turned [] w w' := by
  have hone := Lib.hid h
  have HLT := Lib.hid h.lt
  obtain ⟨sv, bb, hbb, ⟨p, t, rfl⟩, hlook⟩ := wlLook h hx.1
  have hbt : bb = false := by
    cases bb with
    | false => rfl
    | true => obtain ⟨y, hy, e⟩ := hbb.1 rfl; exact absurd e (hm y hy)
  subst hbt
  obtain ⟨x1, x2, x3⟩ := x
  obtain ⟨W, hW⟩ : ∃ W, w.alloc (wtC (x1, x2, x3)) = W := ⟨_, rfl⟩
  have T0 : Turned [] w W := hW ▸ (Turned.refl [] w).alloc _
  have K0 : W.heap[w.heap.size]? = some (wtC (x1, x2, x3)) := by rw [← hW]; exact heap_alloc_new w _
  obtain ⟨c0, c1, _, c3, _⟩ := cellsB (h.keep0 T0).tab
  obtain ⟨k0, k1, k2, _⟩ := cells3a K0
  have hlt := lt_of_block K0
  have hbl : b < W.heap.size := (h.keep0 T0).lt _ h.head
  have hl1 := hlook W.drew T0.drew
  have hl2 := hlook (W.alloc (.cells #[.pointer none, .int .i64 0] tSt)).drew (T0.alloc _).drew
  simp only at hl1 hl2
  have HT := Lib.hid T0
  have HK := Lib.hid K0
  have HA := Lib.hid (wlBoth h x2)
  obtain ⟨l, hl⟩ : ∃ l, L.length = l := ⟨_, rfl⟩
  obtain ⟨q, hq⟩ : ∃ q, cntK L x2 = q := ⟨_, rfl⟩
  have HLL := Lib.hid hl
  rw [hl] at HA hful
  rw [hq] at HA
  have z0 : ((l : Int) == m) = false := by simpa using hful
  have z1 : ((q : Int) == e) = true := by simp only at he; rw [hq] at he; simpa using he
  clear h hx hm hbb hlook T0 K0 hl hq he
  go_enter Try.func8, Try.ntmps8
  go_wp2_with fail
  go_region
  all_goals
    obtain ⟨V, hV⟩ : ∃ V, (W.alloc (.cells #[.pointer p, .int .i64 t] tSt)).drew = V := ⟨_, rfl⟩
    have tV : Turned [] W V := by rw [← hV]; exact ((Turned.refl [] W).alloc _).drew
    rw [hV]
    have HTV := Lib.hid (HT.out.j tV)
    have HS : Hid (∀ w', Turned [] V w' → w'.cell? ⟨b, 0, none⟩ = some (.int .i64 m) ∧ w'.cell? ⟨b, 1, none⟩ = some (.int .i64 e) ∧ w'.cell? ⟨w.heap.size, 1, none⟩ = some (.int .i64 x2) ∧ Turned [] V w') := Lib.hid (fun w' t' => by
      obtain ⟨d0, d1, _⟩ := HA.out w' (HTV.out.j t')
      obtain ⟨_, e1, _, _⟩ := cells3a ((tV.j t').same HK.out (by simp))
      exact ⟨d0, d1, e1, t'⟩)
    have HKV := Lib.hid (tV.same HK.out (by simp))
    clear hV tV c0 c1 c3 k0 k1 k2 hl1 hl2
    obtain ⟨d0, d1, d2, dt⟩ := HS.out V.drew (Turned.refl [] V).drew
    go_wp2_with fail
    go_region_held3 (fun w' => w'.cell? ⟨b, 0, none⟩ = some (.int .i64 m) ∧ w'.cell? ⟨b, 1, none⟩ = some (.int .i64 e) ∧ w'.cell? ⟨w.heap.size, 1, none⟩ = some (.int .i64 x2) ∧ Turned [] V w')
      (first | with_reducible exact ⟨f0, f1, f2, ft⟩ | with_reducible exact ⟨d0, d1, d2, dt⟩)
      (first
        | (go_at_call 23
           with_reducible refine ((HA.out _ (HTV.out.drew)).2.2.1).mono ?_
           rintro r w2 ⟨rfl, rfl⟩)
        | (go_at_call 24
           with_reducible refine ((HA.out _ (HTV.out.drew)).2.2.2).mono ?_
           rintro r w3 ⟨rfl, t3⟩
           obtain ⟨f0, f1, f2, ft⟩ := HS.out w3 (((Turned.refl [] V).drew).j t3)
           clear t3))
    all_goals
      have HF := Lib.hid (HTV.out.j ft)
      clear ft f0 f1 f2 d0 d1 d2 dt
      go_wp2
      go_ret
      exact ⟨rfl, HF.out⟩

set_option maxRecDepth 100000 in
set_option maxHeartbeats 3200000 in
theorem wlWait_yes (h : WlM w b X m e nB c L D g0 cap gm hb Xh) (x : Wt) (hx : wfW x) (hm : ∀ y ∈ L, y.1 ≠ x.1) (hful : (L.length : Int) ≠ m) (he : (cntK L x.2.1 : Int) ≠ e) (hD : D.Perm (dueOf L)) (hlm : (L.length : Int) < m) (hce : (cntK L x.2.1 : Int) < e) (hc : c ≤ 90000) (hL : L.length ≤ 4000) :
    Calls Try.prog 8 #[.pointer (some ⟨b, 0, none⟩), aggW x] w fun r w' => r = .returned (.int .i64 0) ∧
      ∃ X' Xh' D', WlM w' b X' m e nB (c + 1) (L ++ [x]) D' g0 cap gm hb Xh' ∧ D'.Perm (dueOf (L ++ [x])) ∧ Turned X w w' ∧ Newer X w.heap.size X' := by
  have hone := Lib.hid h
  have HLT := Lib.hid h.lt
  obtain ⟨sv, bb, hbb, ⟨p, t, rfl⟩, hlook⟩ := wlLook h hx.1
  have hbt : bb = false := by
    cases bb with
    | false => rfl
    | true => obtain ⟨y, hy, e⟩ := hbb.1 rfl; exact absurd e (hm y hy)
  subst hbt
  have HEn := Lib.hid (fun (w2 : World) (t2 : Turned [] w w2) => wlEnter (h.keep0 t2) x hx hm hce (by omega) (by omega))
  have HX := Lib.hid hx
  have HNo : Hid (∀ y ∈ D, y.2.1 ≠ x.1) := Lib.hid (fun y hy e => by
    obtain ⟨z, hz, _, rfl⟩ := dueOf_mem.1 (hD.subset hy)
    exact hm z hz e)
  have HDl : Hid ((D.length : Int) < m ∧ D.length < 4500) := Lib.hid (by
    have h1 := hD.length_eq
    have h2 := dueOf_len L
    omega)
  have HD := Lib.hid hD
  clear hlm hce hc hD
  obtain ⟨x1, x2, x3⟩ := x
  obtain ⟨W, hW⟩ : ∃ W, w.alloc (wtC (x1, x2, x3)) = W := ⟨_, rfl⟩
  have T0 : Turned [] w W := hW ▸ (Turned.refl [] w).alloc _
  have K0 : W.heap[w.heap.size]? = some (wtC (x1, x2, x3)) := by rw [← hW]; exact heap_alloc_new w _
  obtain ⟨c0, c1, _, c3, _⟩ := cellsB (h.keep0 T0).tab
  obtain ⟨k0, k1, k2, _⟩ := cells3a K0
  have hlt := lt_of_block K0
  have hbl : b < W.heap.size := (h.keep0 T0).lt _ h.head
  have hl1 := hlook W.drew T0.drew
  have hl2 := hlook (W.alloc (.cells #[.pointer none, .int .i64 0] tSt)).drew (T0.alloc _).drew
  simp only at hl1 hl2
  have HT := Lib.hid T0
  have HK := Lib.hid K0
  have HA := Lib.hid (wlBoth h x2)
  obtain ⟨l, hl⟩ : ∃ l, L.length = l := ⟨_, rfl⟩
  obtain ⟨q, hq⟩ : ∃ q, cntK L x2 = q := ⟨_, rfl⟩
  have HLL := Lib.hid hl
  rw [hl] at HA hful
  rw [hq] at HA
  have z0 : ((l : Int) == m) = false := by simpa using hful
  have z1 : ((q : Int) == e) = false := by simp only at he; rw [hq] at he; simpa using he
  clear h hx hm hbb hlook T0 K0 hl hq he
  go_enter Try.func8, Try.ntmps8
  go_wp2_with fail
  go_region
  all_goals
    obtain ⟨V, hV⟩ : ∃ V, (W.alloc (.cells #[.pointer p, .int .i64 t] tSt)).drew = V := ⟨_, rfl⟩
    have tV : Turned [] W V := by rw [← hV]; exact ((Turned.refl [] W).alloc _).drew
    rw [hV]
    have HTV := Lib.hid (HT.out.j tV)
    have HS : Hid (∀ w', Turned [] V w' → w'.cell? ⟨b, 0, none⟩ = some (.int .i64 m) ∧ w'.cell? ⟨b, 1, none⟩ = some (.int .i64 e) ∧ w'.cell? ⟨w.heap.size, 1, none⟩ = some (.int .i64 x2) ∧ Turned [] V w') := Lib.hid (fun w' t' => by
      obtain ⟨d0, d1, _⟩ := HA.out w' (HTV.out.j t')
      obtain ⟨_, e1, _, _⟩ := cells3a ((tV.j t').same HK.out (by simp))
      exact ⟨d0, d1, e1, t'⟩)
    have HKV := Lib.hid (tV.same HK.out (by simp))
    clear hV tV c0 c1 c3 k0 k1 k2 hl1 hl2
    obtain ⟨d0, d1, d2, dt⟩ := HS.out V.drew (Turned.refl [] V).drew
    go_wp2_with fail
    go_region_held3 (fun w' => w'.cell? ⟨b, 0, none⟩ = some (.int .i64 m) ∧ w'.cell? ⟨b, 1, none⟩ = some (.int .i64 e) ∧ w'.cell? ⟨w.heap.size, 1, none⟩ = some (.int .i64 x2) ∧ Turned [] V w')
      (first | with_reducible exact ⟨f0, f1, f2, ft⟩ | with_reducible exact ⟨d0, d1, d2, dt⟩)
      (first
        | (go_at_call 23
           with_reducible refine ((HA.out _ (HTV.out.drew)).2.2.1).mono ?_
           rintro r w2 ⟨rfl, rfl⟩)
        | (go_at_call 24
           with_reducible refine ((HA.out _ (HTV.out.drew)).2.2.2).mono ?_
           rintro r w3 ⟨rfl, t3⟩
           obtain ⟨f0, f1, f2, ft⟩ := HS.out w3 (((Turned.refl [] V).drew).j t3)
           clear t3))
    all_goals
      have k3 := ft.same HKV.out (by simp)
      obtain ⟨k0, k1, k2, _⟩ := cells3a k3
      have HF := Lib.hid (HTV.out.j ft)
      have HK3 := Lib.hid k3
      clear ft f0 f1 f2 d0 d1 d2 dt k3
      go_wp2_with fail
      refine (HEn.out _ HF.out).mono ?_
      rintro r w4 ⟨rfl, X4, p1, p2, p3⟩
      have nx : w.heap.size ∉ X := fun hx => by have := HLT.out _ hx; omega
      have k4 := p2.same HK3.out nx
      have hp3 : Newer X w.heap.size X4 := p3.mono HF.out.size
      have HT4 := Lib.hid (HF.out.up.trans p2 (Newer.refl _ _) : Turned X w w4)
      have HN4 := Lib.hid hp3
      have HK4 := Lib.hid k4
      obtain ⟨s0, s1, s2, _⟩ := cells3a k4
      have HP1 := Lib.hid p1
      clear p1 p2 p3 k4 hp3 k0 k1 k2 nx
      by_cases hz : x3 = 0
      · subst hz
        go_wp2
        go_ret
        exact ⟨rfl, X4, Xh, D, HP1.out, HD.out.trans (by simp [dueOf]), HT4.out, HN4.out⟩
      · have z2 : (x3 == 0) = false := by simpa using hz
        have z3 : (x3 != 0) = true := by simpa using hz
        obtain ⟨w5, hw5⟩ : ∃ w5, w4.drew = w5 := ⟨_, rfl⟩
        have t5 : Turned [] w4 w5 := hw5 ▸ (Turned.refl [] w4).drew
        have p5 := HP1.out.keep0 t5
        obtain ⟨_, _, _, _, c4⟩ := cellsB p5.tab
        obtain ⟨r0, r1, r2, _⟩ := cells3a (t5.same HK4.out (by simp))
        have HPu := Lib.hid (E.push_yes p5.due.1 (x3, x1, ()) (WalkArith.wf_i64 HX.out.1) HNo.out HDl.out.1 HDl.out.2)
        have HP5 := Lib.hid p5
        have HT5 := Lib.hid (HT4.out.trans t5.up (Newer.refl _ _) : Turned X w w5)
        have HZ := Lib.hid hz
        clear p5 t5
        go_wp2_with fail
        refine tail_at 10 hw5 (by kernel_rfl) (by kernel_rfl) ?_
        clear hw5
        simp only [List.take_succ_cons, List.take_zero, List.drop_succ_cons, List.drop_zero]
        repeat still_step
        refine wpStill_nil ?_
        go_wp2_with fail
        with_reducible refine HPu.out.mono ?_
        rintro r w6 ⟨rfl, Xh6, u1, u2, u3⟩
        obtain ⟨q1, q2, q3⟩ := HP5.out.dueT u2 u3 u1
        have HQ := Lib.hid (And.intro q1 (And.intro (HT5.out.trans q2 HN4.out) (HN4.out.trans q3 HT5.out.size)))
        clear u1 u2 u3 q1 q2 q3 r0 r1 r2 c4
        go_wp2
        go_ret
        obtain ⟨q1, q2, q3⟩ := HQ.out
        have hz := HZ.out
        have hd : dueOf [(x1, x2, x3)] = [(x3, x1, ())] := by simp [dueOf, hz]
        exact ⟨rfl, _, Xh6, _, q1, by rw [dueOf_append, hd]; exact HD.out.append_right _, q2, q3⟩

end
end Go.Proofs.Ytiffgkmmibhklaa
