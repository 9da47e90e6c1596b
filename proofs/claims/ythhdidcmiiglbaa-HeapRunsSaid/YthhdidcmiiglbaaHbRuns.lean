/-
  HeapRuns: the walk.
-/
import Derived.Test.YthhdidcmiiglbaaHbBoth
import Derived.Deep.DeepCutAuto
import Derived.Deep.CutBlock
namespace Go.Proofs.Ythhdidcmiiglbaa
open Go.RowKit

theorem cells4 {w : World} {b : Nat} {x y z v : Value} {t : TypeId} (h : w.heap[b]? = some (.cells #[x, y, z, v] t (0, 0))) :
    w.cell? ⟨b, 0, none⟩ = some x ∧ w.cell? ⟨b, 1, none⟩ = some y ∧ w.cell? ⟨b, 2, none⟩ = some z ∧ w.cell? ⟨b, 3, none⟩ = some v :=
  ⟨by simp [World.cell?, h], by simp [World.cell?, h], by simp [World.cell?, h], by simp [World.cell?, h]⟩

set_option maxRecDepth 100000 in
set_option maxHeartbeats 8000000 in
theorem runs_walk (most : Int) (ao : Option Addr) (b off n cap : Nat) (E : Nat → Int × Int × Int × Int) (w : World) (hn : n ≤ 100) (hao : 0 < n → ao = some ⟨b, off, none⟩ ∧ b < w.heap.size)
    (hE : ∀ i, i < n → w.cell? ⟨b, off + i * 4, none⟩ = some (.int .u8 (E i).1) ∧ w.cell? ⟨b, off + i * 4 + 1, none⟩ = some (.int .u64 (E i).2.1) ∧ w.cell? ⟨b, off + i * 4 + 2, none⟩ = some (.int .i64 (E i).2.2.1) ∧ w.cell? ⟨b, off + i * 4 + 3, none⟩ = some (.int .i64 (E i).2.2.2))
    (hW : ∀ i, i < n → 0 ≤ (E i).1 ∧ (0 ≤ (E i).2.1 ∧ (E i).2.1 ≤ 18446744073709551615) ∧ (litN (E i).2.2.1).wf = true ∧ (litN (E i).2.2.2).wf = true) :
    Calls Try.prog 3 #[.int .i64 most, .slice ao n cap] w fun e w' => e = .returned (.bool true) ∧ Turned [] w w' := by
  have HE := Lib.hid hE
  have HAO := Lib.hid hao
  have HWf := Lib.hid hW
  clear hE hao hW
  go_enter Try.func3, Try.ntmps3
  go_wp2_with fail
  refine (awake_any w).mono ?_
  rintro e w0 ⟨rfl, t0⟩
  have T0 := Lib.hid t0
  clear t0
  go_wp2_with fail
  refine (new_any most w0).mono ?_
  rintro e w1 ⟨rfl, h1, t1⟩
  have H1 := Lib.hid (And.intro h1 (T0.out.j t1))
  have S1 := Lib.hid t1.size
  clear h1 t1
  go_wp2_with fail
  refine (rnew4_any most w1).mono ?_
  rintro e w2 ⟨rfl, h2, t2⟩
  obtain ⟨m, hm⟩ : ∃ m, min (max most 0) 4096 = m := ⟨_, rfl⟩
  have B0 : Both w w2 (w0.heap.size + 1) w1.heap.size m [] := by
    have s0 := T0.out.size
    have s1 := H1.out.1.lt
    simp only [List.mem_cons, List.not_mem_nil, or_false, forall_eq_or_imp, forall_eq] at s1
    rw [← hm]
    exact ⟨_, _, H1.out.1.keep t2 (by simp), h2, fun k hk hy => by simp at hk hy; omega, fun k hk => by simp at hk; omega, fun k hk => by simp at hk; omega, H1.out.2.j t2, by simp⟩
  obtain ⟨A, hA⟩ : ∃ A, w0.heap.size + 1 = A := ⟨_, rfl⟩
  obtain ⟨R, hR⟩ : ∃ R, w1.heap.size = R := ⟨_, rfl⟩
  rw [hA, hR]
  rw [hA, hR] at B0
  clear H1 T0 S1 h2 t2 hA hR hm
  go_wp2_with fail
  go_loopw [37] (fun i wr => ∃ k : Nat, k ≤ n ∧ i = .int .i64 k ∧ ∃ D : List It, D.length ≤ k ∧ Both w wr A R m D) (fun i _ => n - (intOf i).toNat)
  case atStart => exact ⟨0, Nat.zero_le _, rfl, [], Nat.le_refl _, B0⟩
  case round =>
    obtain ⟨k, hk, rfl, D, hD, hB⟩ := hrel
    by_cases hlt : k < n
    · obtain ⟨rfl, hb⟩ := HAO.out (by omega)
      have hcell := HE.out k hlt
      have hwf := HWf.out k hlt
      obtain ⟨X, Y, h1, h2, h3, h4, h5, h6, h7⟩ := hB
      have hbb := h6.below (B := w.heap.size) (by simp) (Nat.le_refl _)
      rw [← hbb.cell (p := ⟨b, off + k * 4, none⟩) hb, ← hbb.cell (p := ⟨b, off + k * 4 + 1, none⟩) hb, ← hbb.cell (p := ⟨b, off + k * 4 + 2, none⟩) hb, ← hbb.cell (p := ⟨b, off + k * 4 + 3, none⟩) hb] at hcell
      obtain ⟨z0, z1, z2, z3⟩ := hcell
      obtain ⟨⟨dk, dV, dI, dv⟩, hd⟩ : ∃ d, E k = d := ⟨_, rfl⟩
      simp only [hd] at z0 z1 z2 z3 hwf
      clear hd
      obtain ⟨W, hW⟩ : ∃ W, wr.alloc (.cells #[.int .u8 dk, .int .u64 dV, .int .i64 dI, .int .i64 dv] 32) = W := ⟨_, rfl⟩
      have td : Turned [] wr W := hW ▸ (Turned.refl [] wr).alloc _
      have hdk : W.heap[wr.heap.size]? = some (.cells #[.int .u8 dk, .int .u64 dV, .int .i64 dI, .int .i64 dv] 32 (0, 0)) := hW ▸ heap_alloc_new wr _
      have H1 := Lib.hid (h1.keep td (by simp))
      have H2 := Lib.hid (show R4 W R Y m D from LAt.keep h2 td (by simp))
      have H3 := Lib.hid h3
      have H4 := Lib.hid h4
      have H5 := Lib.hid h5
      have H6 := Lib.hid (h6.j td)
      have H7 := Lib.hid h7
      have HY := Lib.hid (fun k hk => H2.out.lt k hk : ∀ k ∈ Y, k < W.heap.size)
      have HDK := Lib.hid hdk
      have HWF := Lib.hid hwf
      have HXd : Hid (wr.heap.size ∉ X ∧ wr.heap.size ∉ Y) := Lib.hid ⟨fun hx => by have := h1.lt _ hx; omega, fun hx => by have := h2.lt _ hx; omega⟩
      have l1 : (k : Int) < n := by omega
      clear B0 h1 h2 h3 h4 h5 h6 h7 td hbb hdk hwf
      obtain ⟨d0, d1, d2, d3⟩ := cells4 HDK.out
      go_upto_block 2 with (fail)
      go_cut [9] from 38 to 232 (fun s9 wx => s9 = .bool true ∧ ∃ D' : List It, D'.length ≤ k + 1 ∧ Both w wx A R m D')
      case first =>
        by_cases q0 : (dk.tmod 6 == 0) = true
        · as_aux_lemma =>
            have hdr : Turned [] W W.drew := (Turned.refl [] W).drew
            have HP := Lib.hid (push_all (H1.out.keep hdr (by simp)) (dV, dI, dv) HWF.out.2.2.1 (by omega))
            have HD2 := Lib.hid (hdr.same HDK.out (by simp))
            obtain ⟨_, e1, e2, e3⟩ := cells4 HD2.out
            have R0 := Lib.hid (show R4 W.drew R Y m D from LAt.keep H2.out hdr (by simp))
            clear hdr
            go_wp2_with fail
            go_region_held3 (fun V => V.cell? ⟨wr.heap.size, 1, none⟩ = some (.int .u64 dV) ∧ V.cell? ⟨wr.heap.size, 2, none⟩ = some (.int .i64 dI) ∧ V.cell? ⟨wr.heap.size, 3, none⟩ = some (.int .i64 dv))
              (first | exact ⟨g1, g2, g3⟩ | exact ⟨f1, f2, f3⟩ | exact ⟨e1, e2, e3⟩)
              (first
                | (go_at_call 8
                   with_reducible refine HP.out.mono ?_
                   rintro e V1 ⟨rfl, X1, p1, t1, n1⟩
                   have HD3 := Lib.hid (t1.same HD2.out HXd.out.1)
                   obtain ⟨_, f1, f2, f3⟩ := cells4 HD3.out
                   have R1 : R4 V1 R Y m D := LAt.keep R0.out t1 (fun y hy hx => H3.out y hx hy)
                   have HR := Lib.hid (rpush_any R1 (dV, dI, dv) (by omega))
                   have P1 := Lib.hid (And.intro p1 (And.intro t1 n1))
                   clear p1 t1 n1 R1)
                | (go_at_call 9
                   with_reducible refine HR.out.mono ?_
                   rintro e V2 ⟨rfl, Y2, r2, t2, n2⟩
                   obtain ⟨_, g1, g2, g3⟩ := cells4 (t2.same HD3.out HXd.out.2)
                   have P2 := Lib.hid (And.intro r2 (And.intro t2 n2))
                   clear r2 t2 n2))
            all_goals
              go_wp2
              go_meet
              obtain ⟨p1, t1, n1⟩ := P1.out
              obtain ⟨r2, t2, n2⟩ := P2.out
              exact ⟨by simp, _, by have := pushL_len m D (dV, dI, dv); omega, Both.step (W := W.drew) H3.out H4.out H5.out H6.out.drew HY.out p1 t1 n1 r2 t2 n2 (pushL_sub H7.out HWF.out.2.1.2)⟩
        · have q0' : (dk.tmod 6 == 0) = false := by simpa using q0
          clear q0
          by_cases q1 : (dk.tmod 6 == 1) = true
          · as_aux_lemma =>
              obtain ⟨q, hq⟩ : ∃ q, firstI D = q := ⟨_, rfl⟩
              have hqr : q < D.length := by rw [← hq]; exact (bestI_range D D.length).2.1
              have hc := pop_all H1.out
              rw [hq] at hc
              obtain ⟨⟨v1, v2, v3⟩, hv⟩ : ∃ v, takV D q = v := ⟨_, rfl⟩
              obtain ⟨c, hcc⟩ : ∃ c : Bool, decide (0 ≤ q) = c := ⟨_, rfl⟩
              simp only [ansV, hv, hcc] at hc
              have HP := Lib.hid hc
              have HQ := Lib.hid hq
              have HV := Lib.hid hv
              have HCC := Lib.hid hcc
              clear hc hq hv hcc
              go_wp2_with fail
              with_reducible refine HP.out.mono ?_
              rintro e V1 ⟨rfl, p1, t1⟩
              obtain ⟨V2, hV2⟩ : ∃ V2, V1.alloc (.cells #[.int .u64 v1, .int .i64 v2] tKy) = V2 := ⟨_, rfl⟩
              have t2 : Turned [] V1 V2 := hV2 ▸ (Turned.refl [] V1).alloc _
              have kb : V2.heap[V1.heap.size]? = some (.cells #[.int .u64 v1, .int .i64 v2] tKy (0, 0)) := hV2 ▸ heap_alloc_new V1 _
              have R2 : R4 V2 R Y m D := LAt.keep (LAt.keep H2.out t1 (fun y hy hx => H3.out y hx hy)) t2 (by simp)
              have s1 := t1.size
              have hkY : V1.heap.size ∉ Y := fun hx => by have := HY.out _ hx; omega
              have HDK2 := Lib.hid (t2.same (t1.same HDK.out HXd.out.1) (by simp))
              obtain ⟨_, y1, y2, y3⟩ := cells4 HDK2.out
              have HF := Lib.hid (rfirst_any R2)
              rw [HQ.out] at HF
              have HT := Lib.hid (fun n : Nat => rtake_any (w := V2.drewN n) R2 q hqr (by omega))
              simp only [HV.out, HCC.out] at HT
              have KB := Lib.hid kb
              have T2 := Lib.hid (t1.trans t2.up (Newer.refl _ _) : Turned X W V2)
              have PP := Lib.hid (p1.keep t2 (by simp))
              clear p1 t1 t2 kb R2 s1
              go_wp2_with fail
              with_reducible refine HF.out.mono ?_
              rintro e V2' ⟨rfl, n1, rfl⟩
              go_wp2_with fail
              with_reducible refine (HT.out _).mono ?_
              rintro e V3 ⟨rfl, Y3, r3, t3, n3⟩
              obtain ⟨V4, hV4⟩ : ∃ V4, V3.alloc (.cells #[.int .u64 v1, .int .i64 v2, .int .i64 v3] tI4) = V4 := ⟨_, rfl⟩
              have t4 : Turned [] V3 V4 := hV4 ▸ (Turned.refl [] V3).alloc _
              obtain ⟨b0, b1, b2⟩ := item_cells (hV4 ▸ heap_alloc_new V3 _ : V4.heap[V3.heap.size]? = some (.cells #[.int .u64 v1, .int .i64 v2, .int .i64 v3] tI4 (0, 0)))
              obtain ⟨a0, a1, _⟩ := two_cells (t4.same (t3.same KB.out hkY) (by simp))
              have HB2 := Lib.hid ((Both.step (W := W) H3.out H4.out H5.out H6.out HY.out (PP.out.keep ((Turned.refl [] V2).drewN _) (by simp)) (T2.out.drewN _) (Newer.refl _ _) r3 t3 n3 (takL_sub H7.out)).later t4)
              clear r3 t3 n3 t4 y1 y2 y3 hkY
              go_wp2
              go_meet
              exact ⟨by simp, _, by have := takL_len D q; omega, HB2.out⟩
          · have q1' : (dk.tmod 6 == 1) = false := by simpa using q1
            clear q1
            by_cases q2 : (dk.tmod 6 == 2) = true
            · as_aux_lemma =>
                obtain ⟨q, hq⟩ : ∃ q, hasI D dI = q := ⟨_, rfl⟩
                have hqr : q < D.length := by rw [← hq]; exact hasI_lt D dI
                have hc := remove_all H1.out dI HWF.out.2.2.1
                rw [hq] at hc
                obtain ⟨⟨v1, v2, v3⟩, hv⟩ : ∃ v, takV D q = v := ⟨_, rfl⟩
                obtain ⟨c, hcc⟩ : ∃ c : Bool, decide (0 ≤ q) = c := ⟨_, rfl⟩
                simp only [ansV, hv, hcc] at hc
                have HP := Lib.hid hc
                have HQ := Lib.hid hq
                have HV := Lib.hid hv
                have HCC := Lib.hid hcc
                clear hc hq hv hcc
                go_wp2_with fail
                with_reducible refine HP.out.mono ?_
                rintro e V1 ⟨rfl, p1, t1⟩
                obtain ⟨V2, hV2⟩ : ∃ V2, V1.alloc (.cells #[.int .u64 v1, .int .i64 v2] tKy) = V2 := ⟨_, rfl⟩
                have t2 : Turned [] V1 V2 := hV2 ▸ (Turned.refl [] V1).alloc _
                have kb : V2.heap[V1.heap.size]? = some (.cells #[.int .u64 v1, .int .i64 v2] tKy (0, 0)) := hV2 ▸ heap_alloc_new V1 _
                have R2 : R4 V2 R Y m D := LAt.keep (LAt.keep H2.out t1 (fun y hy hx => H3.out y hx hy)) t2 (by simp)
                have s1 := t1.size
                have hkY : V1.heap.size ∉ Y := fun hx => by have := HY.out _ hx; omega
                have HDK2 := Lib.hid (t2.same (t1.same HDK.out HXd.out.1) (by simp))
                obtain ⟨_, y1, y2, y3⟩ := cells4 HDK2.out
                have HF := Lib.hid (rhas_any R2 dI)
                rw [HQ.out] at HF
                have HT := Lib.hid (fun n : Nat => rtake_any (w := V2.drewN n) R2 q hqr (by omega))
                simp only [HV.out, HCC.out] at HT
                have KB := Lib.hid kb
                have T2 := Lib.hid (t1.trans t2.up (Newer.refl _ _) : Turned X W V2)
                have PP := Lib.hid (p1.keep t2 (by simp))
                clear p1 t1 t2 kb R2 s1
                go_wp2_with fail
                with_reducible refine HF.out.mono ?_
                rintro e V2' ⟨rfl, rfl⟩
                have hz : V2.drewN 0 = V2 := rfl
                go_wp2_with fail
                with_reducible refine (show Calls _ _ _ V2 _ from HT.out 0).mono ?_
                rintro e V3 ⟨rfl, Y3, r3, t3, n3⟩
                obtain ⟨V4, hV4⟩ : ∃ V4, V3.alloc (.cells #[.int .u64 v1, .int .i64 v2, .int .i64 v3] tI4) = V4 := ⟨_, rfl⟩
                have t4 : Turned [] V3 V4 := hV4 ▸ (Turned.refl [] V3).alloc _
                obtain ⟨b0, b1, b2⟩ := item_cells (hV4 ▸ heap_alloc_new V3 _ : V4.heap[V3.heap.size]? = some (.cells #[.int .u64 v1, .int .i64 v2, .int .i64 v3] tI4 (0, 0)))
                obtain ⟨a0, a1, _⟩ := two_cells (t4.same (t3.same KB.out hkY) (by simp))
                have HB2 := Lib.hid ((Both.step (W := W) H3.out H4.out H5.out H6.out HY.out (PP.out.keep ((Turned.refl [] V2).drewN _) (by simp)) (T2.out.drewN _) (Newer.refl _ _) r3 t3 n3 (takL_sub H7.out)).later t4)
                clear r3 t3 n3 t4 y1 y2 y3 hkY
                go_wp2
                go_meet
                exact ⟨by simp, _, by have := takL_len D q; omega, HB2.out⟩
            · have q2' : (dk.tmod 6 == 2) = false := by simpa using q2
              clear q2
              by_cases q3 : (dk.tmod 6 == 3) = true
              · as_aux_lemma =>
                  have HP := Lib.hid (move_all H1.out dI dV HWF.out.2.2.1)
                  go_wp2_with fail
                  with_reducible refine HP.out.mono ?_
                  rintro e V1 ⟨rfl, p1, t1⟩
                  have R1 : R4 V1 R Y m D := LAt.keep H2.out t1 (fun y hy hx => H3.out y hx hy)
                  obtain ⟨_, y1, y2, y3⟩ := cells4 (t1.same HDK.out HXd.out.1)
                  have HF := Lib.hid (rhas_any R1 dI)
                  have PP := Lib.hid (And.intro p1 t1)
                  have RR := Lib.hid R1
                  clear p1 t1 R1
                  go_wp2_with fail
                  with_reducible refine HF.out.mono ?_
                  rintro e V2 ⟨rfl, rfl⟩
                  rcases hasI_cases D dI with ⟨h1, h2⟩ | ⟨j, hj, h1, h2⟩
                  · have e1 : movE D dI = 4 := by rw [movE, if_neg (by omega)]
                    have e2 : movL D dI dV = D := by rw [movL, if_neg (by omega)]
                    rw [e1, h1]
                    rw [e2] at PP
                    have hsame := Both.step (W := W) H3.out H4.out H5.out H6.out HY.out PP.out.1 PP.out.2 (Newer.refl _ _) RR.out (Turned.refl Y V1) (Newer.refl _ _) H7.out
                    have HB2 := Lib.hid hsame
                    clear h1 h2 e1 e2 hsame
                    go_wp2
                    go_meet
                    exact ⟨rfl, D, by omega, HB2.out⟩
                  · have e1 : movE D dI = 0 := by rw [movE, if_pos (by omega)]
                    have e2 : movL D dI dV = D.set j (dV, D[j].2) := by
                      rw [movL, if_pos (by omega), h1, Int.toNat_natCast]
                      simp [List.getD, hj]
                    rw [e1, h1]
                    rw [e2] at PP
                    obtain ⟨v, rb, ro, rfl⟩ := RR.out
                    obtain ⟨g, cap2, rfl, _, _⟩ := ownsRow_pos ro (by omega)
                    have rc := row_cells encIt_len ro hj
                    have r0 : V1.cell? ⟨g, j * 3, none⟩ = some (.int .u64 D[j].1) := (rc 0 (by omega)).1
                    have f0 : V1.frozen? ⟨g, j * 3, none⟩ = false := (rc 0 (by omega)).2
                    obtain ⟨r3, t3⟩ := LAt.cellSet (w := V1) (tS := tH4) (tE := tI4) (enc := encIt) (cs := fun v => #[.int .i64 m, v]) (x := (dV, D[j].2)) (u := .int .u64 dV) encIt_len (by decide) rb ro hj (i := 0) (by omega) rfl
                    obtain ⟨c0, c1, _⟩ := cells2 rb
                    have hsame := Both.step (W := W) (Y2 := [R, g]) H3.out H4.out H5.out H6.out HY.out PP.out.1 PP.out.2 (Newer.refl _ _) r3 t3 (Newer.refl _ _) (by
                      intro x hx
                      rcases List.mem_or_eq_of_mem_set hx with hx | hx
                      · exact H7.out x hx
                      · rw [hx]; exact HWF.out.2.1.2)
                    have HB2 := Lib.hid hsame
                    have i0 : (0 : Int) ≤ j := by omega
                    have i1 : (j : Int) < D.length := by omega
                    clear h1 h2 e1 e2 hsame r3 t3 rc ro rb
                    go_wp2_with fail
                    go_region
                    all_goals
                      go_wp2
                      go_meet
                      exact ⟨rfl, D.set j (dV, D[j].2), by rw [List.length_set]; omega, Both.later HB2.out ((Turned.refl [] _).drew)⟩
              · have q3' : (dk.tmod 6 == 3) = false := by simpa using q3
                clear q3
                by_cases q4 : (dk.tmod 6 == 4) = true
                · as_aux_lemma =>
                    have hc := peek_all H1.out
                    obtain ⟨q, hq⟩ : ∃ q, firstI D = q := ⟨_, rfl⟩
                    rw [hq] at hc
                    have hqr : q < D.length := by rw [← hq]; exact (bestI_range D D.length).2.1
                    obtain ⟨⟨v1, v2, v3⟩, hv⟩ : ∃ v, takV D q = v := ⟨_, rfl⟩
                    obtain ⟨c, hcc⟩ : ∃ c : Bool, decide (0 ≤ q) = c := ⟨_, rfl⟩
                    simp only [ansV, hv, hcc] at hc
                    have HP := Lib.hid hc
                    have HQ := Lib.hid hq
                    have HV := Lib.hid hv
                    have HCC := Lib.hid hcc
                    clear hc hq hv hcc
                    go_wp2_with fail
                    with_reducible refine HP.out.mono ?_
                    rintro e V1 ⟨rfl, t1⟩
                    obtain ⟨V2, hV2⟩ : ∃ V2, V1.alloc (.cells #[.int .u64 v1, .int .i64 v2] tKy) = V2 := ⟨_, rfl⟩
                    have t2 : Turned [] V1 V2 := hV2 ▸ (Turned.refl [] V1).alloc _
                    obtain ⟨k0, k1, _⟩ := two_cells (hV2 ▸ heap_alloc_new V1 _ : V2.heap[V1.heap.size]? = some (.cells #[.int .u64 v1, .int .i64 v2] tKy (0, 0)))
                    have R2 : R4 V2 R Y m D := LAt.keep H2.out (t1.j t2) (by simp)
                    have HF := Lib.hid (rfirst_any R2)
                    rw [HQ.out] at HF
                    have hB : Both w W A R m D := ⟨X, Y, H1.out, H2.out, H3.out, H4.out, H5.out, H6.out, H7.out⟩
                    have HB2 := Lib.hid (hB.later (t1.j t2))
                    obtain ⟨a, cap2, c0, c1, hrow⟩ := R4.rows R2
                    clear t1 t2 R2 hB
                    go_wp2_with fail
                    with_reducible refine HF.out.mono ?_
                    rintro e V3 ⟨rfl, n1, rfl⟩
                    by_cases h0 : q < 0
                    · have z1 : decide (q < 0) = true := by simpa using h0
                      have hc0 := HCC.out
                      have hv0 := HV.out
                      rw [takV, if_pos h0] at hv0
                      simp only [Prod.mk.injEq] at hv0
                      obtain ⟨rfl, rfl, rfl⟩ := hv0
                      obtain rfl : c = false := by rw [← hc0]; simp; omega
                      have z2 : decide (0 ≤ q) = false := hc0
                      clear hrow hc0 h0
                      go_wp2_with fail
                      go_quiet (fail)
                      go_wp2
                      go_meet
                      exact ⟨by simp, D, by omega, HB2.out.later ((((Turned.refl [] V2).drewN _)).drewN _)⟩
                    · obtain ⟨j, rfl⟩ := Int.eq_ofNat_of_zero_le (show 0 ≤ q by omega)
                      have hc0 := HCC.out
                      obtain rfl : c = true := by rw [← hc0]; simp
                      have z2 : decide ((0 : Int) ≤ (j : Int)) = true := hc0
                      obtain ⟨g, rfl, r0, r1, r2⟩ := hrow j (by omega)
                      have hd : D.getD j (0, 0, 0) = (v1, v2, v3) := by
                        have := HV.out
                        rw [takV, if_neg (by omega), Int.toNat_natCast] at this
                        exact this
                      rw [hd] at r0 r1 r2
                      simp only at r0 r1 r2
                      have i0 : (0 : Int) ≤ j := by omega
                      clear hrow hc0 h0 hd
                      go_wp2_with fail
                      go_quiet (fail)
                      go_wp2
                      go_meet
                      exact ⟨by simp, D, by omega, HB2.out.later ((((Turned.refl [] V2).drewN _)).drewN _)⟩
                · have q4' : (dk.tmod 6 == 4) = false := by simpa using q4
                  clear q4
                  by_cases q5 : (dk.tmod 6 == 5) = true
                  · as_aux_lemma =>
                      obtain ⟨q, hq⟩ : ∃ q, (IntKind.u64.wrap dv).tmod 4 = q := ⟨_, rfl⟩
                      have hq2 : 0 ≤ q ∧ q ≤ 3 := by
                        have h0 := wrap_u64_nonneg dv
                        rw [← hq, Int.tmod_eq_emod_of_nonneg h0]
                        omega
                      have hq3 : wrap64 q = q := IntWalk.wrap64_in q (by omega)
                      have HQ := Lib.hid hq
                      have HQ3 := Lib.hid hq3
                      have HP := Lib.hid (law_due (u := dV) (most := q) H1.out H2.out H3.out hq2.1 (by omega) (by omega))
                      clear hq hq3
                      go_wp2_with fail
                      rw [HQ.out, HQ3.out]
                      refine HP.out.mono ?_
                      rintro e V ⟨rfl, D', Y2, p1, r1, t1, n1, s1, l2, _⟩
                      have hws := H6.out.size
                      have hB : Both w V A R m D' := by
                        refine ⟨X, Y2, p1, r1, fun k hk hy => ?_, H4.out, fun k hk => ?_, H6.out.trans' t1 (fun k hk => ?_), fun x hx => H7.out x (s1 x hx)⟩
                        · rcases n1 k hy with h | h
                          · exact H3.out k hk h
                          · have := H1.out.lt k hk
                            omega
                        · rcases n1 k hk with h | h
                          · exact H5.out k h
                          · omega
                        · rcases List.mem_append.1 hk with h | h
                          · exact H4.out k h
                          · exact H5.out k h
                      have HB2 := Lib.hid hB
                      clear p1 r1 t1 n1 s1 hB
                      go_wp2
                      go_meet
                      exact ⟨rfl, D', by omega, HB2.out⟩
                  · have q5' : (dk.tmod 6 == 5) = false := by simpa using q5
                    clear q5
                    as_aux_lemma =>
                      have hB : Both w W A R m D := ⟨X, Y, H1.out, H2.out, H3.out, H4.out, H5.out, H6.out, H7.out⟩
                      have HB2 := Lib.hid hB
                      clear hB
                      go_wp2
                      go_meet
                      exact ⟨rfl, D, by omega, HB2.out⟩
      case rest => as_aux_lemma =>
        obtain ⟨rfl, D', hl, hB'⟩ := hcut
        obtain ⟨X', Y', r1, r2, r3, r4, r5, r6, r7⟩ := hB'
        have HLn := Lib.hid (fun q : Nat => len_any (w := wc.drewN q) r1)
        obtain ⟨a, cap2, c0, c1, _⟩ := R4.rows r2
        have hnn : ((D'.length : Int) != (D'.length : Int)) = false := by simp
        have HB2 := Lib.hid (⟨X', Y', r1, r2, r3, r4, r5, r6, r7⟩ : Both w wc A R m D')
        clear r1 r2 r3 r4 r5 r6 r7 z0 z1 z2 z3 d0 d1 d2 d3
        go_wp2
        go_quiet (first | (go_at_call 18; exact Calls.quiet_of_same ((HLn.out _).mono (fun _ _ h => ⟨h.1, h.2.symm⟩))))
        go_wp2
        go_roundw
        case rel => exact ⟨k + 1, by omega, by go_num, D', hl, Both.later HB2.out ((Turned.refl _ _).drewN _)⟩
        case measure => simp [intOf]; omega
    · obtain rfl : k = n := by omega
      obtain ⟨X, Y, h1, h2, h3, h4, h5, h6, h7⟩ := hB
      have HP := Lib.hid (law_due (u := 18446744073709551615) (most := 5000) h1 h2 h3 (by omega) (by omega) (by omega))
      have H4 := Lib.hid h4
      have H5 := Lib.hid h5
      have H6 := Lib.hid h6
      have H7 := Lib.hid h7
      have HDl := Lib.hid hD
      clear h1 h2 h3 h4 h5 h6 h7 B0 hD
      go_wp2_with fail
      refine HP.out.mono ?_
      rintro e V ⟨rfl, D', Y2, p1, r1, t1, n1, s1, l2, hor⟩
      have hnil : D' = [] := by
        have := HDl.out
        rcases hor with h | h
        · omega
        · cases D' with
          | nil => rfl
          | cons x D' =>
            exfalso
            have a1 := h x (by simp)
            have a2 := H7.out x (s1 x (by simp))
            omega
      subst hnil
      have HLn := Lib.hid (len_any p1)
      simp only [List.length_nil] at HLn
      have HT := Lib.hid (H6.out.trans' t1 (fun k hk => by
        rcases List.mem_append.1 hk with h | h
        · exact H4.out k h
        · exact H5.out k h) : Turned [] w V)
      clear p1 r1 t1 n1 s1 l2 hor
      go_wp2_with fail
      refine HLn.out.mono ?_
      rintro e V2 ⟨rfl, rfl⟩
      go_wp2
      go_ret
      exact ⟨rfl, HT.out⟩
end Go.Proofs.Ythhdidcmiiglbaa
