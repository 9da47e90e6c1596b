/-
  ArenaRuns: the walk.
-/
import Derived.Test.YtiicbmgompnehaaArRange
import Derived.Deep.DeepCutAuto
import Derived.Deep.CutBlock
namespace Go.Proofs.Ytiicbmgompnehaa
open Go.RowKit

set_option maxRecDepth 100000 in
set_option maxHeartbeats 8000000 in
theorem runs_walk (most : Int) (ao : Option Addr) (b off n cap : Nat) (D : Nat → Int × Int × Int) (w : World) (hn : n ≤ 100) (hao : 0 < n → ao = some ⟨b, off, none⟩ ∧ b < w.heap.size)
    (hD : ∀ i, i < n → w.cell? ⟨b, off + i * 3, none⟩ = some (.int .u8 (D i).1) ∧ w.cell? ⟨b, off + i * 3 + 1, none⟩ = some (.int .i64 (D i).2.1) ∧ w.cell? ⟨b, off + i * 3 + 2, none⟩ = some (.int .i64 (D i).2.2)) :
    Calls Try.prog 3 #[.int .i64 most, .slice ao n cap] w fun e w' => e = .returned (.bool true) ∧ Below w.heap.size w w' := by
  refine callsIn_wide.1 (?_ : CallsIn Fence.wide 20 _ _ _ _ _)
  refine callsIn_of_wp_marks Try.func3 rfl trivial ?_ rfl
  simp only [Try.ntmps3, List.size_toArray, List.length_cons, List.length_nil, Nat.reduceAdd, Nat.reduceSub, Array.replicate_succ, Array.replicate_zero, List.push_toArray, List.append_toArray, List.nil_append, List.cons_append]
  refine wpIn_wide.2 ?_
  have HD := Lib.hid hD
  have HAO := Lib.hid hao
  clear hD hao
  go_wp2_with fail
  refine (awake_any w).mono ?_
  rintro e w0 ⟨rfl, t0⟩
  have T0 := Lib.hid t0
  clear t0
  go_wp2_with fail
  refine (new_any most w0).mono ?_
  rintro e w1 ⟨rfl, hw1⟩
  have H1 := Lib.hid hw1
  clear hw1
  go_wp2_with fail
  refine (rnew_any most w1).mono ?_
  rintro e w2 ⟨rfl, hw2⟩
  have H2 := Lib.hid hw2
  clear hw2
  go_wp2_with fail
  have B0 : Both w (w2.alloc (.cells #[.pointer (some ⟨w1.heap.size, 0, none⟩)] 26)) w0.heap.size w1.heap.size w2.heap.size (min (max most 0) 4096) [] [] := by
    have ha : ArI w1 w0.heap.size [w0.heap.size] (min (max most 0) 4096) [] [] := by rw [H1.out]; exact ArAt.new w0 _
    have hta : Turned [] w0 w1 := by rw [H1.out]; exact (Turned.refl _ _).alloc _
    have htr : Turned [] w1 w2 := by rw [H2.out]; exact (Turned.refl _ _).alloc _
    have hr : RfAt w2 w1.heap.size [w1.heap.size] (min (max most 0) 4096) [] [] := by
      rw [H2.out]
      exact ⟨_, _, _, [], heap_alloc_new w1 _, World.ownsRow_nil _ _ _ _, World.ownsRow_nil _ _ _ _, World.ownsRow_nil _ _ _ _, by simp [Value.ownBlock], by simp, by simp [Value.ownBlock]⟩
    have s0 := T0.out.size
    have s1 : w1.heap.size = w0.heap.size + 1 := by rw [H1.out]; simp
    have s2 : w2.heap.size = w1.heap.size + 1 := by rw [H2.out]; simp
    have htp : Turned [] w2 (w2.alloc (.cells #[.pointer (some ⟨w1.heap.size, 0, none⟩)] 26)) := (Turned.refl _ _).alloc _
    have hall : Turned [] w (w2.alloc (.cells #[.pointer (some ⟨w1.heap.size, 0, none⟩)] 26)) := ((T0.out.trans hta (Newer.refl _ _)).trans htr (Newer.refl _ _)).trans htp (Newer.refl _ _)
    exact ⟨_, _, (ha.keep htr (by simp)).keep htp (by simp), hr.keep htp (by simp), by simp; omega, by simp; omega, by simp; omega, Boxed.new w2 _ _, by simp; omega, by simp; omega, by omega, hall.below (by simp) (Nat.le_refl _)⟩
  obtain ⟨A, hA⟩ : ∃ A, w0.heap.size = A := ⟨_, rfl⟩
  obtain ⟨R, hR⟩ : ∃ R, w1.heap.size = R := ⟨_, rfl⟩
  obtain ⟨P, hP⟩ : ∃ P, w2.heap.size = P := ⟨_, rfl⟩
  obtain ⟨m, hm⟩ : ∃ m, min (max most 0) 4096 = m := ⟨_, rfl⟩
  rw [hR]
  rw [hA, hP]
  rw [hA, hR, hP, hm] at B0
  have F0 : Fit m 0 [] [] := ⟨by simp, by simp, by simp; omega, by simp⟩
  clear H1 H2 T0 hA hR hP hm
  obtain ⟨wx, hwx⟩ : ∃ wx, w2.alloc (.cells #[.pointer (some ⟨R, 0, none⟩)] 26) = wx := ⟨_, rfl⟩
  rw [hwx] at B0 ⊢
  clear hwx
  go_loopw [38] (fun i wr => ∃ k : Nat, k ≤ n ∧ i = .int .i64 k ∧ ∃ S F, Fit m k S F ∧ Both w wr A R P m S F) (fun i _ => n - (intOf i).toNat)
  case atStart => exact ⟨0, Nat.zero_le _, rfl, [], [], F0, B0⟩
  case round =>
    obtain ⟨k, hk, rfl, S, F, hF, hB⟩ := hrel
    by_cases hlt : k < n
    · obtain ⟨rfl, hb⟩ := HAO.out (by omega)
      have hcell := HD.out k hlt
      obtain ⟨X, Y, h1, h2, h3, h4, h5, h6, h7, h8, h9, h10⟩ := hB
      rw [← h10.cell (p := ⟨b, off + k * 3, none⟩) hb, ← h10.cell (p := ⟨b, off + k * 3 + 1, none⟩) hb, ← h10.cell (p := ⟨b, off + k * 3 + 2, none⟩) hb] at hcell
      obtain ⟨z0, z1, z2⟩ := hcell
      obtain ⟨⟨dk, dat, dv⟩, hd⟩ : ∃ d, D k = d := ⟨_, rfl⟩
      simp only [hd] at z0 z1 z2
      clear hd
      have td : Turned [] wr (wr.alloc (.cells #[.int .u8 dk, .int .i64 dat, .int .i64 dv] 29)) := (Turned.refl _ _).alloc _
      have hx := h1.lt
      have hy := h2.lt
      have H1 := Lib.hid (h1.keep td (by simp))
      have H2 := Lib.hid (h2.keep td (by simp))
      have H6 := Lib.hid (Boxed.turned h6 td (by simp))
      have H10 := Lib.hid (h10.trans (td.below (by simp) h10.size))
      have H3 := Lib.hid h3
      have H4 := Lib.hid h4
      have H5 := Lib.hid h5
      have H7 := Lib.hid h7
      have H8 := Lib.hid h8
      have H9 := Lib.hid h9
      have HX := Lib.hid hx
      have HY := Lib.hid hy
      have HF := Lib.hid hF
      have bS := hF.sl
      have bF := hF.fl
      clear B0 F0 h1 h2 h3 h4 h5 h6 h7 h8 h9 h10 td hx hy hF
      have l1 : (k : Int) < n := by omega
      have BD : Both w (wr.alloc (.cells #[.int .u8 dk, .int .i64 dat, .int .i64 dv] 29)) A R P m S F := ⟨X, Y, H1.out, H2.out, H3.out, H4.out, H5.out, H6.out, H7.out, H8.out, H9.out, H10.out⟩
      have HBD := Lib.hid BD
      clear BD
      go_upto_block 2 with (fail)
      go_cut [9] from 39 to 162 (fun s9 wx => s9 = .bool true ∧ ∃ S' F', Fit m (k + 1) S' F' ∧ Both w wx A R P m S' F')
      case first =>
        by_cases q0 : (dk.tmod 4 == 0) = true
        · go_wp2_with fail
          refine (put_any H1.out dv (by omega) (by omega) HF.out.place).mono ?_
          rintro e wa ⟨rfl, X', a1, a2, a3⟩
          obtain ⟨_, _, _, d2⟩ := deed_cells a2 HX.out
          have pc := (Boxed.turned H6.out a2 H7.out).cell
          have A1 := Lib.hid a1
          have A2 := Lib.hid a2
          have A3 := Lib.hid a3
          clear a1 a2 a3
          go_wp2_with fail
          refine (rput_any (H2.out.keep A2.out (fun y hy hx => H3.out y hx hy)) dv (by omega) (by omega) HF.out.place HF.out.room).mono ?_
          rintro e wb ⟨rfl, Y', b1, b2, b3⟩
          have BB := Both.step H2.out H3.out H4.out H5.out H6.out H7.out H8.out H9.out H10.out A1.out A2.out A3.out b1 b2 b3
          have FF := HF.out.put dv
          have HBB := Lib.hid BB
          have HFF := Lib.hid FF
          clear BB FF b1 b2 b3 d2 pc z0 z1 z2
          go_wp2
          go_meet
          exact ⟨rfl, _, _, HFF.out, HBB.out⟩
        · have q0' : (dk.tmod 4 == 0) = false := by simpa using q0
          clear q0
          by_cases q1 : (dk.tmod 4 == 1) = true
          · cases hi : isB S dat with
            | false =>
              have HN := Lib.hid hi
              clear hi
              go_wp2_with fail
              refine (drop_no H1.out dat HN.out).mono ?_
              rintro e wa ⟨rfl, rfl⟩
              have pc := H6.out.cell
              go_wp2_with fail
              refine (rdrop_no H2.out dat HN.out).mono ?_
              rintro e wb ⟨rfl, rfl⟩
              clear pc
              have FF := HF.out.mono
              have BB := HBD.out
              have HBB := Lib.hid BB
              have HFF := Lib.hid FF
              clear BB FF z0 z1 z2
              go_wp2
              go_meet
              exact ⟨rfl, _, _, HFF.out, HBB.out⟩
            | true =>
              obtain ⟨j, u, rfl, hjl, hj⟩ := isB_true hi
              have HJ := Lib.hid hj
              clear hi hj
              go_wp2_with fail
              refine (drop_yes H1.out j u HJ.out (by omega)).mono ?_
              rintro e wa ⟨rfl, X', a1, a2, a3⟩
              obtain ⟨_, _, d1, _⟩ := deed_cells a2 HX.out
              have pc := (Boxed.turned H6.out a2 H7.out).cell
              have A1 := Lib.hid a1
              have A2 := Lib.hid a2
              have A3 := Lib.hid a3
              clear a1 a2 a3
              go_wp2_with fail
              refine (rdrop_yes (H2.out.keep A2.out (fun y hy hx => H3.out y hx hy)) j u 0 HJ.out (by omega)).mono ?_
              rintro e wb ⟨rfl, Y', b1, b2, b3⟩
              have BB := Both.step H2.out H3.out H4.out H5.out H6.out H7.out H8.out H9.out H10.out A1.out A2.out A3.out b1 b2 b3
              have FF := HF.out.drop j hjl 0
              have HBB := Lib.hid BB
              have HFF := Lib.hid FF
              clear BB FF b1 b2 b3 d1 pc z0 z1 z2
              go_wp2
              go_meet
              exact ⟨rfl, _, _, HFF.out, HBB.out⟩
          · have q1' : (dk.tmod 4 == 1) = false := by simpa using q1
            clear q1
            by_cases q2 : (dk.tmod 4 == 2) = true
            · cases hi : isB S dat with
              | false =>
                have HN := Lib.hid hi
                clear hi
                go_wp2_with fail
                refine (set_no H1.out dat dv HN.out).mono ?_
                rintro e wa ⟨rfl, rfl⟩
                have pc := H6.out.cell
                go_wp2_with fail
                refine (is_any H2.out dat).mono ?_
                rw [HN.out]
                rintro e wb ⟨rfl, rfl⟩
                clear pc
                have FF := HF.out.mono
                have BB := HBD.out
                have HBB := Lib.hid BB
                have HFF := Lib.hid FF
                clear BB FF z0 z1 z2
                go_wp2
                go_meet
                exact ⟨rfl, _, _, HFF.out, HBB.out⟩
              | true =>
                obtain ⟨j, u, rfl, hjl, hj⟩ := isB_true hi
                have HI := Lib.hid hi
                have HJ := Lib.hid hj
                clear hi hj
                go_wp2_with fail
                refine (set_yes H1.out j u dv HJ.out).mono ?_
                rintro e wa ⟨rfl, a1, a2⟩
                obtain ⟨_, _, d1, d2⟩ := deed_cells a2 HX.out
                have pc := (Boxed.turned H6.out a2 H7.out).cell
                have A1 := Lib.hid a1
                have A2 := Lib.hid a2
                clear a1 a2
                have ra := H2.out.keep A2.out (fun y hy hx => H3.out y hx hy)
                have RA := Lib.hid ra
                obtain ⟨gl, cl, x, r1, r2, r3, b1, b2⟩ := ra.setL HJ.out dv
                have BB := (Both.step H2.out H3.out H4.out H5.out H6.out H7.out H8.out H9.out H10.out A1.out A2.out (Newer.refl _ _) b1 b2 (Newer.refl _ _)).later ((Turned.refl [] _).drew)
                have FF := HF.out.set j (dv, true)
                have HBB := Lib.hid BB
                have HFF := Lib.hid FF
                clear BB FF b1 b2 ra z0 z1 z2
                have j0 : (0 : Int) ≤ (j : Int) := by omega
                have j1 : (j : Int) < S.length := by omega
                go_wp2_with fail
                refine (is_any RA.out (j : Int)).mono ?_
                rw [HI.out]
                rintro e wb ⟨rfl, rfl⟩
                go_wp2
                go_region
                clear d1 d2 pc r1 r2 r3
                go_wp2
                go_meet
                exact ⟨rfl, _, _, HFF.out, HBB.out⟩
            · have q2' : (dk.tmod 4 == 2) = false := by simpa using q2
              clear q2
              by_cases q3 : (dk.tmod 4 == 3) = true
              · cases hi : isB S dat with
                | false =>
                  have HN := Lib.hid hi
                  clear hi
                  go_wp2_with fail
                  refine (get_no H1.out dat HN.out).mono ?_
                  rintro e wa ⟨rfl, rfl⟩
                  have pc := H6.out.cell
                  go_wp2_with fail
                  refine (rget_no H2.out dat HN.out).mono ?_
                  rintro e wb ⟨rfl, rfl⟩
                  clear pc
                  have FF := HF.out.mono
                  have BB := HBD.out
                  have HBB := Lib.hid BB
                  have HFF := Lib.hid FF
                  clear BB FF z0 z1 z2
                  go_wp2
                  go_meet
                  exact ⟨rfl, _, _, HFF.out, HBB.out⟩
                | true =>
                  obtain ⟨j, u, rfl, hjl, hj⟩ := isB_true hi
                  have HJ := Lib.hid hj
                  clear hi hj
                  go_wp2_with fail
                  refine (get_yes H1.out _ j u rfl HJ.out).mono ?_
                  rintro e wa ⟨rfl, rfl⟩
                  have pc := H6.out.cell
                  go_wp2_with fail
                  refine (rget_yes H2.out j u HJ.out).mono ?_
                  rintro e wb ⟨rfl, rfl⟩
                  clear pc
                  have FF := HF.out.mono
                  have BB := HBD.out
                  have HBB := Lib.hid BB
                  have HFF := Lib.hid FF
                  clear BB FF z0 z1 z2
                  go_wp2
                  go_meet
                  exact ⟨rfl, _, _, HFF.out, HBB.out⟩
              · have q3' : (dk.tmod 4 == 3) = false := by simpa using q3
                clear q3
                have FF := HF.out.mono
                have BB := HBD.out
                have HBB := Lib.hid BB
                have HFF := Lib.hid FF
                clear BB FF z0 z1 z2
                go_wp2
                go_meet
                exact ⟨rfl, _, _, HFF.out, HBB.out⟩
      case rest =>
        obtain ⟨rfl, S', F', hF', hB'⟩ := hcut
        have g1 := hF'.sl
        have g2 := hF'.fl
        obtain ⟨u1, u2, u3, pc2, rc⟩ := hB'.tail (by omega) (by omega)
        have U1 := Lib.hid u1
        have U2 := Lib.hid u2
        have U3 := Lib.hid u3
        have HBB := Lib.hid hB'
        have HFF := Lib.hid hF'
        clear u1 u2 u3 hB' hF' z0 z1 z2
        go_wp2
        go_quiet (first | (go_at_call 16; exact U1.out _) | (go_at_call 17; exact U2.out _) | (go_at_call 18; exact U3.out _))
        go_wp2
        go_roundw
        case rel => exact ⟨k + 1, by omega, by go_num, _, _, HFF.out, HBB.out.later ((Turned.refl _ _).drewN _)⟩
        case measure => simp [intOf]; omega
    · obtain rfl : k = n := by omega
      obtain ⟨X, Y, h1, h2, h3, h4, h5, h6, h7, h8, h9, h10⟩ := hB
      have tq : Turned [] wr ((wr.alloc (.cells #[.int .i64 0] 3)).alloc (.cells #[.bool true] 4)) := ((Turned.refl _ _).alloc _).alloc _
      have hpl := lt_of_block h6
      have hrl := h2.lt
      have hbl := h10.size
      have H1 := Lib.hid (h1.keep tq (by simp))
      obtain ⟨lv, ov, fv, L, hP, hL, rfl⟩ := (h2.keep tq (by simp)).parts
      have HL := Lib.hid hL
      have k1 : Boxed ((wr.alloc (.cells #[.int .i64 0] 3)).alloc (.cells #[.bool true] 4)) wr.heap.size 3 (.int .i64 (0 : Nat)) := (Boxed.new wr _ _).alloc _
      have s1 : Boxed ((wr.alloc (.cells #[.int .i64 0] 3)).alloc (.cells #[.bool true] 4)) (wr.heap.size + 1) 4 (.bool true) := by have := Boxed.new (wr.alloc (.cells #[.int .i64 0] 3)) 4 (.bool true); simpa using this
      have E1 : Env w w wr.heap.size P R m lv ov fv S F L 0 true ((wr.alloc (.cells #[.int .i64 0] 3)).alloc (.cells #[.bool true] 4)) :=
        ⟨k1, s1, Boxed.turned h6 tq (by simp), hP, h10.trans (tq.below (by simp) h10.size), hpl, hrl, hbl⟩
      have HE := Lib.hid E1
      have bS := hF.sl
      clear B0 F0 h1 h2 h3 h4 h5 h6 h7 h8 h9 h10 tq hP hL hF k1 s1 E1 hpl hrl HD
      go_wp2_with fail
      refine (all_any H1.out (by omega)).mono ?_
      rintro e wz ⟨B, rfl, hK, hT⟩
      have E2 : Env w w wr.heap.size P R m lv ov fv S F L 0 true wz := by
        have h := HE.out
        exact ⟨Boxed.turned h.k hT (by simp), Boxed.turned h.s hT (by simp), Boxed.turned h.p hT (by simp), h.r.keep hT (by simp), h.b.trans (hT.below (by simp) h.b.size), h.pl, h.rl, h.bl⟩
      have hw1 : wr.heap.size + 2 ≤ wz.heap.size := by have := hT.size; simp at this; omega
      have HK := Lib.hid hK
      have HE2 := Lib.hid E2
      clear hK hT E2 HE H1
      go_wp2_with fail
      have hn1 : ((wr.alloc (.cells #[.int .i64 0] 3)).alloc (.cells #[.bool true] 4)).heap.size = wr.heap.size + 2 := by simp
      rw [hn1] at HK
      clear hn1
      refine range_walk w wz P R B wr.heap.size k m lv ov fv S F L _ (by assumption) hbl hw1 hn bS HL HE2 HK _ _ _ _ _ _ _ _ _ _ _ _ _ _ _ _ _ _ _ _ _ _ _ _ _ _ _ _ _ _ _ _ _ _ _ _ _ _ _ _ _ _ _ _ _ _ _ _ _ _ _ _ _ _ _ _ _ _ _ _ _ _ _ _ _ _ _ _ _ _ _ _ _ _ _ _ _ _ _ _ _ _ _ _ _ _ _ _ _ _ _ _ _ _ _ _ _ _ _ _ _ _ _ _ _ _ _ _ _ _ _ _ _ _ _ _ _ _ _ _ _ _ _ _ _ _ _ _ _ _ _ _ _ _ _ _ _ _ _ _ _ _ _ _ _ _ _ _ _ _ _ _ _ _ _ _ _ _ _ _ _ _ _ _ _ _ _ _ _ _ _ _ _ _ _ _ _ _ _ _ _ _ _ _ _ _ _ _ _ _ _ _ _ _ _ _ _ _ _ _ _ _ _ _ _ _ _ _ _ _ _ _ _ _ _ _ _ _ _ _ _ _ _ _ _ _ _ _ _ _ _ _ _ _ _ _ _ _ _
end Go.Proofs.Ytiicbmgompnehaa
