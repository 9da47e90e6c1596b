/-
  ArenaLeaves: the walk.
-/
import Derived.Test.YtiicbmgompnehaaArLeafEnv
import Derived.Test.YtiicbmgompnehaaArNeq
import Derived.Test.YtiicbmgompnehaaArHalf
import Derived.Sort.LoopGhostIn
namespace Go.Proofs.Ytiicbmgompnehaa
open Go.RowKit Go.Shelf
attribute [local go_sem] Oper.semAt_some

set_option maxRecDepth 100000 in
set_option maxHeartbeats 4000000 in
theorem leaves_walk (ao : Option Addr) (b off cap : Nat) (zs : List Int) (nn : Int) (hn0 : 0 ≤ nn) (hn1 : nn ≤ 255) (w : World) (hz : zs.length ≤ 60) (hao : 0 < zs.length → ao = some ⟨b, off, none⟩ ∧ b < w.heap.size)
    (hD : ∀ i, i < zs.length → w.cell? ⟨b, off + i, none⟩ = some (.int .i64 (zs.getD i 0))) :
    Calls Try.prog 4 #[.slice ao zs.length cap, .int .u8 nn] w fun e w' => e = .returned (.bool true) ∧ Below w.heap.size w w' := by
  refine callsIn_wide.1 (?_ : CallsIn Fence.wide 20 _ _ _ _ _)
  refine callsIn_of_wp_marks Try.func4 rfl trivial ?_ rfl
  simp only [Try.ntmps4, List.size_toArray, List.length_cons, List.length_nil, Nat.reduceAdd, Nat.reduceSub, Array.replicate_succ, Array.replicate_zero, List.push_toArray, List.append_toArray, List.nil_append, List.cons_append]
  refine wpIn_wide.2 ?_
  obtain ⟨n, hn⟩ : ∃ n, zs.length = n := ⟨_, rfl⟩
  rw [hn] at hz hao hD ⊢
  have HD := Lib.hid hD
  have HAO := Lib.hid hao
  have HN := Lib.hid hn
  clear hD hao hn
  have E0 := LEnv.new w (.slice ao n cap) nn
  have HE0 := Lib.hid E0
  clear E0
  go_wp2_with fail
  refine (awake_any _).mono ?_
  rintro e w0 ⟨rfl, t0⟩
  have E1 : LEnv w (.slice ao n cap) nn false w0 := HE0.out.turned t0 (by simp)
  have hs0 : w.heap.size + 3 ≤ w0.heap.size := by have := t0.size; simp at this; omega
  have c1 := E1.l.cell
  have HE1 := Lib.hid E1
  clear t0 E1 HE0
  go_wp2_with fail
  refine (Pr.new_any 100 w0).mono ?_
  rintro e w1 ⟨rfl, hw1⟩
  have hA : Pr.ArP w1 w0.heap.size [w0.heap.size] 100 (mk zs 0) [] := by rw [hw1]; exact ArAt.new w0 _
  have E2 : LEnv w (.slice ao n cap) nn false w1 := HE1.out.turned (by rw [hw1]; exact (Turned.refl [] _).alloc _) (by simp)
  have c2 := E2.l.cell
  have HE2 := Lib.hid E2
  have HA := Lib.hid hA
  clear hA E2 hw1 c1
  go_wp2
  go_loopw [29] (fun i wr => ∃ k : Nat, k ≤ n ∧ i = .int .i64 k ∧ ∃ X, Pr.ArP wr w0.heap.size X 100 (mk zs k) [] ∧ (∀ x ∈ X, w.heap.size + 3 ≤ x) ∧ LEnv w (.slice ao n cap) nn false wr) (fun i _ => n - (intOf i).toNat)
  case atStart => exact ⟨0, Nat.zero_le _, rfl, _, HA.out, by simp; omega, HE2.out⟩
  case round =>
    obtain ⟨k, hk, rfl, X, hA, hX, hE⟩ := hrel
    by_cases hlt : k < n
    · obtain ⟨rfl, hb⟩ := HAO.out (by omega)
      have hcell := HD.out k hlt
      rw [← hE.b.cell (p := ⟨b, off + k, none⟩) hb] at hcell
      have hput := Pr.put_new hA ((k : Int), zs.getD k 0) (by rw [mk_len]; omega) (by rw [mk_len]; simp; omega)
      rw [mk_len, ← mk_succ] at hput
      have HP := Lib.hid hput
      have HX := Lib.hid hX
      have HE := Lib.hid hE
      obtain ⟨zk, hzk⟩ : ∃ zk, zs.getD k 0 = zk := ⟨_, rfl⟩
      rw [hzk] at hcell HP
      have l1 : (k : Int) < n := by omega
      clear hA hX hE hput hzk c2
      go_wp2_with fail
      refine HP.out.mono ?_
      rintro e wa ⟨rfl, X', a1, a2, a3⟩
      have hE' : LEnv w (.slice (some ⟨b, off, none⟩) n cap) nn false wa := HE.out.turned a2 HX.out
      have hX' : ∀ x ∈ X', w.heap.size + 3 ≤ x := fun x hx => by
        rcases a3 x hx with h | h
        · exact HX.out x h
        · have := HE.out.b.size
          have h2 := lt_of_block HE.out.r
          omega
      have A1 := Lib.hid a1
      have HX' := Lib.hid hX'
      have HE' := Lib.hid hE'
      clear a1 a2 a3 hE' hX'
      go_wp2
      go_roundw
      case rel => exact ⟨k + 1, by omega, by go_num, X', A1.out, HX'.out, HE'.out⟩
      case measure => simp [intOf]; omega
    · obtain rfl : k = n := by omega
      have hbk := lt_of_block hE.r
      have hnz := HN.out
      subst hnz
      have hxl := hA.lt
      have tq : Turned [] wr (wr.alloc (.cells #[.int .i64 0] 3)) := (Turned.refl _ _).alloc _
      have R0 : REnv w (.slice ao zs.length cap) nn w0.heap.size X zs wr.heap.size 0 (wr.alloc (.cells #[.int .i64 0] 3)) :=
        ⟨hE.turned tq (by simp), hA.keep tq (by simp), Boxed.new wr _ _, hX, hxl, by omega⟩
      have HR0 := Lib.hid R0
      clear R0 hA hX hE hxl tq c2 HA HE2 HE1
      go_wp2_with fail
      refine (Pr.all_any HR0.out.a (by rw [mk_len]; omega)).mono ?_
      rintro e wz ⟨B, rfl, hK, hT⟩
      have R1 := HR0.out.turned hT
      have hw1 : wr.heap.size + 1 ≤ wz.heap.size := by have := hT.size; simpa using this
      have HK := Lib.hid hK
      have HR1 := Lib.hid R1
      clear hK hT R1 HR0
      go_wp2_with fail
      have hn1 : (wr.alloc (.cells #[.int .i64 0] 3)).heap.size = wr.heap.size + 1 := by simp
      rw [hn1] at HK
      clear hn1
      generalize wr.heap.size = bk at hbk hw1 HK HR1 ⊢
      refine (wpIn_wide (n := 20)).1 ?_
      refine wpIn_range_boxed rfl (by omega) (gf := 38) (lb := #[.pointer (some ⟨B, 0, none⟩)]) rfl trivial (enters_of Try.func38 (by kernel_rfl) rfl)
        (Pr.all_stops Fence.wide 19 trivial rfl (by omega) B wz.heap.size _ [bk] (mk zs zs.length) (by rw [mk_len]; omega) wz (Nat.le_refl _) HK.out (by intro x hx; simp at hx; omega) (Nat.le_refl _)) keptK_t (keptK_b (Nat.le_refl _)) (Below.refl _ _) (fun _ => rfl)
        (fun pre W => REnv w (.slice ao zs.length cap) nn w0.heap.size X zs bk pre.length W ∧ good zs pre ∧ (pre.length : Int) ≤ nn ∧ wz.heap.size ≤ W.heap.size)
        (fun c pre W => (c = .ret ∧ ¬ good zs pre) ∨ (c = .exit 2 ∧ REnv w (.slice ao zs.length cap) nn w0.heap.size X zs bk pre.length W ∧ good zs pre ∧ (pre.length : Int) = nn + 1 ∧ wz.heap.size ≤ W.heap.size))
        ?hI ?hIx ⟨HR1.out, rfl, by simpa using hn0, Nat.le_refl _⟩ 50 (fun x => #[.int .i64 x.2.1, .int .i64 x.2.2]) (fun pre W o h => (Kept.refl _ _ _).alloc h.2.2.2 o) ?a1 ?assign ?body ?done ?stop
      case hI => exact fun pre A B row hs hg hr => ⟨hs.1.abides hg hr (by omega), hs.2.1, hs.2.2.1, Nat.le_trans hs.2.2.2 hg.size⟩
      case hIx =>
        rintro c pre A B row (hs | ⟨hc, hs⟩) hg hr
        · exact .inl hs
        · exact .inr ⟨hc, hs.1.abides hg hr (by omega), hs.2.1, hs.2.2.1, Nat.le_trans hs.2.2.2 hg.size⟩
      case assign =>
        intro l x Bn W K hBn hK
        gi_wp2
        exact hK
      case stop =>
        rintro D c pre W hD ⟨j, hj, rfl⟩ hI hK
        rw [mk_len] at hj
        rw [items_mk zs zs.length j hj, got_len] at hI
        rcases hI with ⟨_, hg⟩ | ⟨rfl, hR, _, hq, hsz⟩
        · exact absurd (good_got zs j) hg
        · have hbw := lt_of_block hR.k
          exact into_rest_exit (by assumption) _ _ (leaves_half w W ao cap zs nn hn0 hn1 hz w0.heap.size bk j X D (by omega) hK (Lib.hid hR) (by omega) hbw _ _ _ _ _ _ _ _ _ _ _ _ _ _ _ _ _ _ _ _ _ _ _ _ _ _ _ _ _ _ _ _ _ _ _ _ _ _ _ _ _ _ _ _ _ _ _ _ _ _ _ _ _ _ _ _ _ _ _ _ _ _ _ _ _ _ _ _ _ _ _ _ _ _ _ _ _ _ _ _ _ _ _ _ _ _ _ _ _ _ _ _ _ _ _ _ _ _ _ _ _ _ _ _ _ _ _ _ _ _ _ _ _ _ _ _ _ _ _ _ _ _ _ _ _ _ _ _ _ _ _ _)
      case done =>
        rintro D ys W hD rfl ⟨hR, _, hq, hsz⟩ hK
        have hyl : (items (mk zs zs.length)).length = zs.length := by
          have h := items_mk zs zs.length zs.length (Nat.le_refl _)
          rw [List.take_of_length_le (by rw [mk_len]; exact Nat.le_refl _)] at h
          rw [h, got_len]
        rw [hyl] at hR hq
        have hbw := lt_of_block hR.k
        exact into_rest (by assumption) _ _ (leaves_half w W ao cap zs nn hn0 hn1 hz w0.heap.size bk zs.length X D (by omega) hK (Lib.hid hR) (by omega) hbw _ _ _ _ _ _ _ _ _ _ _ _ _ _ _ _ _ _ _ _ _ _ _ _ _ _ _ _ _ _ _ _ _ _ _ _ _ _ _ _ _ _ _ _ _ _ _ _ _ _ _ _ _ _ _ _ _ _ _ _ _ _ _ _ _ _ _ _ _ _ _ _ _ _ _ _ _ _ _ _ _ _ _ _ _ _ _ _ _ _ _ _ _ _ _ _ _ _ _ _ _ _ _ _ _ _ _ _ _ _ _ _ _ _ _ _ _ _ _ _ _ _ _ _ _ _ _ _ _ _ _ _)
      case body =>
        rintro l pre ⟨xi, xa, xb⟩ Bx W hbx ⟨hR, hg, hq, hsz⟩ hlen
        rw [mk_len] at hlen
        have b0 : W.cell? ⟨Bx, 0, none⟩ = some (.int .i64 xa) := by simp [World.cell?, hbx]
        have b1 : W.cell? ⟨Bx, 1, none⟩ = some (.int .i64 xb) := by simp [World.cell?, hbx]
        have HBX := Lib.hid hbx
        have HG := Lib.hid hg
        have HRR := Lib.hid hR
        obtain ⟨rfl, hb⟩ := HAO.out (by omega)
        have cz := HD.out pre.length hlen
        rw [← hR.e.b.cell (p := ⟨b, off + pre.length, none⟩) hb] at cz
        have ck := hR.k.cell
        have fk := hR.k.frozen
        have cl := hR.e.l.cell
        have cn := hR.e.n.cell
        have cr := hR.e.r.cell
        have fr := hR.e.r.frozen
        obtain ⟨q, hqq⟩ : ∃ q, pre.length = q := ⟨_, rfl⟩
        obtain ⟨zk, hzk⟩ : ∃ zk, zs.getD pre.length 0 = zk := ⟨_, rfl⟩
        rw [hzk] at cz
        rw [hqq] at hlen hq cz ck
        have HQ := Lib.hid hqq
        have HZ := Lib.hid hzk
        have hz' := hzk
        rw [hqq] at hz'
        have HZ' := Lib.hid hz'
        have q0 : (0 : Int) ≤ (q : Int) := by omega
        have q1 : (q : Int) < zs.length := by omega
        have hneq := neq_pair
        clear hbx hg hR hqq hzk hz' HK HR1
        by_cases hx : xi = q
        · have d1 : ((xi : Int) != (q : Int)) = false := by simp [hx]
          have HX := Lib.hid hx
          clear hx
          by_cases hxa : xa = (q : Int)
          · have d2 : (xa == (q : Int)) = true := by simp [hxa]
            have HXA := Lib.hid hxa
            clear hxa
            by_cases hxb : xb = zk
            · have d3 : (xb == zk) = true := by simp [hxb]
              have HXB := Lib.hid hxb
              clear hxb
              have e1 : (xi, (xa, xb)) = (pre.length, ((pre.length : Int), zs.getD pre.length 0)) := by rw [HZ.out, HQ.out, HX.out, HXA.out, HXB.out]
              have E1 := Lib.hid e1
              have hlq : (pre ++ [(xi, (xa, xb))]).length = q + 1 := by rw [List.length_append, List.length_singleton, HQ.out]
              have HLQ := Lib.hid hlq
              have hR1 := HRR.out
              rw [HQ.out] at hR1
              have HR2 := Lib.hid hR1
              clear e1 hlq hR1
              by_cases hlast : (q : Int) + 1 ≤ nn
              · gi_wp2
                refine wpRound_quiet (by kernel_rfl) ?_ (by kernel_rfl) (by kernel_rfl) ?_
                · rintro ⟨_, _, h⟩; exact h
                repeat (go_big_quiet_step (fail))
                refine wpQuiet_nil ?_
                intro _ hw'
                obtain ⟨nq, hw''⟩ := hw'
                subst hw''
                gi_wp2
                exact ⟨((keepsOthers_drewN _ nq).trans (KeepsOthers.setCell _ _ _)).from _, ((Kept.refl _ _ _).drewN nq).setCell (.inl (by simp)) _, by rw [HLQ.out]; exact (HR2.out.drewN nq).setK (q + 1), by rw [E1.out]; exact good_snoc HG.out, by rw [HLQ.out]; omega, by simpa using hsz⟩
              · have hlast' : nn < (q : Int) + 1 := by omega
                clear hlast
                gi_wp2
                refine wpRound_quiet (by kernel_rfl) ?_ (by kernel_rfl) (by kernel_rfl) ?_
                · rintro ⟨_, _, h⟩; exact h
                repeat (go_big_quiet_step (fail))
                refine wpQuiet_nil ?_
                intro _ hw'
                obtain ⟨nq, hw''⟩ := hw'
                subst hw''
                gi_wp2
                exact ⟨((keepsOthers_drewN _ nq).trans (KeepsOthers.setCell _ _ _)).from _, .inr ⟨rfl, by rw [HLQ.out]; exact (HR2.out.drewN nq).setK (q + 1), by rw [E1.out]; exact good_snoc HG.out, by rw [HLQ.out]; omega, by simpa using hsz⟩⟩
            · have d3 : (xb == zk) = false := by rw [beq_eq_false_iff_ne]; exact hxb
              have HXB := Lib.hid hxb
              clear hxb
              gi_wp2
              refine wpRound_quiet (by kernel_rfl) ?_ (by kernel_rfl) (by kernel_rfl) ?_
              · rintro ⟨_, _, h⟩; exact h
              repeat (go_big_quiet_step (fail))
              refine wpQuiet_nil ?_
              intro _ hw'
              obtain ⟨nq, hw''⟩ := hw'
              subst hw''
              gi_wp2
              refine ⟨((keepsOthers_drewN _ nq).trans (KeepsOthers.setCell _ _ _)).from _, .inl ⟨rfl, fun h => ?_⟩⟩
              have h1 := good_last h
              rw [HQ.out] at h1
              simp only [Prod.mk.injEq] at h1
              rw [HZ'.out] at h1
              exact HXB.out h1.2.2
          · have d2 : (xa == (q : Int)) = false := by rw [beq_eq_false_iff_ne]; exact hxa
            have HXA := Lib.hid hxa
            clear hxa
            gi_wp2
            refine wpRound_quiet (by kernel_rfl) ?_ (by kernel_rfl) (by kernel_rfl) ?_
            · rintro ⟨_, _, h⟩; exact h
            repeat (go_big_quiet_step (fail))
            refine wpQuiet_nil ?_
            intro _ hw'
            obtain ⟨nq, hw''⟩ := hw'
            subst hw''
            gi_wp2
            refine ⟨((keepsOthers_drewN _ nq).trans (KeepsOthers.setCell _ _ _)).from _, .inl ⟨rfl, fun h => ?_⟩⟩
            have h1 := good_last h
            rw [HQ.out] at h1
            simp only [Prod.mk.injEq] at h1
            exact HXA.out h1.2.1
        · have d1 : ((xi : Int) != (q : Int)) = true := by rw [bne_iff_ne]; omega
          have HX := Lib.hid hx
          clear hx
          gi_wp2
          refine wpRound_quiet (by kernel_rfl) ?_ (by kernel_rfl) (by kernel_rfl) ?_
          · rintro ⟨_, _, h⟩; exact h
          repeat (go_big_quiet_step (fail))
          refine wpQuiet_nil ?_
          intro _ hw'
          obtain ⟨nq, hw''⟩ := hw'
          subst hw''
          gi_wp2
          refine ⟨((keepsOthers_drewN _ nq).trans (KeepsOthers.setCell _ _ _)).from _, .inl ⟨rfl, fun h => ?_⟩⟩
          have h1 := good_last h
          rw [HQ.out] at h1
          simp only [Prod.mk.injEq] at h1
          exact HX.out h1.1
end Go.Proofs.Ytiicbmgompnehaa
