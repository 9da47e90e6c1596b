/-
  ArenaRuns: the loop over the arena's values, and what stands behind it.
-/
import Derived.Test.YtiicbmgompnehaaArInv
import Derived.Test.YtiicbmgompnehaaArScan
import Derived.Test.YtiicbmgompnehaaArRound
import Derived.Sort.LoopGhostIn
namespace Go.Proofs.Ytiicbmgompnehaa
open Go.RowKit Go.Shelf
attribute [local go_sem] Oper.semAt_some

/-- The first loop over a function in a code; what stands behind it. -/
def firstRange : Code → Option Code
  | .rangeFunc g ps x y => some (.rangeFunc g ps x y)
  | .seq a b => match firstRange a with
    | some c => some c
    | none => firstRange b
  | .block _ c => firstRange c
  | .scope c => firstRange c
  | _ => none
def restRange : Code → Option Code
  | .seq a b => match firstRange a with
    | some _ => match restRange a with
      | some r => some (.seq r b)
      | none => some b
    | none => restRange b
  | _ => none
noncomputable def rangeC : Code := (Try.f3.body.bind firstRange).getD .skip
noncomputable def restC : Code := (Try.f3.body.bind restRange).getD .skip

set_option maxRecDepth 100000 in
set_option maxHeartbeats 4000000 in
theorem range_walk (w wz : World) (P R B bk k : Nat) (m : Int) (lv ov fv : Value) (S : List (Int × Bool)) (F : List Nat) (L : List Int) (K : Act → World → Prop)
    (hrest : ∀ a w', Code.wp Try.prog restC (bodyPostM Fence.wide 20 Try.prog Try.f3 fun e w' => e = Ending.returned (Value.bool true) ∧ Below w.heap.size w w') a w' → K a w')
    (hbl : w.heap.size ≤ bk) (hw1 : bk + 2 ≤ wz.heap.size) (hn : k ≤ 100) (bS : S.length ≤ k) (HL : Hid (∀ (i : Nat) (v : Int), S[i]? = some (v, true) → L[i]? = some v))
    (HE2 : Hid (Env w w bk P R m lv ov fv S F L 0 true wz)) (HK : Hid (KeptSlots 65 61 encI 1 (bk + 2) wz B S))
    (c0 c1 c2 c3 c4 c5 c7 c8 c9 c10 c11 c12 c13 c14 c15 c16 c17 c18 c19 c20 c21 c22 c25 c26 c27 c28 c29 c30 c31 c32 c33 c34 c35 c36 c37 c38 c39 c40 c41 c42 c43 c44 c45 c46 c47 c48 c49 c50 c51 c52 c53 c54 c55 c56 c57 c58 c59 c60 c61 c62 c63 c64 c65 c66 c67 c68 c69 c70 c71 c72 c73 c74 c75 c76 c77 c78 c79 c80 c81 c82 c83 c84 c85 c86 c87 c88 c89 c90 c91 c92 c93 c94 c95 c96 c97 c98 c99 c100 c101 c102 c103 c104 c105 c106 c107 c108 c109 c110 c111 c112 c113 c114 c115 c116 c117 c118 c119 c120 c121 c122 c123 c124 c125 c126 c127 c128 c129 c130 c131 c132 c133 c134 c135 c136 c137 c138 c139 c140 c141 c142 c143 c144 c145 c146 c147 c148 c149 c150 c151 c152 c153 c154 c155 c156 c157 c158 c159 c160 c161 c162 c163 c165 c166 c167 c168 c169 c170 c171 c172 c173 c174 c175 c176 c177 c178 c179 c180 c181 c182 c183 c184 c185 c186 c187 c188 c189 c190 c191 c192 c193 c194 c195 c196 c197 c198 c199 c200 c201 c202 c203 c204 c205 c206 c207 c208 c209 c210 c211 c212 c213 c214 c215 c216 c217 c218 c219 c220 c221 c222 c223 c224 c225 c226 c227 c228 c229 c230 c231 c232 c233 c234 c235 c236 c237 c238 c239 c240 c241 c242 : Value) :
    Code.wp Try.prog rangeC (Exit.inBlock 3 (Exit.then K (bodyPostM Fence.wide 20 Try.prog Try.f3 fun e w' => e = Ending.returned (Value.bool true) ∧ Below w.heap.size w w')))
      { tmps := #[c0, c1, c2, c3, c4, c5, .pointer (some ⟨P, 0, none⟩), c7, c8, c9, c10, c11, c12, c13, c14, c15, c16, c17, c18, c19, c20, c21, c22, .pointer (some ⟨bk, 0, none⟩), .pointer (some ⟨bk + 1, 0, none⟩), c25, c26, c27, c28, c29, c30, c31, c32, c33, c34, c35, c36, c37, c38, c39, c40, c41, c42, c43, c44, c45, c46, c47, c48, c49, c50, c51, c52, c53, c54, c55, c56, c57, c58, c59, c60, c61, c62, c63, c64, c65, c66, c67, c68, c69, c70, c71, c72, c73, c74, c75, c76, c77, c78, c79, c80, c81, c82, c83, c84, c85, c86, c87, c88, c89, c90, c91, c92, c93, c94, c95, c96, c97, c98, c99, c100, c101, c102, c103, c104, c105, c106, c107, c108, c109, c110, c111, c112, c113, c114, c115, c116, c117, c118, c119, c120, c121, c122, c123, c124, c125, c126, c127, c128, c129, c130, c131, c132, c133, c134, c135, c136, c137, c138, c139, c140, c141, c142, c143, c144, c145, c146, c147, c148, c149, c150, c151, c152, c153, c154, c155, c156, c157, c158, c159, c160, c161, c162, c163, .func (.func 33) #[] #[.pointer (some ⟨B, 0, none⟩)], c165, c166, c167, c168, c169, c170, c171, c172, c173, c174, c175, c176, c177, c178, c179, c180, c181, c182, c183, c184, c185, c186, c187, c188, c189, c190, c191, c192, c193, c194, c195, c196, c197, c198, c199, c200, c201, c202, c203, c204, c205, c206, c207, c208, c209, c210, c211, c212, c213, c214, c215, c216, c217, c218, c219, c220, c221, c222, c223, c224, c225, c226, c227, c228, c229, c230, c231, c232, c233, c234, c235, c236, c237, c238, c239, c240, c241, c242], defers := [] } wz := by
  conv => arg 2; whnf
  refine (wpIn_wide (n := 20)).1 ?_
  refine wpIn_rangeFunc_ownG rfl (by omega) (gf := 33) (lb := #[.pointer (some ⟨B, 0, none⟩)]) rfl trivial (enters_of Try.func33 (by kernel_rfl) rfl)
    (all_stops Fence.wide 19 trivial rfl (by omega) B wz.heap.size _ [bk, bk + 1] S (by omega) wz (Nat.le_refl _) HK.out (by intro x hx; simp at hx; omega) (Nat.le_refl _)) keptK_t (keptK_b (Nat.le_refl _)) (Below.refl _ _) (fun _ => rfl)
    (fun pre W => Env w w bk P R m lv ov fv S F L (scan L (ons S) pre).1 (scan L (ons S) pre).2 W)
    (fun _ _ _ => False)
    (fun pre A B row hs hg hr => hs.abides hg hr (by omega)) (fun _ _ _ _ _ hs _ _ => hs) HE2.out ?a1 ?assign ?body ?done ?stop
  case assign =>
    intro l x W K hK
    gi_wp2
    exact hK
  case stop =>
    rintro D c pre W _ _ h _
    exact h.elim
  case body =>
    rintro l pre ⟨xi, xv⟩ W hE hlen
    have hle := scan_le L (ons S) _ pre rfl
    obtain ⟨⟨k0, s0⟩, hsc⟩ : ∃ st, scan L (ons S) pre = st := ⟨_, rfl⟩
    have hnew := scan_snoc L (ons S) pre (xi, xv)
    rw [hsc] at hE hle hnew
    simp only [ons_len] at hle
    have HNEW := Lib.hid hnew
    clear hsc hnew HE2 HK
    gi_wp2
    gi_loopg [] (max k0 S.length - k0) (fun g wr2 => ∃ q : Nat, k0 ≤ q ∧ q ≤ max k0 S.length ∧ g = (max k0 S.length) - q ∧ skip (ons S) k0 = skip (ons S) q ∧ Env w w bk P R m lv ov fv S F L q s0 wr2 ∧ Kept [bk, bk + 1] wz.heap.size W wr2 ∧ KeepsFrom wz.heap.size W wr2)
    case atStart => exact ⟨k0, Nat.le_refl _, by omega, rfl, rfl, hE, Kept.refl _ _ _, KeepsFrom.refl _ _⟩
    case round =>
      obtain ⟨q, hq0, hq1, rfl, hsk, hE2, hKe, hKF⟩ := hrel
      have HSKQ := Lib.hid hsk
      have HKe := Lib.hid hKe
      have HKF := Lib.hid hKF
      have HEE := Lib.hid hE2
      have ck := hE2.k.cell
      have fk := hE2.k.frozen
      have cs := hE2.s.cell
      have fs := hE2.s.frozen
      have cp := hE2.p.cell
      have hr2 := hE2.r
      obtain ⟨_, cl, co, _, _⟩ := hr2.cells
      have hqb : q ≤ 400 := by omega
      by_cases hqs : q < S.length
      · obtain ⟨gl, capl, hlv, _, _⟩ := ownsRow_pos hr2.rl (by omega)
        obtain ⟨go, capo, hov, _, _⟩ := ownsRow_pos hr2.ro (by omega)
        rw [hov] at co
        rw [hlv] at cl
        have hll : L.length = S.length := by have := hr2.rl.1; simpa using this
        obtain ⟨⟨v, t⟩, hp⟩ : ∃ p, S[q]? = some p := ⟨_, List.getElem?_eq_getElem hqs⟩
        obtain ⟨lq, hlq⟩ : ∃ lq, L[q]? = some lq := ⟨_, List.getElem?_eq_getElem (by omega)⟩
        have hrr := hr2
        rw [hov, hlv] at hrr
        obtain ⟨ct, _⟩ := hrr.cellO (j := q) (u := .bool t) (by simp [hp])
        obtain ⟨cq, _⟩ := hrr.cellL (j := q) (u := .int .i64 lq) (by simp [hlq])
        have d1 : decide ((q : Int) < (S.length : Int)) = true := by simp; omega
        have d0 : (0 : Int) ≤ (q : Int) := by omega
        have d2 : (q : Int) < (S.length : Int) := by omega
        have HLQ := Lib.hid hlq
        cases t with
        | false =>
          have hnx : skip (ons S) q = skip (ons S) (q + 1) := skip_next (ons_get hp)
          have HNX := Lib.hid hnx
          clear hlv hov hp hrr hsk hKe hKF hE2 hr2 hnx hlq hll
          gi_wp2
          refine wpRound_quiet (by kernel_rfl) ?hQ (by kernel_rfl) (by kernel_rfl) ?_
          case hQ => rintro ⟨_, _, h⟩; exact h
          repeat (go_big_quiet_step (fail))
          refine wpQuiet_nil ?_
          intro _ hw'
          obtain ⟨nq, hw''⟩ := hw'
          subst hw''
          gi_wp2
          gi_roundg (max k0 S.length - (q + 1))
          case measure => omega
          case rel =>
            exact ⟨q + 1, by omega, by omega, rfl, HSKQ.out.trans HNX.out, (HEE.out.drewN nq).setK (q + 1), HKe.out.trans (((Kept.refl _ _ _).drewN nq).setCell (.inl (by simp)) _), HKF.out.trans (((keepsOthers_drewN _ nq).trans (KeepsOthers.setCell _ _ _)).from _)⟩
        | true =>
          have hon : skip (ons S) k0 = q := hsk.trans (skip_on (ons_get hp))
          have HON := Lib.hid hon
          clear hlv hov hp hrr hsk hKe hKF hE2 hr2 hon hlq hll
          gi_wp2
          refine wpRound_quiet (by kernel_rfl) ?hQ (by kernel_rfl) (by kernel_rfl) ?_
          case hQ => rintro ⟨_, _, h⟩; exact h
          repeat (go_big_quiet_step (fail))
          refine wpQuiet_nil ?_
          intro _ hw'
          obtain ⟨nq, hw''⟩ := hw'
          subst hw''
          gi_wp2
          cases s0 with
          | false =>
            have e : stepB L (ons S) (k0, false) (xi, xv) = (q + 1, false) := by simp [stepB, HON.out]
            have HEQ := Lib.hid e
            clear e
            refine wpRound_tail 26 (by kernel_rfl) ?_ (by kernel_rfl) (by kernel_rfl) ?_
            · rintro ⟨_, _, h⟩; exact h
            simp only [List.take_succ_cons, List.take_zero, List.drop_succ_cons, List.drop_zero]
            repeat (go_big_quiet_step (fail))
            refine wpQuiet_nil ?_
            go_wp2
            gi_wp2
            exact ⟨HKF.out.trans ((((keepsOthers_drewN _ (nq + 1)).trans (KeepsOthers.setCell _ _ _)).trans (KeepsOthers.setCell _ _ _)).from _), HKe.out.trans ((((Kept.refl _ _ _).drewN (nq + 1)).setCell (.inl (by simp)) _).setCell (.inl (by simp)) _), by dsimp only; rw [HNEW.out, HEQ.out]; exact ((HEE.out.drewN (nq + 1)).setS false).setK (q + 1)⟩
          | true =>
            by_cases hxi : xi = q
            · have hb : ((xi : Int) == (q : Int)) = true := by simp [hxi]
              have HXI := Lib.hid hxi
              clear hxi
              by_cases hv : lq = xv
              · have hb2 : (lq == xv) = true := by simp [hv]
                have HV := Lib.hid hv
                clear hv
                have e : stepB L (ons S) (k0, true) (xi, xv) = (q + 1, true) := by simp [stepB, HON.out, HXI.out, HLQ.out, HV.out]
                have HEQ := Lib.hid e
                clear e
                refine wpRound_tail 26 (by kernel_rfl) ?_ (by kernel_rfl) (by kernel_rfl) ?_
                · rintro ⟨_, _, h⟩; exact h
                simp only [List.take_succ_cons, List.take_zero, List.drop_succ_cons, List.drop_zero]
                repeat (go_big_quiet_step (fail))
                refine wpQuiet_nil ?_
                go_wp2
                gi_wp2
                exact ⟨HKF.out.trans ((((keepsOthers_drewN _ (nq + 1)).trans (KeepsOthers.setCell _ _ _)).trans (KeepsOthers.setCell _ _ _)).from _), HKe.out.trans ((((Kept.refl _ _ _).drewN (nq + 1)).setCell (.inl (by simp)) _).setCell (.inl (by simp)) _), by dsimp only; rw [HNEW.out, HEQ.out]; exact ((HEE.out.drewN (nq + 1)).setS true).setK (q + 1)⟩
              · have hb2 : (lq == xv) = false := by simp [hv]
                have HV := Lib.hid hv
                clear hv
                have e : stepB L (ons S) (k0, true) (xi, xv) = (q + 1, false) := by simp [stepB, HON.out, HXI.out, HLQ.out, HV.out]
                have HEQ := Lib.hid e
                clear e
                refine wpRound_tail 26 (by kernel_rfl) ?_ (by kernel_rfl) (by kernel_rfl) ?_
                · rintro ⟨_, _, h⟩; exact h
                simp only [List.take_succ_cons, List.take_zero, List.drop_succ_cons, List.drop_zero]
                repeat (go_big_quiet_step (fail))
                refine wpQuiet_nil ?_
                go_wp2
                gi_wp2
                exact ⟨HKF.out.trans ((((keepsOthers_drewN _ (nq + 1)).trans (KeepsOthers.setCell _ _ _)).trans (KeepsOthers.setCell _ _ _)).from _), HKe.out.trans ((((Kept.refl _ _ _).drewN (nq + 1)).setCell (.inl (by simp)) _).setCell (.inl (by simp)) _), by dsimp only; rw [HNEW.out, HEQ.out]; exact ((HEE.out.drewN (nq + 1)).setS false).setK (q + 1)⟩
            · have hb : ((xi : Int) == (q : Int)) = false := by rw [beq_eq_false_iff_ne]; omega
              have HXI := Lib.hid hxi
              clear hxi
              have e : stepB L (ons S) (k0, true) (xi, xv) = (q + 1, false) := by simp [stepB, HON.out, HXI.out]
              have HEQ := Lib.hid e
              clear e
              refine wpRound_tail 26 (by kernel_rfl) ?_ (by kernel_rfl) (by kernel_rfl) ?_
              · rintro ⟨_, _, h⟩; exact h
              simp only [List.take_succ_cons, List.take_zero, List.drop_succ_cons, List.drop_zero]
              repeat (go_big_quiet_step (fail))
              refine wpQuiet_nil ?_
              go_wp2
              gi_wp2
              exact ⟨HKF.out.trans ((((keepsOthers_drewN _ (nq + 1)).trans (KeepsOthers.setCell _ _ _)).trans (KeepsOthers.setCell _ _ _)).from _), HKe.out.trans ((((Kept.refl _ _ _).drewN (nq + 1)).setCell (.inl (by simp)) _).setCell (.inl (by simp)) _), by dsimp only; rw [HNEW.out, HEQ.out]; exact ((HEE.out.drewN (nq + 1)).setS false).setK (q + 1)⟩
      · have hll : L.length = S.length := by have := hr2.rl.1; simpa using this
        obtain ⟨al, capl, hlv, _, _⟩ := ownsRow_shape hr2.rl
        rw [hlv] at cl
        have hon : skip (ons S) k0 = q := hsk.trans (skip_far (by rw [ons_len]; omega))
        have HON := Lib.hid hon
        have HLL := Lib.hid (List.getElem?_eq_none (l := L) (i := q) (by omega))
        have d1 : decide ((q : Int) < (S.length : Int)) = false := by simp; omega
        clear hlv hsk hKe hKF hE2 hr2 hon hll
        gi_wp2
        refine wpRound_quiet (by kernel_rfl) ?hQ (by kernel_rfl) (by kernel_rfl) ?_
        case hQ => rintro ⟨_, _, h⟩; exact h
        repeat (go_big_quiet_step (fail))
        refine wpQuiet_nil ?_
        intro _ hw'
        obtain ⟨nq, hw''⟩ := hw'
        subst hw''
        gi_wp2
        cases s0 with
        | false =>
          have e : stepB L (ons S) (k0, false) (xi, xv) = (q + 1, false) := by simp [stepB, HON.out]
          have HEQ := Lib.hid e
          clear e
          refine wpRound_tail 26 (by kernel_rfl) ?_ (by kernel_rfl) (by kernel_rfl) ?_
          · rintro ⟨_, _, h⟩; exact h
          simp only [List.take_succ_cons, List.take_zero, List.drop_succ_cons, List.drop_zero]
          repeat (go_big_quiet_step (fail))
          refine wpQuiet_nil ?_
          go_wp2
          gi_wp2
          exact ⟨HKF.out.trans ((((keepsOthers_drewN _ (nq + 1)).trans (KeepsOthers.setCell _ _ _)).trans (KeepsOthers.setCell _ _ _)).from _), HKe.out.trans ((((Kept.refl _ _ _).drewN (nq + 1)).setCell (.inl (by simp)) _).setCell (.inl (by simp)) _), by dsimp only; rw [HNEW.out, HEQ.out]; exact ((HEE.out.drewN (nq + 1)).setS false).setK (q + 1)⟩
        | true =>
          by_cases hxi : xi = q
          · have hb : ((xi : Int) == (q : Int)) = true := by simp [hxi]
            have HXI := Lib.hid hxi
            clear hxi
            have e : stepB L (ons S) (k0, true) (xi, xv) = (q + 1, false) := by simp [stepB, HON.out, HXI.out, HLL.out]
            have HEQ := Lib.hid e
            clear e
            refine wpRound_tail 26 (by kernel_rfl) ?_ (by kernel_rfl) (by kernel_rfl) ?_
            · rintro ⟨_, _, h⟩; exact h
            simp only [List.take_succ_cons, List.take_zero, List.drop_succ_cons, List.drop_zero]
            repeat (go_big_quiet_step (fail))
            refine wpQuiet_nil ?_
            go_wp2
            gi_wp2
            exact ⟨HKF.out.trans ((((keepsOthers_drewN _ (nq + 1)).trans (KeepsOthers.setCell _ _ _)).trans (KeepsOthers.setCell _ _ _)).from _), HKe.out.trans ((((Kept.refl _ _ _).drewN (nq + 1)).setCell (.inl (by simp)) _).setCell (.inl (by simp)) _), by dsimp only; rw [HNEW.out, HEQ.out]; exact ((HEE.out.drewN (nq + 1)).setS false).setK (q + 1)⟩
          · have hb : ((xi : Int) == (q : Int)) = false := by rw [beq_eq_false_iff_ne]; omega
            have HXI := Lib.hid hxi
            clear hxi
            have e : stepB L (ons S) (k0, true) (xi, xv) = (q + 1, false) := by simp [stepB, HON.out, HXI.out]
            have HEQ := Lib.hid e
            clear e
            refine wpRound_tail 26 (by kernel_rfl) ?_ (by kernel_rfl) (by kernel_rfl) ?_
            · rintro ⟨_, _, h⟩; exact h
            simp only [List.take_succ_cons, List.take_zero, List.drop_succ_cons, List.drop_zero]
            repeat (go_big_quiet_step (fail))
            refine wpQuiet_nil ?_
            go_wp2
            gi_wp2
            exact ⟨HKF.out.trans ((((keepsOthers_drewN _ (nq + 1)).trans (KeepsOthers.setCell _ _ _)).trans (KeepsOthers.setCell _ _ _)).from _), HKe.out.trans ((((Kept.refl _ _ _).drewN (nq + 1)).setCell (.inl (by simp)) _).setCell (.inl (by simp)) _), by dsimp only; rw [HNEW.out, HEQ.out]; exact ((HEE.out.drewN (nq + 1)).setS false).setK (q + 1)⟩
  case done =>
    rintro D xs W hD rfl hE hK
    obtain ⟨kk, hkk, hs, hsk0⟩ := scan_all HL.out
    rw [hs] at hE
    have HSK0 := Lib.hid hsk0
    have hDw : w.heap.size ≤ D := by omega
    clear hs hsk0 HE2 HK
    refine hrest _ _ ?_
    conv => arg 2; whnf
    go_wp2
    go_loopg [] (S.length - kk) (fun g wr2 => ∃ q : Nat, kk ≤ q ∧ q ≤ S.length ∧ g = S.length - q ∧ skip (ons S) kk = skip (ons S) q ∧ Env w w bk P R m lv ov fv S F L q true wr2 ∧ wr2.heap[D]? = some (.deferred (some [])))
    case atStart => exact ⟨kk, Nat.le_refl _, hkk, rfl, rfl, hE, hK⟩
    case round =>
      obtain ⟨q, hq0, hq1, rfl, hsk, hE2, hK2⟩ := hrel
      have HSKQ := Lib.hid hsk
      have HEE := Lib.hid hE2
      have HK2 := Lib.hid hK2
      have ck := hE2.k.cell
      have fk := hE2.k.frozen
      have cs := hE2.s.cell
      have cp := hE2.p.cell
      have hr2 := hE2.r
      obtain ⟨_, cl, co, _, _⟩ := hr2.cells
      obtain ⟨al, capl, hlv, _, _⟩ := ownsRow_shape hr2.rl
      rw [hlv] at cl
      have hqb : q ≤ 400 := by omega
      by_cases hqs : q < S.length
      · obtain ⟨go, capo, hov, _, _⟩ := ownsRow_pos hr2.ro (by omega)
        rw [hov] at co
        obtain ⟨⟨v, t⟩, hp⟩ : ∃ p, S[q]? = some p := ⟨_, List.getElem?_eq_getElem hqs⟩
        have hrr := hr2
        rw [hov] at hrr
        obtain ⟨ct, _⟩ := hrr.cellO (j := q) (u := .bool t) (by simp [hp])
        have d1 : decide ((q : Int) < (S.length : Int)) = true := by simp; omega
        have d0 : (0 : Int) ≤ (q : Int) := by omega
        have d2 : (q : Int) < (S.length : Int) := by omega
        cases t with
        | true =>
          have h1 := skip_on (ons_get hp)
          have h2 := HSK0.out
          omega
        | false =>
          have hnx : skip (ons S) q = skip (ons S) (q + 1) := skip_next (ons_get hp)
          have HNX := Lib.hid hnx
          clear hlv hov hp hrr hsk hE2 hr2 hnx hK2 hE hK
          go_wp2
          go_quiet (fail)
          go_wp2
          go_roundg (S.length - (q + 1))
          case measure => omega
          case rel =>
            exact ⟨q + 1, by omega, by omega, rfl, HSKQ.out.trans HNX.out, (HEE.out.drewN nq).setK (q + 1), (KeepsOthers.setCell _ _ _).same D _ HK2.out rfl⟩
      · obtain rfl : q = S.length := by omega
        have d1 : decide ((S.length : Int) < (S.length : Int)) = false := by simp
        clear hlv hsk hE2 hr2 hK2 hE hK
        go_wp2
        go_quiet (fail)
        go_wp2
        go_quiet (fail)
        go_wp2
        refine ⟨by simp, .inl ⟨_, _, rfl, run_takeDeferred HK2.out, ?_⟩⟩
        exact ⟨_, results_tmp rfl _ _ _, rfl, (below_drewN (below_drewN HEE.out.b _) _).trans (belowK_b (w := w) (Nat.le_refl _) _ D (.deferred (some [])) _ hDw (by exact HK2.out) rfl rfl)⟩
end Go.Proofs.Ytiicbmgompnehaa
