/-
  The document's waiters: Requeue.
-/
import Derived.Test.YtiffgkmmibhklaaWqWake
namespace Go.Proofs.Ytiffgkmmibhklaa
open Go.RowKit

/-- One who waited for something waits for t, behind all. -/
def sentL (L : List Wt) (j : Nat) (t : Int) : List Wt := L.eraseIdx j ++ [((L.getD j (0, 0, 0)).1, t, (L.getD j (0, 0, 0)).2.2)]
/-- Who waits behind a Requeue of at most k; how many were sent. -/
def reqL (f t e : Int) : Nat → List Wt → List Wt
  | 0, L => L
  | k + 1, L => if keyI L f < 0 ∨ e ≤ cntK L t then L else reqL f t e k (sentL L (keyI L f).toNat t)
def reqN (f t e : Int) : Nat → List Wt → Nat
  | 0, _ => 0
  | k + 1, L => if keyI L f < 0 ∨ e ≤ cntK L t then 0 else reqN f t e k (sentL L (keyI L f).toNat t) + 1
theorem req_none {f t e : Int} {L : List Wt} (h : keyI L f < 0 ∨ e ≤ cntK L t) : ∀ k, reqN f t e k L = 0 ∧ reqL f t e k L = L
  | 0 => ⟨rfl, rfl⟩
  | k + 1 => by simp only [reqN, reqL]; rw [if_pos h, if_pos h]; exact ⟨rfl, rfl⟩
theorem req_some {f t e : Int} {L : List Wt} {j : Nat} (h : keyI L f = j) (he : ¬ e ≤ cntK L t) (k : Nat) : reqN f t e (k + 1) L = reqN f t e k (sentL L j t) + 1 ∧ reqL f t e (k + 1) L = reqL f t e k (sentL L j t) := by
  have h0 : ¬ (keyI L f < 0 ∨ e ≤ cntK L t) := by
    rintro (h1 | h1)
    · omega
    · exact he h1
  simp only [reqN, reqL]
  rw [if_neg h0, if_neg h0, h, Int.toNat_natCast]
  exact ⟨rfl, rfl⟩
theorem key_at {L : List Wt} {a : Int} {j : Nat} (h : keyI L a = j) : ∃ hj : j < L.length, L[j].2.1 = a := by
  rcases place_cases (fun x : Wt => decide (x.2.1 = a)) L with ⟨h1, _⟩ | ⟨k, hk, h1, h2⟩
  · unfold keyI at h
    omega
  · have : k = j := by unfold keyI at h; omega
    subst this
    exact ⟨hk, by simpa using h2⟩
theorem cnt_append (A B : List Wt) (a : Int) : cntK (A ++ B) a = cntK A a + cntK B a := by simp [cntK]
theorem cnt_erase {L : List Wt} {a : Int} {j : Nat} (hj : j < L.length) : cntK L a = cntK (L.eraseIdx j) a + if L[j].2.1 = a then 1 else 0 := by
  rw [List.eraseIdx_eq_take_drop_succ, cnt_append]
  have e : L = L.take j ++ (L[j] :: L.drop (j + 1)) := by rw [← List.drop_eq_getElem_cons hj, List.take_append_drop]
  have h1 : cntK L a = cntK (L.take j) a + cntK (L[j] :: L.drop (j + 1)) a := by rw [← cnt_append, ← e]
  rw [h1]
  unfold cntK
  rw [List.filter_cons]
  by_cases h : L[j].2.1 = a <;> simp [h]
  omega
/-- .. of those who wait for what one is sent from there is one less. -/
theorem cnt_sent {L : List Wt} {f t : Int} {j : Nat} (h : keyI L f = j) (hft : f ≠ t) : cntK L f = cntK (sentL L j t) f + 1 ∧ (sentL L j t).length = L.length := by
  obtain ⟨hj, hk⟩ := key_at h
  have h1 := cnt_erase (a := f) hj
  rw [if_pos hk] at h1
  constructor
  · unfold sentL
    rw [cnt_append, h1]
    have : cntK [((L.getD j (0, 0, 0)).1, t, (L.getD j (0, 0, 0)).2.2)] f = 0 := by
      unfold cntK
      have : ¬ t = f := fun e => hft e.symm
      simp [this]
    omega
  · unfold sentL
    rw [List.length_append, List.length_eraseIdx, if_pos hj]
    simp
    omega

set_option maxRecDepth 100000 in
set_option maxHeartbeats 3200000 in
theorem rreq_any {w : World} {b : Nat} {X : List Nat} {m e : Int} {L : List Wt} (h : R8 w b X m e L) (f t n : Int) (hft : f ≠ t) (hL : L.length ≤ 1000000) :
    Calls Try.prog 17 #[.pointer (some ⟨b, 0, none⟩), .int .i64 f, .int .i64 t, .int .i64 n] w fun r w' => r = .returned (.int .i64 (reqN f t e n.toNat L : Nat)) ∧
      ∃ X', R8 w' b X' m e (reqL f t e n.toNat L) ∧ Turned X w w' ∧ Newer X w.heap.size X' := by
  obtain ⟨ii, hi, hz0, hz1, hz2⟩ := info_parts infoW
  have HH := Lib.hid h
  have hb := h.lt b h.head
  have hne : (f != t) = true := by simpa using hft
  have heq : (f == t) = false := by simpa using hft
  clear h
  go_enter Try.func17, Try.ntmps17
  go_wp2
  go_loopg [9] (cntK L f) (fun g o wr => ∃ (M : List Wt) (p : Nat) (X' : List Nat), g = cntK M f ∧ o = .int .i64 p ∧ M.length = L.length ∧ p + cntK M f ≤ L.length ∧ Hid (reqN f t e n.toNat L = p + reqN f t e (n.toNat - p) M ∧ reqL f t e n.toNat L = reqL f t e (n.toNat - p) M) ∧
    Hid (R8 wr b X' m e M) ∧ Hid (Turned X w wr ∧ Newer X w.heap.size X'))
  case atStart => exact ⟨L, 0, X, rfl, rfl, rfl, by have := cnt_le L f; omega, Lib.hid ⟨by simp, by simp⟩, HH, Lib.hid ⟨Turned.refl _ _, Newer.refl _ _⟩⟩
  case round =>
    obtain ⟨M, p, X', rfl, rfl, hml, hpc, HE, HR, HT⟩ := hrel
    have HF := Lib.hid (fun q => rfirst_any (w := wr.drewN q) (HR.out.drewN q) f)
    have HC := Lib.hid (fun q => rcount_any (w := wr.drewN q) (HR.out.drewN q) t)
    have fin : reqN f t e (n.toNat - p) M = 0 → reqL f t e (n.toNat - p) M = M → (reqN f t e n.toNat L = p) ∧ ∀ q, ∃ X', R8 (wr.drewN q) b X' m e (reqL f t e n.toNat L) ∧ Turned X w (wr.drewN q) ∧ Newer X w.heap.size X' := by
      intro h1 h2
      rw [HE.out.1, HE.out.2, h1, h2]
      exact ⟨rfl, fun q => ⟨X', HR.out.drewN q, HT.out.1.drewN q, HT.out.2⟩⟩
    have HFin := Lib.hid fin
    obtain ⟨a', cap', c1, c2, hrw⟩ := HR.out.rows
    clear fin hrw
    by_cases hn : (p : Int) < n
    · have n1 : decide ((p : Int) < n) = true := by simpa using hn
      obtain ⟨k, hk⟩ : ∃ k, n.toNat - p = k + 1 := ⟨n.toNat - p - 1, by omega⟩
      rcases Int.lt_or_le (keyI M f) 0 with hneg | hpos
      · have hw := Lib.hid (req_none (t := t) (e := e) (.inl hneg) (n.toNat - p))
        obtain ⟨q, hq⟩ : ∃ q, keyI M f = q := ⟨_, rfl⟩
        rw [hq] at HF hneg
        have z0 : decide (0 ≤ q) = false := by simp; omega
        clear hq
        go_wp2_with fail
        go_quiet ((go_at_call 32; exact Calls.quiet_of_same (HF.out _)))
        go_wp2
        go_ret
        exact ⟨by rw [(HFin.out hw.out.1 hw.out.2).1]; rfl, (HFin.out hw.out.1 hw.out.2).2 _⟩
      · obtain ⟨j, hj⟩ := Int.eq_ofNat_of_zero_le hpos
        have z0 : decide ((0 : Int) ≤ (j : Int)) = true := by simp
        by_cases hc : e ≤ cntK M t
        · have hw := Lib.hid (req_none (f := f) (.inr hc) (n.toNat - p))
          obtain ⟨q, hq⟩ : ∃ q, cntK M t = q := ⟨_, rfl⟩
          rw [hj] at HF
          rw [hq] at HC hc
          have z1 : decide ((q : Int) < e) = false := by simp; omega
          clear hj hq hpos
          go_wp2_with fail
          go_quiet (first | (go_at_call 32; exact Calls.quiet_of_same (HF.out _)) | (go_at_call 29; exact Calls.quiet_of_same (HC.out _)))
          go_wp2
          go_ret
          exact ⟨by rw [(HFin.out hw.out.1 hw.out.2).1]; rfl, (HFin.out hw.out.1 hw.out.2).2 _⟩
        · obtain ⟨hjl, hjk⟩ := key_at hj
          have hw := req_some hj hc k
          have hs := cnt_sent hj hft
          have HTk := Lib.hid (fun q => rtake8_at (w := wr.drewN q) (HR.out.drewN q) j hjl (by omega))
          have hMe : (M.eraseIdx j).length = M.length - 1 := by rw [List.length_eraseIdx, if_pos hjl]
          obtain ⟨x, hx⟩ : ∃ x, M.getD j (0, 0, 0) = x := ⟨_, rfl⟩
          have hsl : sentL M j t = M.eraseIdx j ++ [(x.1, t, x.2.2)] := by unfold sentL; rw [hx]
          rw [hx] at HTk
          rw [hsl] at hw hs
          obtain ⟨x1, x2, x3⟩ := x
          simp only at hw hs
          simp only [aggW] at HTk
          rw [hk, hw.1, hw.2] at HE
          obtain ⟨M', hM'⟩ : ∃ M', M.eraseIdx j = M' := ⟨_, rfl⟩
          rw [hM'] at HE HTk hs hMe
          have HS := Lib.hid hs
          have hM'l : M'.length ≤ 1000000 := by omega
          have HK := Lib.hid hk
          obtain ⟨q, hq⟩ : ∃ q, cntK M t = q := ⟨_, rfl⟩
          rw [hj] at HF
          rw [hq] at HC hc
          have z1 : decide ((q : Int) < e) = true := by simp; omega
          have p1 : IntKind.i64.wrap ((p : Int) + 1) = (p : Int) + 1 := by rw [IntKind.wrap_i64]; omega
          have hm1 : M'.length + 1 = L.length := by omega
          have HM1 := Lib.hid hm1
          have hcp : 0 < cntK M f := by have := HS.out.1; omega
          clear hj hq hpos hw hs hx hsl hMe hM' hk hjk hc hm1
          go_wp2_with fail
          go_quiet (first | (go_at_call 32; exact Calls.quiet_of_same (HF.out _)) | (go_at_call 29; exact Calls.quiet_of_same (HC.out _)))
          go_wp2_with fail
          with_reducible refine (HF.out _).mono ?_
          rintro e w1 ⟨rfl, rfl⟩
          go_wp2_with fail
          with_reducible refine (HTk.out _).mono ?_
          rintro e w1 ⟨rfl, X2, r1, t1, n2⟩
          have T1 : Turned X w w1 := (HT.out.1.drewN nq).trans t1 HT.out.2
          have N2 : Newer X w.heap.size X2 := HT.out.2.trans n2 HT.out.1.size
          have hxl : ∀ k ∈ X2, k < w1.heap.size := r1.lt
          obtain ⟨W, hW⟩ : ∃ W, w1.alloc (.cells #[.int .i64 x1, .int .i64 t, .int .u64 x3] tW) = W := ⟨_, rfl⟩
          have hb1 := r1.lt b r1.head
          have tW1 : Turned [] w1 W := hW ▸ (Turned.refl [] w1).alloc _
          have S1 : W.heap.size = w1.heap.size + 1 := by rw [← hW]; simp
          have K0 : W.heap[w1.heap.size]? = some (.cells #[.int .i64 x1, .int .i64 t, .int .u64 x3] tW (0, 0)) := hW ▸ heap_alloc_new w1 _
          have rW := r1.keep tW1 (by simp)
          obtain ⟨v, h1, h2, h3⟩ := rW
          obtain ⟨a, cap, hv, hc1, hc2⟩ := ownsRow_shape h2
          subst hv
          obtain ⟨k0, k1, k2, _⟩ := cellsT K0
          have H1 := Lib.hid h1
          have H2 := Lib.hid h2
          have H3 := Lib.hid h3
          have e1 : W.cell? ⟨b, 2, none⟩ = some (.slice a M'.length cap) := (cellsT h1).2.2.1
          have g1 : W.frozen? ⟨b, 2, none⟩ = false := (cellsT h1).2.2.2 2
          have n1' : b < W.heap.size := by omega
          have TW := Lib.hid (show Turned X w W from T1.trans tW1 (by intro k hk; simp at hk))
          have NW := Lib.hid N2
          have HS1 := Lib.hid S1
          have HW := Lib.hid hW
          clear c1 c2 T1 N2 tW1 K0 h1 h2 h3 r1 t1 n2 hW hxl S1
          go_wp2_with fail
          rw [HW.out]
          go_region_law (refine step_append_any _ rfl _ _ 46 rfl tW ii (.agg #[.int .i64 0, .int .i64 0, .int .u64 0]) 3 24 Try.underlying46 hi hz0 hz1 hz2 rfl (by decide) _ M'.length (cellsOf encW M') rfl (H2.out.alloc _) (some ⟨W.heap.size, 0, none⟩) 1 1 [.int .i64 x1, .int .i64 t, .int .u64 x3] rfl rfl (by simp) (by intro ad had; cases had; exact three_new_at _ W.heap.size rfl _ _ _ _) (by intro u hu; simp at hu; rcases hu with rfl | rfl | rfl <;> rfl) (by unfold maxLen; omega) (by omega) ?_; intro a' cap' W1 hown hgrow hnew; have R := LAt.appended (enc := encW) (cs := csT m e) (i := 2) (v' := .slice a' (M'.length + 1) cap') (M := M' ++ [(x1, t, x3)]) (by decide) rfl H1.out H2.out (((Turned.refl [] W).alloc _).drew) hgrow (by rw [cellsOf_snoc, List.length_append]; exact hown) hnew; have d1 := (cellsT R.1).2.2.1; have d2 := (cellsT R.1).2.2.2 2; have RR := Lib.hid R.2; clear hown hgrow hnew R)
          all_goals
            go_wp2
            go_roundg (cntK (M' ++ [(x1, t, x3)]) f)
            case measure => have := HS.out.1; omega
            case rel =>
              obtain ⟨q1, q2, q3⟩ := RR.out
              have hX := H3.out
              subst hX
              refine ⟨M' ++ [(x1, t, x3)], p + 1, _, rfl, by go_num, by simp; exact HM1.out, by have := HS.out.1; omega, Lib.hid ?_, Lib.hid q1, Lib.hid ⟨TW.out.trans q2 NW.out, NW.out.trans q3 TW.out.size⟩⟩
              have hk1 : n.toNat - (p + 1) = k := by have := HK.out; omega
              rw [hk1, HE.out.1, HE.out.2]
              exact ⟨by omega, rfl⟩
    · have n1 : decide ((p : Int) < n) = false := by simpa using hn
      have hk : n.toNat - p = 0 := by omega
      have HK := Lib.hid hk
      clear hk HF HC
      go_wp2_with fail
      go_quiet (fail)
      go_wp2
      go_ret
      exact ⟨by rw [(HFin.out (by rw [HK.out]; rfl) (by rw [HK.out]; rfl)).1]; rfl, (HFin.out (by rw [HK.out]; rfl) (by rw [HK.out]; rfl)).2 _⟩
set_option maxRecDepth 100000 in
set_option maxHeartbeats 800000 in
theorem rreq_eq {w : World} {b : Nat} (f n : Int) :
    Calls Try.prog 17 #[.pointer (some ⟨b, 0, none⟩), .int .i64 f, .int .i64 f, .int .i64 n] w fun r w' => r = .returned (.int .i64 0) ∧ ∃ q, w' = w.drewN q := by
  have hne : (f != f) = false := by simp
  have heq : (f == f) = true := by simp
  go_enter Try.func17, Try.ntmps17
  go_wp2
  go_loopg [9] 0 (fun g o wr => g = 0 ∧ o = .int .i64 0 ∧ wr = w)
  case atStart => exact ⟨rfl, rfl, rfl⟩
  case round =>
    obtain ⟨rfl, rfl, rfl⟩ := hrel
    go_wp2_with fail
    go_quiet (fail)
    go_wp2
    go_ret
    exact ⟨rfl, _, rfl⟩
end Go.Proofs.Ytiffgkmmibhklaa
