/-
  WaitqRuns: the walk, given what is said of the program (made by mk_wq.py).
-/
import Derived.Test.YtiffgkmmibhklaaWqDuo
import Derived.Deep.DeepCutAuto
import Derived.Deep.CutBlock
import Derived.Deep.RegionHeld3
namespace Go.Proofs.Ytiffgkmmibhklaa
open Go.RowKit Go.Maps Go.Shelf

/-- The keys of the first k deeds. -/
def keysOf (E : Nat → Dw) (k : Nat) : List Int := (List.range k).map fun i => (E i).2.1.2.1
theorem keysOf_len (E : Nat → Dw) (k : Nat) : (keysOf E k).length = k := by simp [keysOf]
theorem keysOf_succ (E : Nat → Dw) (k : Nat) : keysOf E (k + 1) = keysOf E k ++ [(E k).2.1.2.1] := by simp [keysOf, List.range_succ]
theorem keysOf_at (E : Nat → Dw) {k i : Nat} (h : i < k) : (keysOf E k).getD i 0 = (E i).2.1.2.1 := by simp [keysOf, h]

set_option maxRecDepth 100000 in
set_option maxHeartbeats 8000000 in
theorem wruns_walk (S : WqSaid) (m0 m1 m2 : Int) (ao : Option Addr) (b off n cap : Nat) (E : Nat → Dw) (w : World) (hn : n ≤ 80) (hm0 : isI m0) (hao : 0 < n → ao = some ⟨b, off, none⟩ ∧ b < w.heap.size)
    (hE : ∀ i, i < n → w.cell? ⟨b, off + i * 5, none⟩ = some (.int .u8 (E i).1) ∧ w.cell? ⟨b, off + i * 5 + 1, none⟩ = some (.int .i64 (E i).2.1.1) ∧ w.cell? ⟨b, off + i * 5 + 2, none⟩ = some (.int .i64 (E i).2.1.2.1) ∧ w.cell? ⟨b, off + i * 5 + 3, none⟩ = some (.int .u64 (E i).2.1.2.2) ∧ w.cell? ⟨b, off + i * 5 + 4, none⟩ = some (.int .i64 (E i).2.2))
    (hW : ∀ i, i < n → 0 ≤ (E i).1 ∧ wfW (E i).2.1 ∧ isI (E i).2.2) :
    Calls Try.prog 3 #[.agg #[.int .i64 m0, .int .i64 m1, .int .i64 m2], .slice ao n cap] w fun r w' => r = .returned (.bool true) ∧ Turned [] w w' := by
  have HE := Lib.hid hE
  have HAO := Lib.hid hao
  have HWf := Lib.hid hW
  obtain ⟨ii, hi, hz0, hz1, hz2⟩ := info_parts infoInt
  clear hE hao hW
  obtain ⟨Wb, hWb⟩ : ∃ Wb, w.alloc (.cells #[.int .i64 m0, .int .i64 m1, .int .i64 m2] 22) = Wb := ⟨_, rfl⟩
  have kb : Wb.heap[w.heap.size]? = some (.cells #[.int .i64 m0, .int .i64 m1, .int .i64 m2] 22 (0, 0)) := hWb ▸ heap_alloc_new w _
  have KB := Lib.hid kb
  have TB := Lib.hid (show Turned [] w Wb from hWb ▸ (Turned.refl [] w).alloc _)
  have AW := Lib.hid (awake8 S Wb)
  have HWb := Lib.hid hWb
  clear kb hWb
  go_enter Try.func3, Try.ntmps3
  go_wp2_with fail
  rw [HWb.out]
  refine AW.out.mono ?_
  rintro e w0 ⟨rfl, t0⟩
  have T0 := Lib.hid (TB.out.trans t0 (Newer.refl _ _))
  have K0 := Lib.hid (show w0.drew.heap[w.heap.size]? = _ from t0.same KB.out (by simp))
  obtain ⟨c0, c1, c2, _⟩ := cellsT K0.out
  clear t0 AW KB TB
  go_wp2_with fail
  go_region_held3 (fun V => V.cell? ⟨w.heap.size, 0, none⟩ = some (.int .i64 m0) ∧ V.cell? ⟨w.heap.size, 1, none⟩ = some (.int .i64 m1) ∧ V.cell? ⟨w.heap.size, 2, none⟩ = some (.int .i64 m2))
    (first | exact ⟨g0, g1, g2⟩ | exact ⟨f0, f1, f2⟩ | exact ⟨c0, c1, c2⟩)
    (first
      | (go_at_call 6
         refine (S.new m0 m1 m2 _ hm0).mono ?_
         rintro e V1 ⟨a, X0, rfl, p1, t1, n1⟩
         have K1 := Lib.hid (t1.same K0.out (by simp))
         obtain ⟨f0, f1, f2, _⟩ := cellsT K1.out
         have P0 := Lib.hid (And.intro p1 (And.intro t1 n1))
         clear p1 t1 n1)
      | (go_at_call 7
         refine (rnew8_any m1 m2 _).mono ?_
         rintro e V2 ⟨rfl, p1, t1⟩
         have K2 := Lib.hid (t1.same K1.out (by simp))
         obtain ⟨g0, g1, g2, _⟩ := cellsT K2.out
         have P1 := Lib.hid (And.intro p1 t1)
         clear p1 t1))
  obtain ⟨mm, hmm⟩ : ∃ q, min (max m1 0) 4096 = q := ⟨_, rfl⟩
  obtain ⟨me, hme⟩ : ∃ q, min (max m2 0) 4096 = q := ⟨_, rfl⟩
  obtain ⟨d, hd⟩ : ∃ d, V1.heap.size = d := ⟨_, rfl⟩
  have hXB : (∀ j ∈ X0, j < V2.heap.size) ∧ d < V2.heap.size ∧ w.heap.size ≤ V2.heap.size := by
    obtain ⟨p1, t1, n1⟩ := P0.out
    obtain ⟨p2, t2⟩ := P1.out
    have s1 := t1.size
    have s2 := t2.size
    have s0 := T0.out.size
    have hw0 : w0.drew.heap.size = w0.heap.size := rfl
    have := LAt.lt p2 d (by rw [← hd]; exact List.mem_singleton.2 rfl)
    refine ⟨fun j hj => ?_, this, by omega⟩
    have := S.lt p1 j hj
    omega
  have D0 : WD S V2.heap.size w V2 a d mm me X0 [d] 0 [] (.slice none 0 0) [] := by
    obtain ⟨p1, t1, n1⟩ := P0.out
    obtain ⟨p2, t2⟩ := P1.out
    rw [hmm, hme] at p1 p2
    rw [hd] at p2
    have s0 := T0.out.size
    have hw0 : w0.drew.heap.size = w0.heap.size := rfl
    have s1 := t1.size
    refine ⟨S.keep p1 t2 (by simp), p2, fun j hj hx => ?_, fun j hj => ?_, fun j hj => ?_, World.ownsRow_nil _ _ _ _, by simp [Value.ownBlock], (T0.out.drew.trans t1 (Newer.refl _ _)).trans t2 (Newer.refl _ _)⟩
    · have h1 := S.lt p1 j hx
      have h2 : j = d := List.mem_singleton.1 hj
      omega
    · have := n1 j hj
      omega
    · have h2 : j = d := List.mem_singleton.1 hj
      omega
  have HD0 := Lib.hid D0
  have HXB := Lib.hid hXB
  obtain ⟨B, hB⟩ : ∃ B, V2.heap.size = B := ⟨_, rfl⟩
  rw [hB] at HD0 HXB
  have HB := Lib.hid hB
  rw [hd]
  clear D0 hXB P0 P1 K0 K1 K2 T0 c0 c1 c2 f0 f1 f2 g0 g1 g2 hmm hme hd hB
  go_wp2_with fail
  go_loopw [7, 38] (fun kvv i wr => ∃ k : Nat, k ≤ n ∧ i = .int .i64 k ∧ Hid (WD S B w wr a d mm me X0 [d] 0 [] kvv (keysOf E k)) ∧ Hid (B ≤ wr.heap.size)) (fun _ i _ => n - (intOf i).toNat)
  case atStart => exact ⟨0, Nat.zero_le _, rfl, HD0, Lib.hid (by rw [HB.out]; exact Nat.le_refl _)⟩
  case round =>
    obtain ⟨k, hk, rfl, HD, HBs⟩ := hrel
    by_cases hlt : k < n
    · obtain ⟨rfl, hb⟩ := HAO.out (by omega)
      have hcell := HE.out k hlt
      have hbb := HD.out.t.below (B := w.heap.size) (by simp) (Nat.le_refl _)
      rw [← hbb.cell (p := ⟨b, off + k * 5, none⟩) hb, ← hbb.cell (p := ⟨b, off + k * 5 + 1, none⟩) hb, ← hbb.cell (p := ⟨b, off + k * 5 + 2, none⟩) hb, ← hbb.cell (p := ⟨b, off + k * 5 + 3, none⟩) hb, ← hbb.cell (p := ⟨b, off + k * 5 + 4, none⟩) hb] at hcell
      obtain ⟨z0, z1, z2, z3, z4⟩ := hcell
      have hks := keysOf_succ E k
      obtain ⟨⟨dk, ⟨d1, d2, d3⟩, dn⟩, hdd⟩ : ∃ z, E k = z := ⟨_, rfl⟩
      rw [hdd] at hks
      simp only [hdd] at z0 z1 z2 z3 z4
      simp only at hks
      have HKS := Lib.hid hks
      have td : Turned [] wr (wr.alloc (.cells #[.int .u8 dk, .int .i64 d1, .int .i64 d2, .int .u64 d3, .int .i64 dn] tDd)) := (Turned.refl [] wr).alloc _
      have hD1 := HD.out.later td
      have hrow := hD1.k
      rw [keysOf_len] at hrow
      obtain ⟨ka, kc, hkv, _, _⟩ := ownsRow_shape hrow
      subst hkv
      have HD1 := Lib.hid hD1
      have HR := Lib.hid hrow
      have l1 : (k : Int) < n := by omega
      have hs1 : B ≤ wr.heap.size := HBs.out
      clear hks hdd hbb td hD1 hrow
      go_wp2_with (at_builtin; refine wpList_append_own _ rfl _ _ 29 rfl B 3 ii (.int .i64 0) 1 8 Try.underlying29 hi hz0 hz1 hz2 rfl (by decide) _ _ _ rfl (HR.out.alloc _) ⟨wr.heap.size + 1, 0, none⟩ 1 1 [.int .i64 d2] rfl rfl ?c1 ?c2 ?c3 ?c4 ?c5 ?_)
      case c2 => rfl
      case c3 => unfold maxLen; omega
      case c4 => omega
      case c5 => omega
      intro v' W2 hown2 hgrow _
      have hG := WD.grow HD1.out HXB.out.1 (fun j hj => by have := List.mem_singleton.1 hj; have := HXB.out.2.1; omega) HXB.out.2.2 ((Turned.refl [] _).alloc _) hgrow (z := d2) (by rw [keysOf_len]; exact hown2)
      have hs2 := hgrow.size
      have HG := Lib.hid hG
      clear hown2 hgrow hG
      go_wp2
      go_roundw
      case rel => exact ⟨k + 1, by omega, by go_num, by rw [HKS.out]; exact HG, Lib.hid (by simp at hs2; omega)⟩
      case measure => simp [intOf]; omega
    · obtain rfl : k = n := by omega
      obtain ⟨Ks, hKs⟩ : ∃ Ks, keysOf E k = Ks := ⟨_, rfl⟩
      have HKs := Lib.hid hKs
      rw [hKs] at HD
      have hKl : Ks.length = k := by rw [← hKs, keysOf_len]
      have hrow := HD.out.k
      obtain ⟨ka, kc, hkv, _, _⟩ := ownsRow_shape hrow
      subst hkv
      rw [hKl] at HD ⊢
      have HKl := Lib.hid hKl
      clear hKs hKl hrow HD0 HXB HB HBs
      go_wp2_with fail
      go_loopw [51] (fun i wx => ∃ p : Nat, p ≤ k ∧ i = .int .i64 p ∧ ∃ X Y c L, Hid (WD S B w wx a d mm me X Y c L (.slice ka k kc) Ks) ∧ Hid (c ≤ 100 * p ∧ L.length ≤ p)) (fun i _ => k - (intOf i).toNat)
      case atStart => exact ⟨0, Nat.zero_le _, rfl, X0, [d], 0, [], HD, Lib.hid ⟨by omega, by simp⟩⟩
      case round =>
        clear HD
        obtain ⟨p, hp, rfl, X, Y, c, L, HD, HF⟩ := hrel
        by_cases hlt : p < k
        · obtain ⟨rfl, hb⟩ := HAO.out (by omega)
          have hcell := HE.out p hlt
          have hwf := HWf.out p hlt
          have hbb := HD.out.t.below (B := w.heap.size) (by simp) (Nat.le_refl _)
          rw [← hbb.cell (p := ⟨b, off + p * 5, none⟩) hb, ← hbb.cell (p := ⟨b, off + p * 5 + 1, none⟩) hb, ← hbb.cell (p := ⟨b, off + p * 5 + 2, none⟩) hb, ← hbb.cell (p := ⟨b, off + p * 5 + 3, none⟩) hb, ← hbb.cell (p := ⟨b, off + p * 5 + 4, none⟩) hb] at hcell
          obtain ⟨z0, z1, z2, z3, z4⟩ := hcell
          obtain ⟨⟨dk, ⟨d1, d2, d3⟩, dn⟩, hdd⟩ : ∃ z, E p = z := ⟨_, rfl⟩
          simp only [hdd] at z0 z1 z2 z3 z4 hwf
          clear hdd hbb
          obtain ⟨W, hW⟩ : ∃ W, wr.alloc (.cells #[.int .u8 dk, .int .i64 d1, .int .i64 d2, .int .u64 d3, .int .i64 dn] tDd) = W := ⟨_, rfl⟩
          have td : Turned [] wr W := hW ▸ (Turned.refl [] wr).alloc _
          have hdk : W.heap[wr.heap.size]? = some (.cells #[.int .u8 dk, .int .i64 d1, .int .i64 d2, .int .u64 d3, .int .i64 dn] tDd (0, 0)) := hW ▸ heap_alloc_new wr _
          have H1 := Lib.hid (HD.out.later td)
          have HDK := Lib.hid hdk
          have HWF := Lib.hid hwf
          have HNZ : Hid (wr.heap.size ∉ X ∧ wr.heap.size ∉ Y) := Lib.hid ⟨fun hx => by have := S.lt HD.out.q _ hx; omega, fun hx => by have := LAt.lt HD.out.r _ hx; omega⟩
          have HS := Lib.hid (show w.heap.size ≤ wr.heap.size from HD.out.t.size)
          have HWa := Lib.hid hW
          have l1 : (p : Int) < k := by omega
          obtain ⟨y0, y1, y2, y3, y4⟩ := cells5w hdk
          clear td hdk hwf HD hW
          go_upto_block 4 with (fail)
          rw [HWa.out]
          go_cut [12] from 52 to 215 (fun s12 wx => s12 = .bool true ∧ Hid (wx.heap[wr.heap.size]? = some (.cells #[.int .u8 dk, .int .i64 d1, .int .i64 d2, .int .u64 d3, .int .i64 dn] tDd (0, 0))) ∧ ∃ X Y c L, Hid (WD S B w wx a d mm me X Y c L (.slice ka k kc) Ks) ∧ Hid (c ≤ 100 * (p + 1) ∧ L.length ≤ p + 1))
          case first =>
            by_cases q0 : (dk.tmod 6 == 0) = true
            · as_aux_lemma =>
                have hc : c ≤ 90000 := by have := HF.out.1; omega
                have hl : L.length ≤ 100 := by have := HF.out.2; omega
                have D1 := Lib.hid (H1.out.later (Turned.refl _ _).drew)
                have K1 := Lib.hid (show W.drew.heap[wr.heap.size]? = _ from HDK.out)
                obtain ⟨_, p1, p2, p3, _⟩ := cells5w K1.out
                have HP := Lib.hid (S.wait (d1, d2, d3) D1.out.q HWF.out.2.1 hl hc)
                simp only [aggW] at HP
                go_wp2_with fail
                go_region_held3 (fun V => V.cell? ⟨wr.heap.size, 1, none⟩ = some (.int .i64 d1) ∧ V.cell? ⟨wr.heap.size, 2, none⟩ = some (.int .i64 d2) ∧ V.cell? ⟨wr.heap.size, 3, none⟩ = some (.int .u64 d3))
                  (first | exact ⟨g1, g2, g3⟩ | exact ⟨f1, f2, f3⟩ | exact ⟨p1, p2, p3⟩)
                  (first
                    | (go_at_call 8
                       with_reducible refine HP.out.mono ?_
                       rintro e V1 ⟨rfl, X1, r1, t1, n1⟩
                       have D2 := Lib.hid (D1.out.stepQ r1 t1 n1)
                       have K2 := Lib.hid (t1.same K1.out HNZ.out.1)
                       obtain ⟨_, f1, f2, f3, _⟩ := cells5w K2.out
                       have HR := Lib.hid (rwait_any D2.out.r (d1, d2, d3) (by omega))
                       simp only [aggW] at HR
                       clear r1 t1 n1)
                    | (go_at_call 9
                       with_reducible refine HR.out.mono ?_
                       rintro e V2 ⟨rfl, Y1, r1, t1, n1⟩
                       have D4 := Lib.hid (D2.out.stepR r1 t1 n1)
                       have K4 := Lib.hid (t1.same K2.out HNZ.out.2)
                       obtain ⟨_, g1, g2, g3, _⟩ := cells5w K4.out
                       clear r1 t1 n1))
                all_goals
                  go_wp2
                  go_meet
                  exact ⟨by simp, K4, _, _, _, _, D4, Lib.hid ⟨by have := HF.out.1; omega, by have := HF.out.2; have := waitL_le mm me L (d1, d2, d3); omega⟩⟩
            · have q0' : (dk.tmod 6 == 0) = false := by simpa using q0
              clear q0
              by_cases q1 : (dk.tmod 6 == 1) = true
              · as_aux_lemma =>
                  have hc : c ≤ 90000 := by have := HF.out.1; omega
                  have hl : L.length ≤ 100 := by have := HF.out.2; omega
                  have D1 := Lib.hid (H1.out.later (Turned.refl _ _).drew)
                  have K1 := Lib.hid (show W.drew.heap[wr.heap.size]? = _ from HDK.out)
                  obtain ⟨_, _, p2, _, p4⟩ := cells5w K1.out
                  have HP := Lib.hid (S.wake d2 dn D1.out.q HWF.out.2.1.2.1 HWF.out.2.2 hl hc)
                  obtain ⟨O, hO⟩ : ∃ O, wakeO d2 dn.toNat L = O := ⟨_, rfl⟩
                  rw [hO] at HP
                  have HO := Lib.hid hO
                  clear hO
                  have hyl := Lib.hid (LAt.lt D1.out.r)
                  go_wp2_with fail
                  go_region_held3 (fun V => V.cell? ⟨wr.heap.size, 2, none⟩ = some (.int .i64 d2) ∧ V.cell? ⟨wr.heap.size, 4, none⟩ = some (.int .i64 dn))
                    (first | exact ⟨i2, i4⟩ | exact ⟨g2, g4⟩ | exact ⟨f2, f4⟩ | exact ⟨p2, p4⟩)
                    (first
                      | (go_at_call 11
                         refine HP.out.mono ?_
                         rintro e V1 ⟨vp, rfl, ro, X1, r1, t1, n1⟩
                         have D2 := Lib.hid (D1.out.stepQ r1 t1 n1)
                         have K2 := Lib.hid (t1.same K1.out HNZ.out.1)
                         obtain ⟨_, _, f2, _, f4⟩ := cells5w K2.out
                         have HR := Lib.hid (rwake_any D2.out.r d2 dn (by omega))
                         rw [HO.out] at HR
                         have RO := Lib.hid ro
                         clear r1 t1 n1 ro)
                      | (go_at_call 12
                         refine HR.out.mono ?_
                         rintro e V2 ⟨vd, rfl, rd, Y1, r1, t1, n1⟩
                         have D4 := Lib.hid (D2.out.stepR r1 t1 n1)
                         have K4 := Lib.hid (t1.same K2.out HNZ.out.2)
                         obtain ⟨_, _, g2, _, g4⟩ := cells5w K4.out
                         have HIn := Lib.hid (ints_any (ownsRow_same RO.out fun k hk hl' => t1.block k hl' (fun hy => by have h1 := (RO.out.lt k (by simpa using hk)).1; have h2 := hyl.out k hy; omega)) rd)
                         clear r1 t1 n1 rd)
                      | (go_at_call 10
                         refine HIn.out.mono ?_
                         rintro e V3 ⟨rfl, n3, rfl⟩
                         have D5 := Lib.hid (D4.out.later ((Turned.refl _ _).drewN n3))
                         have K5 := Lib.hid (show (V2.drewN n3).heap[wr.heap.size]? = _ from K4.out)
                         obtain ⟨_, _, i2, _, i4⟩ := cells5w K5.out))
                  all_goals
                    go_wp2
                    go_meet
                    exact ⟨by simp, K5, _, _, _, _, D5, Lib.hid ⟨by have := HF.out.1; omega, by have := HF.out.2; have := wakeL_le d2 dn.toNat L; omega⟩⟩
              · have q1' : (dk.tmod 6 == 1) = false := by simpa using q1
                clear q1
                by_cases q2 : (dk.tmod 6 == 2) = true
                · as_aux_lemma =>
                    have hc : c ≤ 90000 := by have := HF.out.1; omega
                    have hl : L.length ≤ 100 := by have := HF.out.2; omega
                    have HP := S.cancel d1 H1.out.q HWF.out.2.1.1 hl hc
                    by_cases hz : 0 ≤ whoI L d1
                    · obtain ⟨j, hj⟩ := Int.eq_ofNat_of_zero_le hz
                      have hjl : j < L.length := by
                        have := (place_range (fun x : Wt => decide (x.1 = d1)) L).2
                        unfold whoI at hj
                        omega
                      obtain ⟨x, hx⟩ : ∃ x, L.getD j (0, 0, 0) = x := ⟨_, rfl⟩
                      have e1 : takW L (whoI L d1) = x := by rw [takW, if_neg (by omega), hj]; exact hx
                      have e2 : takLW L (whoI L d1) = L.eraseIdx j := by rw [takLW, if_neg (by omega), hj]; rfl
                      rw [e1, e2, decide_eq_true hz] at HP
                      obtain ⟨x1, x2, x3⟩ := x
                      simp only [aggW] at HP
                      have HP := Lib.hid HP
                      have HJ := Lib.hid hj
                      have HX := Lib.hid hx
                      have j0 : (0 : Int) ≤ (j : Int) := by omega
                      have d0 : decide ((0 : Int) ≤ (j : Int)) = true := by simp
                      clear hz hj hx e1 e2
                      go_wp2_with fail
                      with_reducible refine HP.out.mono ?_
                      rintro e V1 ⟨rfl, X1, r1, t1, n1⟩
                      have hD2 := H1.out.stepQ r1 t1 n1
                      have hK2 := t1.same HDK.out HNZ.out.1
                      obtain ⟨V2, hV2⟩ : ∃ V2, V1.alloc (.cells #[.int .i64 x1, .int .i64 x2, .int .u64 x3] tW) = V2 := ⟨_, rfl⟩
                      have t2 : Turned [] V1 V2 := hV2 ▸ (Turned.refl [] V1).alloc _
                      have hbox : V2.heap[V1.heap.size]? = some (.cells #[.int .i64 x1, .int .i64 x2, .int .u64 x3] tW (0, 0)) := hV2 ▸ heap_alloc_new V1 _
                      have D2 := Lib.hid (hD2.later t2)
                      have K2 := Lib.hid (t2.same hK2 (by simp))
                      have hb1 : V1.heap.size ∉ Y := fun hy => by have := LAt.lt hD2.r _ hy; omega
                      have BX := Lib.hid hbox
                      have HB1 := Lib.hid hb1
                      have HV2 := Lib.hid hV2
                      obtain ⟨_, f1, _, _, _⟩ := cells5w hK2
                      have hlw : wr.heap.size < V1.heap.size := lt_of_block hK2
                      have HA := rat_any D2.out.r d1
                      rw [show whoI L d1 = (j : Int) from HJ.out] at HA
                      have HA := Lib.hid HA
                      clear r1 t1 n1 hD2 hK2 t2 hbox hb1 hV2 HP
                      go_wp2_with fail
                      rw [HV2.out]
                      with_reducible refine HA.out.mono ?_
                      rintro e V3 ⟨rfl, rfl⟩
                      have D3 := Lib.hid (D2.out.later (Turned.refl [] _).drew)
                      have HTk := rtake8_at D3.out.r j (by omega) (by omega)
                      rw [HX.out] at HTk
                      simp only [aggW] at HTk
                      have HTk := Lib.hid HTk
                      have BX1 := Lib.hid (show V3.drew.heap[V1.heap.size]? = _ from BX.out)
                      obtain ⟨b0, b1, b2, _⟩ := cellsT BX1.out
                      have K3 := Lib.hid (show V3.drew.heap[wr.heap.size]? = _ from K2.out)
                      clear f1 hlw
                      go_wp2_with fail
                      go_region_held3 (fun V => V.cell? ⟨V1.heap.size, 0, none⟩ = some (.int .i64 x1) ∧ V.cell? ⟨V1.heap.size, 1, none⟩ = some (.int .i64 x2) ∧ V.cell? ⟨V1.heap.size, 2, none⟩ = some (.int .u64 x3))
                        (first | exact ⟨g0, g1, g2⟩ | exact ⟨b0, b1, b2⟩)
                        (first
                          | (go_at_call 15
                             with_reducible refine HTk.out.mono ?_
                             rintro e V4 ⟨rfl, Y1, r1, t1, n1⟩
                             have D4 := Lib.hid (D3.out.stepR r1 t1 n1)
                             have K4 := Lib.hid (t1.same K3.out HNZ.out.2)
                             obtain ⟨g0, g1, g2, _⟩ := cellsT (t1.same BX1.out HB1.out)
                             clear r1 t1 n1))
                      all_goals
                        go_wp2
                        go_meet
                        exact ⟨by simp, K4, _, _, _, _, D4, Lib.hid ⟨by have := HF.out.1; omega, by have := HF.out.2; have := List.length_eraseIdx_le L j; omega⟩⟩
                    · obtain ⟨q, hq⟩ : ∃ q, whoI L d1 = q := ⟨_, rfl⟩
                      have e1 : takW L (whoI L d1) = (0, 0, 0) := by rw [takW, if_pos (by omega)]
                      have e2 : takLW L (whoI L d1) = L := by rw [takLW, if_pos (by omega)]
                      rw [e1, e2, decide_eq_false hz] at HP
                      simp only [aggW] at HP
                      have HP := Lib.hid HP
                      have HJ := Lib.hid hq
                      rw [hq] at hz
                      have z0 : q < 0 := by omega
                      have z1 : decide ((0 : Int) ≤ q) = false := by simpa using hz
                      clear hz hq e1 e2
                      go_wp2_with fail
                      with_reducible refine HP.out.mono ?_
                      rintro e V1 ⟨rfl, X1, r1, t1, n1⟩
                      have hD2 := H1.out.stepQ r1 t1 n1
                      have hK2 := t1.same HDK.out HNZ.out.1
                      obtain ⟨V2, hV2⟩ : ∃ V2, V1.alloc (.cells #[.int .i64 0, .int .i64 0, .int .u64 0] tW) = V2 := ⟨_, rfl⟩
                      have t2 : Turned [] V1 V2 := hV2 ▸ (Turned.refl [] V1).alloc _
                      have hbox : V2.heap[V1.heap.size]? = some (.cells #[.int .i64 0, .int .i64 0, .int .u64 0] tW (0, 0)) := hV2 ▸ heap_alloc_new V1 _
                      have D2 := Lib.hid (hD2.later t2)
                      have K2 := Lib.hid (t2.same hK2 (by simp))
                      obtain ⟨b0, b1, b2, _⟩ := cellsT hbox
                      have HV2 := Lib.hid hV2
                      obtain ⟨_, f1, _, _, _⟩ := cells5w hK2
                      have hlw : wr.heap.size < V1.heap.size := lt_of_block hK2
                      have HA := rat_any D2.out.r d1
                      rw [show whoI L d1 = q from HJ.out] at HA
                      have HA := Lib.hid HA
                      clear r1 t1 n1 hD2 hK2 t2 hbox hV2 HP
                      go_wp2_with fail
                      rw [HV2.out]
                      with_reducible refine HA.out.mono ?_
                      rintro e V3 ⟨rfl, rfl⟩
                      go_wp2
                      go_meet
                      exact ⟨rfl, K2, _, _, _, _, Lib.hid D2.out.still, Lib.hid ⟨by have := HF.out.1; omega, by have := HF.out.2; omega⟩⟩
                · have q2' : (dk.tmod 6 == 2) = false := by simpa using q2
                  clear q2
                  by_cases q3 : (dk.tmod 6 == 3) = true
                  · as_aux_lemma =>
                      have hc : c ≤ 90000 := by have := HF.out.1; omega
                      have hl : L.length ≤ 100 := by have := HF.out.2; omega
                      have D1 := Lib.hid (H1.out.later (Turned.refl _ _).drew)
                      have K1 := Lib.hid (show W.drew.heap[wr.heap.size]? = _ from HDK.out)
                      obtain ⟨_, p1, p2, _, p4⟩ := cells5w K1.out
                      have HP := Lib.hid (S.requeue d2 dn d1 D1.out.q HWF.out.2.1.2.1 HWF.out.2.2 HWF.out.2.1.1 hl hc)
                      have HD : Hid (∀ (V : World) (Y : List Nat), R8 V d Y mm me L → Calls Try.prog 17 #[.pointer (some ⟨d, 0, none⟩), .int .i64 d2, .int .i64 dn, .int .i64 d1] V fun r w' => r = .returned (.int .i64 (if d2 = dn then 0 else reqN d2 dn me d1.toNat L : Nat)) ∧
                          ∃ Y', R8 w' d Y' mm me (if d2 = dn then L else reqL d2 dn me d1.toNat L) ∧ Turned Y V w' ∧ Newer Y V.heap.size Y') := Lib.hid (by
                        intro V Y hV
                        by_cases he : d2 = dn
                        · rw [if_pos he, if_pos he]
                          subst he
                          exact (rreq_eq (w := V) (b := d) d2 d1).mono fun r w' ⟨h1, q, h2⟩ => ⟨h1, Y, by rw [h2]; exact LAt.drewN hV q, by rw [h2]; exact (Turned.refl _ _).drewN q, Newer.refl _ _⟩
                        · rw [if_neg he, if_neg he]
                          exact rreq_any hV d2 dn d1 he (by omega))
                      obtain ⟨R, hR⟩ : ∃ R, (if d2 = dn then 0 else reqN d2 dn me d1.toNat L : Nat) = R := ⟨_, rfl⟩
                      obtain ⟨L', hL'⟩ : ∃ L', (if d2 = dn then L else reqL d2 dn me d1.toNat L) = L' := ⟨_, rfl⟩
                      have hll : L'.length = L.length := by
                        rw [← hL']
                        split
                        · rfl
                        · exact reqL_len _ _ _ _ _
                      rw [hR, hL'] at HP HD
                      clear hR hL'
                      go_wp2_with fail
                      go_region_held3 (fun V => V.cell? ⟨wr.heap.size, 1, none⟩ = some (.int .i64 d1) ∧ V.cell? ⟨wr.heap.size, 2, none⟩ = some (.int .i64 d2) ∧ V.cell? ⟨wr.heap.size, 4, none⟩ = some (.int .i64 dn))
                        (first | exact ⟨g1, g2, g4⟩ | exact ⟨f1, f2, f4⟩ | exact ⟨p1, p2, p4⟩)
                        (first
                          | (go_at_call 16
                             with_reducible refine HP.out.mono ?_
                             rintro e V1 ⟨rfl, X1, r1, t1, n1⟩
                             have D2 := Lib.hid (D1.out.stepQ r1 t1 n1)
                             have K2 := Lib.hid (t1.same K1.out HNZ.out.1)
                             obtain ⟨_, f1, f2, _, f4⟩ := cells5w K2.out
                             have HR := Lib.hid (HD.out _ _ D2.out.r)
                             clear r1 t1 n1)
                          | (go_at_call 17
                             with_reducible refine HR.out.mono ?_
                             rintro e V2 ⟨rfl, Y1, r1, t1, n1⟩
                             have D4 := Lib.hid (D2.out.stepR r1 t1 n1)
                             have K4 := Lib.hid (t1.same K2.out HNZ.out.2)
                             obtain ⟨_, g1, g2, _, g4⟩ := cells5w K4.out
                             clear r1 t1 n1))
                      all_goals
                        go_wp2
                        go_meet
                        exact ⟨by simp, K4, _, _, _, _, D4, Lib.hid ⟨by have := HF.out.1; omega, by have := HF.out.2; omega⟩⟩
                  · have q3' : (dk.tmod 6 == 3) = false := by simpa using q3
                    clear q3
                    by_cases q4 : (dk.tmod 6 == 4) = true
                    · as_aux_lemma =>
                        have hc : c ≤ 90000 := by have := HF.out.1; omega
                        have hl : L.length ≤ 100 := by have := HF.out.2; omega
                        obtain ⟨mo, hmo⟩ : ∃ mo, (IntKind.u64.wrap dn).tmod 4 = mo := ⟨_, rfl⟩
                        have hmo4 : 0 ≤ mo ∧ mo ≤ 3 := by
                          rw [← hmo, IntKind.wrap_u64, Int.tmod_eq_emod_of_nonneg (by omega)]
                          omega
                        have w1 : IntKind.i64.wrap mo = mo := by rw [IntKind.wrap_i64]; omega
                        have HE := Lib.hid (expire_any S H1.out.q H1.out.r H1.out.o d3 mo ⟨HWF.out.2.1.2.2.1, HWF.out.2.1.2.2.2⟩ (by omega) hl hc)
                        go_wp2_with fail
                        refine HE.out.mono ?_
                        rintro e V ⟨rfl, X1, Y1, L1, q1, r1, o1, hl1, t1, n1⟩
                        have D2 := Lib.hid (H1.out.both q1 r1 o1 t1 n1)
                        have K2 := Lib.hid (t1.same HDK.out (fun hx => by
                          rcases List.mem_append.1 hx with h | h
                          · exact HNZ.out.1 h
                          · exact HNZ.out.2 h))
                        have HL1 := Lib.hid hl1
                        clear q1 r1 o1 hl1 t1 n1
                        go_wp2
                        go_meet
                        exact ⟨rfl, K2, _, _, _, _, D2, Lib.hid ⟨by have := HF.out.1; omega, by have := HF.out.2; have := HL1.out; omega⟩⟩
                    · have q4' : (dk.tmod 6 == 4) = false := by simpa using q4
                      clear q4
                      by_cases q5 : (dk.tmod 6 == 5) = true
                      · as_aux_lemma =>
                          have hc : c ≤ 90000 := by have := HF.out.1; omega
                          have hl : L.length ≤ 100 := by have := HF.out.2; omega
                          have HP := S.who d1 H1.out.q HWF.out.2.1.1
                          by_cases hz : 0 ≤ whoI L d1
                          · obtain ⟨j, hj⟩ := Int.eq_ofNat_of_zero_le hz
                            have hjl : j < L.length := by
                              have := (place_range (fun x : Wt => decide (x.1 = d1)) L).2
                              unfold whoI at hj
                              omega
                            obtain ⟨x, hx⟩ : ∃ x, L.getD j (0, 0, 0) = x := ⟨_, rfl⟩
                            have e1 : takW L (whoI L d1) = x := by rw [takW, if_neg (by omega), hj]; exact hx
                            rw [e1, decide_eq_true hz] at HP
                            obtain ⟨x1, x2, x3⟩ := x
                            simp only [aggW] at HP
                            have HP := Lib.hid HP
                            have HJ := Lib.hid hj
                            have HX := Lib.hid hx
                            have j0 : (0 : Int) ≤ (j : Int) := by omega
                            have j1 : (j : Int) < L.length := by omega
                            have d0 : decide ((0 : Int) ≤ (j : Int)) = true := by simp
                            clear hz hj hx e1
                            go_wp2_with fail
                            with_reducible refine HP.out.mono ?_
                            rintro e V1 ⟨rfl, t1⟩
                            have hD2 := H1.out.later t1
                            have hK2 := t1.same HDK.out (by simp)
                            obtain ⟨V2, hV2⟩ : ∃ V2, V1.alloc (.cells #[.int .i64 x1, .int .i64 x2, .int .u64 x3] tW) = V2 := ⟨_, rfl⟩
                            have t2 : Turned [] V1 V2 := hV2 ▸ (Turned.refl [] V1).alloc _
                            have hbox : V2.heap[V1.heap.size]? = some (.cells #[.int .i64 x1, .int .i64 x2, .int .u64 x3] tW (0, 0)) := hV2 ▸ heap_alloc_new V1 _
                            have D2 := Lib.hid (hD2.later t2)
                            have K2 := Lib.hid (t2.same hK2 (by simp))
                            obtain ⟨b0, b1, b2, _⟩ := cellsT hbox
                            have HV2 := Lib.hid hV2
                            obtain ⟨_, f1, _, _, _⟩ := cells5w hK2
                            have hlw : wr.heap.size < V1.heap.size := lt_of_block hK2
                            have HA := rat_any D2.out.r d1
                            rw [show whoI L d1 = (j : Int) from HJ.out] at HA
                            have HA := Lib.hid HA
                            obtain ⟨ra, rcap, _, _, rc2, rr⟩ := D2.out.r.rows
                            obtain ⟨g, rfl, r0, r1, r2⟩ := rr j hjl
                            rw [HX.out] at r0 r1 r2
                            simp only at r0 r1 r2
                            clear t1 hD2 hK2 t2 hbox hV2 HP rr
                            go_wp2_with fail
                            rw [HV2.out]
                            with_reducible refine HA.out.mono ?_
                            rintro e V3 ⟨rfl, rfl⟩
                            clear f1 hlw
                            go_wp2
                            refine wp_region_quiet_lit (by kernel_rfl) (by kernel_rfl) ?_
                            try simp only [List.append_eq, List.cons_append, List.nil_append]
                            repeat (go_big_quiet_step (fail))
                            refine wpQuiet_nil ?_
                            rintro _ ⟨nq, rfl⟩
                            go_wp2
                            go_meet
                            exact ⟨by simp, Lib.hid (show (V3.drewN nq).heap[wr.heap.size]? = _ from K2.out), _, _, _, _, Lib.hid (D2.out.later ((Turned.refl _ _).drewN nq)), Lib.hid ⟨by have := HF.out.1; omega, by have := HF.out.2; omega⟩⟩
                          · obtain ⟨q, hq⟩ : ∃ q, whoI L d1 = q := ⟨_, rfl⟩
                            have e1 : takW L (whoI L d1) = (0, 0, 0) := by rw [takW, if_pos (by omega)]
                            rw [e1, decide_eq_false hz] at HP
                            simp only [aggW] at HP
                            have HP := Lib.hid HP
                            have HJ := Lib.hid hq
                            rw [hq] at hz
                            have z0 : q < 0 := by omega
                            have z1 : decide ((0 : Int) ≤ q) = false := by simpa using hz
                            clear hz hq e1
                            go_wp2_with fail
                            with_reducible refine HP.out.mono ?_
                            rintro e V1 ⟨rfl, t1⟩
                            have hD2 := H1.out.later t1
                            have hK2 := t1.same HDK.out (by simp)
                            obtain ⟨V2, hV2⟩ : ∃ V2, V1.alloc (.cells #[.int .i64 0, .int .i64 0, .int .u64 0] tW) = V2 := ⟨_, rfl⟩
                            have t2 : Turned [] V1 V2 := hV2 ▸ (Turned.refl [] V1).alloc _
                            have hbox : V2.heap[V1.heap.size]? = some (.cells #[.int .i64 0, .int .i64 0, .int .u64 0] tW (0, 0)) := hV2 ▸ heap_alloc_new V1 _
                            have D2 := Lib.hid (hD2.later t2)
                            have K2 := Lib.hid (t2.same hK2 (by simp))
                            obtain ⟨b0, b1, b2, _⟩ := cellsT hbox
                            have HV2 := Lib.hid hV2
                            obtain ⟨_, f1, _, _, _⟩ := cells5w hK2
                            have hlw : wr.heap.size < V1.heap.size := lt_of_block hK2
                            have HA := rat_any D2.out.r d1
                            rw [show whoI L d1 = q from HJ.out] at HA
                            have HA := Lib.hid HA
                            clear t1 hD2 hK2 t2 hbox hV2 HP
                            go_wp2_with fail
                            rw [HV2.out]
                            with_reducible refine HA.out.mono ?_
                            rintro e V3 ⟨rfl, rfl⟩
                            clear f1 hlw
                            go_wp2
                            refine wp_region_quiet_lit (by kernel_rfl) (by kernel_rfl) ?_
                            try simp only [List.append_eq, List.cons_append, List.nil_append]
                            repeat (go_big_quiet_step (fail))
                            refine wpQuiet_nil ?_
                            rintro _ ⟨nq, rfl⟩
                            go_wp2
                            go_meet
                            exact ⟨by simp, Lib.hid (show (V3.drewN nq).heap[wr.heap.size]? = _ from K2.out), _, _, _, _, Lib.hid (D2.out.later ((Turned.refl _ _).drewN nq)), Lib.hid ⟨by have := HF.out.1; omega, by have := HF.out.2; omega⟩⟩
                      · have q5' : (dk.tmod 6 == 5) = false := by simpa using q5
                        clear q5
                        go_wp2
                        go_meet
                        exact ⟨rfl, HDK, _, _, _, _, H1, Lib.hid ⟨by have := HF.out.1; omega, by have := HF.out.2; omega⟩⟩
          case rest => as_aux_lemma =>
            obtain ⟨rfl, HK, X2, Y2, c2, L2, HD2, HF2⟩ := hcut
            obtain ⟨_, _, f2, _, f4⟩ := cells5w HK.out
            have hl2 : L2.length ≤ 100 := by have := HF2.out.2; omega
            obtain ⟨V, hV⟩ : ∃ V, wc.alloc (.cells #[.int .i64 d2, .int .i64 dn] 3) = V := ⟨_, rfl⟩
            have tV : Turned [] wc V := hV ▸ (Turned.refl [] wc).alloc _
            have hbx : V.heap[wc.heap.size]? = some (.cells #[.int .i64 d2, .int .i64 dn] 3 (0, 0)) := hV ▸ heap_alloc_new wc _
            have D3 := Lib.hid (HD2.out.later tV)
            have HSm := Lib.hid (same_any S D3.out.q D3.out.r hl2 (some ⟨wc.heap.size, 0, none⟩) wc.heap.size 0 2 2 (fun i => [d2, dn].getD i 0) (by omega) (fun _ => ⟨rfl, lt_of_block hbx⟩)
              (fun i hi => by
                match i, hi with
                | 0, _ => simp [World.cell?, hbx]
                | 1, _ => simp [World.cell?, hbx])
              (fun i hi => by
                match i, hi with
                | 0, _ => exact HWF.out.2.1.2.1
                | 1, _ => exact HWF.out.2.2))
            have HV := Lib.hid hV
            clear tV hbx hV
            go_wp2_with fail
            rw [HV.out]
            with_reducible refine HSm.out.mono ?_
            rintro e V2 ⟨rfl, t2⟩
            have D4 := Lib.hid (D3.out.later t2)
            clear t2
            go_wp2
            go_roundw
            case rel => exact ⟨p + 1, by omega, by go_num, _, _, _, _, D4, HF2⟩
            case measure => simp [intOf]; omega
        · obtain rfl : p = k := by omega
          have hl2 : L.length ≤ 100 := by have := HF.out.2; omega
          have hrow := HD.out.k
          rw [HKl.out] at hrow
          obtain ⟨g, hg⟩ : ∃ g, 0 < p → ka = some ⟨g, 0, none⟩ ∧ g < wr.heap.size := by
            rcases Nat.eq_zero_or_pos p with h0 | h0
            · exact ⟨0, fun h => by omega⟩
            · obtain ⟨g, cap', hv, _, _⟩ := ownsRow_pos hrow h0
              simp only [Value.slice.injEq, true_and] at hv
              obtain ⟨rfl, rfl⟩ := hv
              exact ⟨g, fun _ => ⟨rfl, ownsRow_lt hrow g (by simp [Value.ownBlock])⟩⟩
          have HSm := Lib.hid (same_any S HD.out.q HD.out.r hl2 ka g 0 p kc (fun i => Ks.getD i 0) (by omega) hg
            (fun i hi => by
              obtain ⟨g', cap', hv, hcell⟩ := ints_at (by rw [HKl.out]; exact hrow) (j := i) (by rw [HKl.out]; exact hi)
              rw [HKl.out] at hv
              simp only [Value.slice.injEq, true_and] at hv
              obtain ⟨hv1, rfl⟩ := hv
              have := (hg (by omega)).1
              rw [hv1] at this
              simp only [Option.some.injEq, Addr.mk.injEq, and_true] at this
              subst this
              simpa using hcell)
            (fun i hi => by
              have := (HWf.out i hi).2.1.2.1
              rw [← HKs.out, keysOf_at E hi]
              exact this))
          have HT := Lib.hid HD.out.t
          clear hrow hg
          go_wp2_with fail
          with_reducible refine HSm.out.mono ?_
          rintro e V2 ⟨rfl, t2⟩
          have T2 := Lib.hid (HT.out.trans t2 (Newer.refl _ _))
          clear t2
          go_wp2
          go_ret
          exact ⟨rfl, T2.out⟩
end Go.Proofs.Ytiffgkmmibhklaa
