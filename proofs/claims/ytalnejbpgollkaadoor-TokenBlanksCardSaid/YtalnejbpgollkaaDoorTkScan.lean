/-
  The program's Scan.
-/
import Derived.Test.YtalnejbpgollkaaDoorTkRow
import Derived.Test.YtalnejbpgollkaaDoorTkLib
namespace Go.Proofs.YtalnejbpgollkaaDoor
open Go.RowKit

def ScanPost (l : List By) (w : World) (e : Ending) (w' : World) : Prop :=
  ∃ v, e = .returned (.tuple #[v, .int .i64 (scanA l).2.1, .int .i64 (scanA l).2.2]) ∧ WRow w.heap.size w' v (scanA l).1 ∧ Below w.heap.size w w'
theorem word_info : (Tryd.prog.info? 25).map (fun i => (i.zero, i.size, i.bytes)) = some (some (.agg #[.int .i64 0, .string ⟨#[]⟩, .int .i64 0, .int .i64 0]), 4, 40) := by kernel_rfl
theorem app_below {n₀ : Nat} {wr w1 w2 : World} {base : Nat} {e : TypeId} {size : Nat} {v : Value} {k : Nat} {xs : List Value} {w : World} (hb : Below n₀ w w1) (hn : n₀ ≤ w.heap.size) (hbase : n₀ ≤ base) (hown : wr.ownsRow base e size v k xs) (hg : w1.grownBy w2 v.ownBlock) : Below n₀ w w2 :=
  hb.grown hg (Nat.le_trans hn hb.size) (fun j hj => by
    have := (hown.lt j hj).1
    omega)
theorem word_new (W : World) (a b c d : Value) (t : TypeId) : ∀ (j : Nat) (u : Value), [a, b, c, d][j]? = some u → (W.alloc (.cells #[a, b, c, d] t)).cell? ((⟨W.heap.size, 0, none⟩ : Addr).add j) = some u := by
  intro j u hj
  rw [Addr.add_lit]
  match j, hj with
  | 0, hj => simp at hj; subst hj; simp
  | 1, hj => simp at hj; subst hj; simp
  | 2, hj => simp at hj; subst hj; simp
  | 3, hj => simp at hj; subst hj; simp

theorem post_err {l : List By} {k : Nat} (h : scanA l = ([], (k : Int), 5)) {w w' : World} (hb : Below w.heap.size w w') : ScanPost l w (.returned (.tuple #[.slice none 0 0, .int .i64 k, .int .i64 5])) w' := by
  unfold ScanPost
  rw [h]
  exact ⟨_, rfl, World.ownsRow_nil _ _ _ _, hb⟩
theorem post_ok {l : List By} {ws : List Wd} (h : scanA l = (ws, 0, 0)) {w w' : World} {v : Value} (hr : WRow w.heap.size w' v ws) (hb : Below w.heap.size w w') : ScanPost l w (.returned (.tuple #[v, .int .i64 0, .int .i64 0])) w' := by
  unfold ScanPost
  rw [h]
  exact ⟨_, rfl, hr, hb⟩

set_option maxHeartbeats 400000 in
theorem scan_long (s : ByteArray) (w : World) (h : 8000 < s.size) : Calls Tryd.prog 11 #[.string s] w (ScanPost s.data.toList w) := by
  have e : scanA s.data.toList = ([], 8000, 6) := by unfold scanA; rw [if_pos (by rw [← Lib.size_eq]; exact h)]
  unfold ScanPost
  rw [e]
  go_enter Tryd.func11, Tryd.ntmps11
  go_wp2
  go_ret3
  exact ⟨_, rfl, World.ownsRow_nil _ _ _ _, Below.refl _ _⟩

set_option maxRecDepth 100000 in
set_option maxHeartbeats 1600000 in
theorem scan_short (s : ByteArray) (w : World) (hs : s.size ≤ 8000) : Calls Tryd.prog 11 #[.string s] w (ScanPost s.data.toList w) := by
  have hA : (∀ ws, scanR s.data.toList 0 false = .ok ws → scanA s.data.toList = (ws, 0, 0)) ∧ ∀ p : Nat, scanR s.data.toList 0 false = .error p → scanA s.data.toList = ([], (p : Int), 5) := by
    have h : ¬ 8000 < s.data.toList.length := by rw [← Lib.size_eq]; omega
    constructor <;> (intro x hx; unfold scanA; rw [if_neg h, hx])
  have HA := Lib.hid hA
  clear hA
  obtain ⟨i0, hi0, hz0, hz1, hz2⟩ := info_parts word_info
  have HSZ := Lib.hid (Lib.size_eq s)
  have HK := Lib.hid (fun p W hp => skip_any s p W hp (by unfold maxLen; omega))
  have H0 := Lib.hid (ScanSt.start s.data.toList)
  have hk0 := H0.out.le
  rw [← HSZ.out] at hk0
  obtain ⟨k0, hk⟩ : ∃ k0, 0 + skipN (s.data.toList.drop 0) = k0 := ⟨_, rfl⟩
  have HK0 := Lib.hid (hk ▸ HK.out 0 w (by omega))
  rw [hk] at H0 hk0
  rw [show ((0 : Nat) : Int) = 0 from rfl] at HK0
  have d0 : decide ((8000 : Int) < (s.size : Int)) = false := by simp; omega
  clear hk
  go_enter Tryd.func11, Tryd.ntmps11
  go_wp2_with fail
  with_reducible refine HK0.out.mono ?_
  rintro e w1 ⟨rfl, rfl⟩
  go_wp2_with fail
  go_loopw [5, 6, 7] (fun l q' k' wr => ∃ (k q : Nat) (ws : List Wd), q' = .int .i64 q ∧ k' = .int .i64 k ∧ k ≤ s.size ∧ Hid (ScanSt s.data.toList k q ws) ∧ Hid (WRow w1.heap.size wr l ws) ∧ Hid (Below w1.heap.size w1 wr)) (fun _ _ k' _ => s.size - (intOf k').toNat)
  case atStart => exact ⟨k0, 0, [], rfl, rfl, hk0, H0, World.ownsRow_nil _ _ _ _, Below.refl _ _⟩
  case round =>
    obtain ⟨k, q, ws, rfl, rfl, hk, HST, HO, HB⟩ := hrel
    have hqk := HST.out.qk
    by_cases hlt : k < s.size
    · have hz := size_from s k
      have HBL := Lib.hid (bl_from s k)
      obtain ⟨s1, hs1⟩ : ∃ s1, s.extract k s.size = s1 := ⟨_, rfl⟩
      rw [hs1] at hz HBL
      have HC := Lib.hid (fun W => HBL.out ▸ cut_any atoi_said s1 W (by omega) (by unfold maxLen; omega))
      have hklt : k < s.data.toList.length := by rw [← HSZ.out]; exact hlt
      have hbad := HST.out.bad hklt
      have hclash := HST.out.clash hklt
      have hnext := HST.out.next hklt
      obtain ⟨⟨⟨a, b, c, d⟩, n⟩, hx⟩ : ∃ x, cutP (s.data.toList.drop k) = x := ⟨_, rfl⟩
      rw [hx] at HC hbad hclash hnext
      simp only [wdV] at HC hbad hclash hnext
      obtain ⟨tx, htx⟩ : ∃ tx : ByteArray, ⟨b.toArray⟩ = tx := ⟨_, rfl⟩
      rw [htx] at HC
      have HTX := Lib.hid htx
      have HBAD := Lib.hid hbad
      have HCL := Lib.hid hclash
      have HNX := Lib.hid hnext
      clear hx hz htx hbad hclash hnext
      go_wp2_with fail
      with_reducible refine (HC.out _).mono ?_
      rintro e w2 ⟨rfl, hb2⟩
      have HB2 := Lib.hid hb2
      have hsz2 := hb2.size
      clear hb2
      by_cases hn : n = 0
      · have d1 : ((n : Int) == 0) = true := by simp [hn]
        have HN := Lib.hid hn
        clear hn
        go_wp2
        go_ret3
        have hw := HB.out.size
        exact post_err (HA.out.2 k (HBAD.out HN.out)) ((HB.out.trans (HB2.out.mono hw)).alloc (by omega) _)
      · have d1 : ((n : Int) == 0) = false := by simp; omega
        have HN := Lib.hid hn
        clear hn
        by_cases hkq : k = q
        · have d2 : ((k : Int) == (q : Int)) = true := by simp [hkq]
          have HKQ := Lib.hid hkq
          clear hkq
          have hwl := HST.out.len
          have HQ := Lib.hid (fun (W : World) (v : Value) (h : WRow w1.heap.size W v ws) => clash_any h (by omega) a c d tx)
          obtain ⟨t, ht⟩ : ∃ t, (lastB ws && !decide (a = 3)) = t := ⟨_, rfl⟩
          rw [ht] at HQ
          have HT := Lib.hid ht
          clear ht
          go_wp2_with fail
          with_reducible refine (HQ.out _ _ (row_below HO.out (HB2.out.alloc (by omega) _))).mono ?_
          rintro e w3 ⟨rfl, hb3⟩
          obtain ⟨hc, hf⟩ := bcell hb3
          have HB3 := Lib.hid hb3
          have hsz3 := hb3.size
          clear hb3
          cases t with
          | true =>
            go_wp2
            go_ret3
            have hw := HB.out.size
            exact post_err (HA.out.2 k (HCL.out HKQ.out HT.out HN.out)) ((HB.out.trans ((HB2.out.alloc (by omega) _).mono hw)).trans (HB3.out.mono (by simp; omega)))
          | false =>
            go_wp2_with (at_builtin; refine wpList_append_own _ rfl _ _ 22 rfl w1.heap.size 25 i0 (.agg #[.int .i64 0, .string ⟨#[]⟩, .int .i64 0, .int .i64 0]) 4 40 Tryd.underlying22 hi0 hz0 hz1 hz2 rfl (by decide) _ _ _ rfl (row_below HO.out ((((HB2.out.alloc (by omega) _).trans (HB3.out.mono (by simp; omega))).setCell (p := ⟨w2.heap.size, 3, none⟩) (by simp; omega) _).alloc (by have := HB3.out.size; simp at this ⊢; omega) _)) ⟨_, 0, none⟩ 1 1 [.int .i64 a, .string tx, .int .i64 c, .int .i64 (k : Int)] rfl rfl ?f1 ?f2 ?f3 ?f4 ?f5 ?_)
            case f1 =>
              intro j u hj
              have h := word_new (w3.setCell ⟨w2.heap.size, 3, none⟩ (.int .i64 k)) _ _ _ _ 25 j u hj
              rw [show (w3.setCell ⟨w2.heap.size, 3, none⟩ (.int .i64 k)).heap.size = w3.heap.size by simp] at h
              exact h
            case f2 =>
              intro u hu
              simp at hu
              rcases hu with rfl | rfl | rfl | rfl <;> rfl
            case f3 => unfold maxLen; omega
            case f4 => omega
            case f5 => have := HB.out.size; have := HB3.out.size; simp at this; simp; omega
            intro v' w4 hown2 hgrow _
            obtain ⟨hle, hst⟩ := HNX.out HN.out (by rw [HT.out, Bool.and_false])
            have hle2 : k + n ≤ s.size := by rw [HSZ.out]; exact hle
            have HST2 := Lib.hid hst
            have HO2 : Hid (WRow w1.heap.size w4 v' (ws ++ [placed (a, b, c, d) k])) := by
              unfold Hid WRow
              rw [wdsC_snoc, List.length_append, List.length_singleton]
              have e : wdC (placed (a, b, c, d) k) = [.int .i64 a, .string tx, .int .i64 c, .int .i64 (k : Int)] := by rw [← HTX.out]; rfl
              rw [e]
              exact hown2
            have HB4 := Lib.hid (app_below (HB.out.trans (((((HB2.out.alloc (by omega) _).trans (HB3.out.mono (by simp; omega))).setCell (p := ⟨w2.heap.size, 3, none⟩) (by simp; omega) _).alloc (by have := HB3.out.size; simp at this ⊢; omega) _).mono HB.out.size)) (Nat.le_refl _) (Nat.le_refl _) HO.out hgrow)
            clear hst hown2 hgrow hle
            have hk' := HST2.out.le
            rw [← HSZ.out] at hk'
            have HK2 := HK.out (k + n) w4 hle2
            rw [Int.natCast_add k n] at HK2
            obtain ⟨k', hkk⟩ : ∃ k', k + n + skipN (s.data.toList.drop (k + n)) = k' := ⟨_, rfl⟩
            rw [hkk] at HK2 HST2 hk'
            have HK3 := Lib.hid HK2
            have hkn := HST2.out.qk
            clear hkk HK2
            go_wp2_with fail
            with_reducible refine HK3.out.mono ?_
            rintro e w5 ⟨rfl, rfl⟩
            go_wp2
            go_roundw
            case rel => exact ⟨k', k + n, _, by go_num, rfl, hk', HST2, HO2, HB4⟩
            case measure =>
              have := HN.out
              simp [intOf]
              omega
        · have d2 : ((k : Int) == (q : Int)) = false := by simp; omega
          have HKQ := Lib.hid hkq
          clear hkq
          have hwl := HST.out.len
          go_wp2_with (at_builtin; refine wpList_append_own _ rfl _ _ 22 rfl w1.heap.size 25 i0 (.agg #[.int .i64 0, .string ⟨#[]⟩, .int .i64 0, .int .i64 0]) 4 40 Tryd.underlying22 hi0 hz0 hz1 hz2 rfl (by decide) _ _ _ rfl (row_below HO.out ((HB2.out.alloc (by omega) _).alloc (by simp; omega) _)) ⟨_, 0, none⟩ 1 1 [.int .i64 a, .string tx, .int .i64 c, .int .i64 (k : Int)] rfl rfl ?c1 ?c2 ?c3 ?c4 ?c5 ?_)
          case c1 =>
            intro j u hj
            rw [Addr.add_lit]
            match j, hj with
            | 0, hj => simp at hj; subst hj; simp
            | 1, hj => simp at hj; subst hj; simp
            | 2, hj => simp at hj; subst hj; simp
            | 3, hj => simp at hj; subst hj; simp
          case c2 =>
            intro u hu
            simp at hu
            rcases hu with rfl | rfl | rfl | rfl <;> rfl
          case c3 => unfold maxLen; omega
          case c4 => omega
          case c5 => have := HB.out.size; simp; omega
          intro v' w4 hown2 hgrow _
          obtain ⟨hle, hst⟩ := HNX.out HN.out (by rw [decide_eq_false HKQ.out, Bool.false_and])
          have hle2 : k + n ≤ s.size := by rw [HSZ.out]; exact hle
          have HST2 := Lib.hid hst
          have HO2 : Hid (WRow w1.heap.size w4 v' (ws ++ [placed (a, b, c, d) k])) := by
            unfold Hid WRow
            rw [wdsC_snoc, List.length_append, List.length_singleton]
            have e : wdC (placed (a, b, c, d) k) = [.int .i64 a, .string tx, .int .i64 c, .int .i64 (k : Int)] := by rw [← HTX.out]; rfl
            rw [e]
            exact hown2
          have HB4 := Lib.hid (app_below (HB.out.trans (((HB2.out.alloc (by omega) _).alloc (by simp; omega) _).mono HB.out.size)) (Nat.le_refl _) (Nat.le_refl _) HO.out hgrow)
          clear hst hown2 hgrow hle
          have hk' := HST2.out.le
          rw [← HSZ.out] at hk'
          have HK2 := HK.out (k + n) w4 hle2
          rw [Int.natCast_add k n] at HK2
          obtain ⟨k', hkk⟩ : ∃ k', k + n + skipN (s.data.toList.drop (k + n)) = k' := ⟨_, rfl⟩
          rw [hkk] at HK2 HST2 hk'
          have HK3 := Lib.hid HK2
          have hkn := HST2.out.qk
          clear hkk HK2
          go_wp2_with fail
          with_reducible refine HK3.out.mono ?_
          rintro e w5 ⟨rfl, rfl⟩
          go_wp2
          go_roundw
          case rel => exact ⟨k', k + n, _, by go_num, rfl, hk', HST2, HO2, HB4⟩
          case measure =>
            have := HN.out
            simp [intOf]
            omega
    · have HLT := Lib.hid hlt
      go_wp2
      go_ret3
      exact post_ok (HA.out.1 _ (HST.out.done (by rw [← HSZ.out]; exact HLT.out))) HO.out HB.out
end Go.Proofs.YtalnejbpgollkaaDoor
