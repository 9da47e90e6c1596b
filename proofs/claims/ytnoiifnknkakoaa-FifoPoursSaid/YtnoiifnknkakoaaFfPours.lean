/-
  FifoPours: the walk, of what is said of queues (FfSaid).
-/
import Derived.Test.YtnoiifnknkakoaaFfSaid
import Derived.Deep.DeepCutAuto
import Derived.Laws.Cover1
namespace Go.Proofs.Ytnoiifnknkakoaa
open Go.RowKit

abbrev encI (x : Int) : List Value := [.int .i64 x]
theorem encI_len (x : Int) : (encI x).length = 1 := rfl
theorem encI_one (x : Int) : ∀ u ∈ encI x, u.oneCell' = true := by
  intro u hu
  simp at hu
  subst hu
  rfl
theorem infoInt : (Try.prog.info? 3).map (fun i => (i.zero, i.size, i.bytes)) = some (some (.int .i64 0), 1, 8) := by kernel_rfl
theorem cellsOf_int (L : List Int) : cellsOf encI L = L.map (fun x => Value.int .i64 x) := by
  induction L with
  | nil => rfl
  | cons x L ih =>
    rw [show cellsOf encI (x :: L) = encI x ++ cellsOf encI L from rfl, ih]
    rfl
/-- What lies at a slice's cells, as a row. -/
theorem cells_given {w W : World} {z : List Int} {ao : Option Addr} {b off : Nat} (hao : 0 < z.length → ao = some ⟨b, off, none⟩ ∧ b < w.heap.size)
    (hD : ∀ i, i < z.length → w.cell? ⟨b, off + i, none⟩ = some (.int .i64 (z.getD i 0))) (hT : Turned [] w W) (k : Nat) :
    ∀ ad, ao = some ad → ∀ j u, (cellsOf encI (z.take k))[j]? = some u → W.cell? (ad.add j) = some u := by
  intro ad had j u hu
  rw [cellsOf_int, List.getElem?_map] at hu
  simp only [Option.map_eq_some_iff] at hu
  obtain ⟨x, hx, rfl⟩ := hu
  rw [List.getElem?_take] at hx
  split at hx
  case isFalse => cases hx
  case isTrue hjk =>
    obtain ⟨hj, hxe⟩ := List.getElem?_eq_some_iff.1 hx
    obtain ⟨h1, h2⟩ := hao (by omega)
    rw [h1] at had
    cases had
    rw [Addr.add_lit, (hT.below (B := w.heap.size) (by simp) (Nat.le_refl _)).cell (p := ⟨b, off + j, none⟩) h2, hD j hj, ← hxe]
    simp [hj]
/-- The values behind what was poured over. -/
theorem pourB_val {za zb : List Int} {K i : Nat} {l : Int} (hK : K ≤ za.length) (hi : i < zb.length + K) :
    ((pourB (pushed zb zb.length) l (pushed za za.length) K).getD i (0, 0)).2 = (zb ++ za.take K).getD i 0 := by
  unfold pourB
  rw [List.getD_eq_getElem?_getD, List.getD_eq_getElem?_getD, List.getElem?_append, List.getElem?_append, pushed_len]
  by_cases h : i < zb.length
  · rw [if_pos h, if_pos h]
    have h1 := pushed_at zb h
    rw [List.getD_eq_getElem?_getD] at h1
    rw [h1, List.getD_eq_getElem?_getD]
  · rw [if_neg h, if_neg h, List.getElem?_map, List.getElem?_range (by omega)]
    simp only [Option.map_some, Option.getD_some]
    rw [pushed_at za (by omega), List.getElem?_take, if_pos (by omega), List.getD_eq_getElem?_getD]
theorem run_max_one {P : Program} {w : World} (ts : Array TypeId) (t : TypeId) (x y : Int) : (Builtin.max_ ts t #[.int .i64 x, .int .i64 y]).run P w = .ok (.int .i64 (max x y)) w := by
  rw [run_max_int2]
  congr 2
  split <;> omega
theorem run_min_one {P : Program} {w : World} (ts : Array TypeId) (t : TypeId) (x y z : Int) : (Builtin.min_ ts t #[.int .i64 x, .int .i64 y, .int .i64 z]).run P w = .ok (.int .i64 (min (min x y) z)) w := by
  rw [run_min_int3]
  congr 2
  split <;> split <;> omega
attribute [local go_sem ↓] run_max_one run_min_one

set_option maxRecDepth 100000 in
set_option maxHeartbeats 4000000 in
theorem pours_walk (Q : QSaid) (HA : Awake5) (ao bo : Option Addr) (ab aoff acap bb boff bcap : Nat) (za zb : List Int) (n : Int) (w : World) (hla : za.length ≤ 40) (hlb : zb.length ≤ 40) (hca : za.length ≤ acap) (hcb : zb.length ≤ bcap)
    (hao : 0 < za.length → ao = some ⟨ab, aoff, none⟩ ∧ ab < w.heap.size) (hn1 : ao = none → za.length = 0 ∧ acap = 0) (hn2 : bo = none → zb.length = 0 ∧ bcap = 0) (hbo : 0 < zb.length → bo = some ⟨bb, boff, none⟩ ∧ bb < w.heap.size)
    (hDa : ∀ i, i < za.length → w.cell? ⟨ab, aoff + i, none⟩ = some (.int .i64 (za.getD i 0))) (hDb : ∀ i, i < zb.length → w.cell? ⟨bb, boff + i, none⟩ = some (.int .i64 (zb.getD i 0))) :
    Calls Try.prog 5 #[.slice ao za.length acap, .slice bo zb.length bcap, .int .i64 n] w fun e w' => e = .returned (.bool true) ∧ Turned [] w w' := by
  obtain ⟨na, hna⟩ : ∃ k, za.length = k := ⟨_, rfl⟩
  obtain ⟨nb, hnb⟩ : ∃ k, zb.length = k := ⟨_, rfl⟩
  rw [hna] at hla hca hao hDa hn1 ⊢
  rw [hnb] at hlb hcb hbo hDb hn2 ⊢
  have HN1 := Lib.hid hn1
  have HN2 := Lib.hid hn2
  have HNA := Lib.hid hna
  have HNB := Lib.hid hnb
  have HDA := Lib.hid hDa
  have HDB := Lib.hid hDb
  have HAO := Lib.hid hao
  have HBO := Lib.hid hbo
  have AW := Lib.hid HA
  clear hna hnb hDa hDb hao hbo HA hn1 hn2
  go_enter Try.func5, Try.ntmps5
  have g1 : ¬ (40 < (na : Int)) := by omega
  have g2 : ¬ (40 < (nb : Int)) := by omega
  go_wp2_with fail
  refine (AW.out w).mono ?_
  rintro e w0 ⟨rfl, t0⟩
  have T0 := Lib.hid t0
  clear t0
  go_wp2_with fail
  refine (Q.new 50 w0).mono ?_
  rintro e w1 ⟨A, X, rfl, h1, t1, x1⟩
  have H1 := Lib.hid (show Q.At w1 A X 50 0 (pushed za 0) from h1)
  have T1 := Lib.hid (T0.out.then0 t1)
  have X1 := Lib.hid (fun k hk => Nat.le_trans T0.out.size (x1 k hk) : ∀ k ∈ X, w.heap.size ≤ k)
  clear h1 t1 x1
  go_wp2_with fail
  refine (Q.new 50 w1).mono ?_
  rintro e w2 ⟨B, Y, rfl, h2, t2, x2⟩
  have H2 := Lib.hid (show Q.At w2 B Y 50 0 (pushed zb 0) from h2)
  have T2 := Lib.hid (T1.out.then0 t2)
  have H1' := Lib.hid (Q.keep H1.out t2 (by simp))
  have XY := Lib.hid (fun k hk hy => by have := Q.lt H1.out k hk; have := x2 k hy; omega : ∀ k ∈ X, k ∉ Y)
  have Y1 := Lib.hid (fun k hk => Nat.le_trans T1.out.size (x2 k hk) : ∀ k ∈ Y, w.heap.size ≤ k)
  clear h2 t2 x2 H1 T1 T0
  go_wp2_with fail
  go_loopw [36] (fun i wr => ∃ k : Nat, k ≤ na ∧ i = .int .i64 k ∧ ∃ X', Q.At wr A X' 50 k (pushed za k) ∧ Q.At wr B Y 50 0 (pushed zb 0) ∧ (∀ x ∈ X', w.heap.size ≤ x) ∧ (∀ x ∈ X', x ∉ Y) ∧ Turned [] w wr) (fun i _ => na - (intOf i).toNat)
  case atStart => exact ⟨0, Nat.zero_le _, rfl, X, H1'.out, H2.out, X1.out, XY.out, T2.out⟩
  case round =>
    obtain ⟨k, hk, rfl, X', hA, hB, hX, hXY, hT⟩ := hrel
    by_cases hlt : k < na
    · obtain ⟨rfl, hb⟩ := HAO.out (by omega)
      have hcell := HDA.out k hlt
      rw [← (hT.below (B := w.heap.size) (by simp) (Nat.le_refl _)).cell (p := ⟨ab, aoff + k, none⟩) hb] at hcell
      have hput := Q.push (za.getD k 0) hA (by rw [pushed_len]; omega) (by omega) (by omega)
      obtain ⟨p1, p2⟩ := psL_pushed (z := za) (k := k) (m := 50) (by omega)
      rw [p1, p2] at hput
      have HP := Lib.hid hput
      have HB := Lib.hid hB
      have HX := Lib.hid hX
      have HXY := Lib.hid hXY
      have HT := Lib.hid hT
      have HY := Lib.hid (Q.lt hB)
      obtain ⟨zk, hzk⟩ : ∃ zk, za.getD k 0 = zk := ⟨_, rfl⟩
      rw [hzk] at hcell HP
      have l1 : (k : Int) < na := by omega
      clear hA hB hX hXY hT hput hzk p1 p2
      go_wp2_with fail
      refine HP.out.mono ?_
      rintro e wa ⟨rfl, X'', a1, a2, a3⟩
      have A1 := Lib.hid a1
      have A2 := Lib.hid (Q.keep HB.out a2 (fun y hy hx => HXY.out y hx hy))
      have A3 := Lib.hid (HT.out.trans a2 (fun x hx => .inr (HX.out x hx)))
      have A4 : Hid (∀ x ∈ X'', w.heap.size ≤ x) := Lib.hid (fun x hx => by
        rcases a3 x hx with h | h
        · exact HX.out x h
        · have := HT.out.size; omega)
      have A5 : Hid (∀ x ∈ X'', x ∉ Y) := Lib.hid (fun x hx hy => by
        rcases a3 x hx with h | h
        · exact HXY.out x h hy
        · have := HY.out x hy; omega)
      clear a1 a2 a3
      go_wp2
      go_roundw
      case rel => exact ⟨k + 1, by omega, by go_num, X'', A1.out, A2.out, A4.out, A5.out, A3.out⟩
      case measure => simp [intOf]; omega
    · obtain rfl : k = na := by omega
      have HA1 := Lib.hid hA
      have HB1 := Lib.hid hB
      have HX1 := Lib.hid hX
      have HXY1 := Lib.hid hXY
      have HT1 := Lib.hid hT
      clear hA hB hX hXY hT H1' H2 X1 XY T2
      go_wp2_with fail
      obtain ⟨wo, hwo⟩ : ∃ wo : World, wo = wr := ⟨_, rfl⟩
      rw [← hwo] at HA1 HB1 HT1 ⊢
      clear hwo
      go_loopw [46] (fun i wr => ∃ q : Nat, q ≤ nb ∧ i = .int .i64 q ∧ ∃ Y', Q.At wr A X' 50 k (pushed za k) ∧ Q.At wr B Y' 50 q (pushed zb q) ∧ (∀ x ∈ Y', w.heap.size ≤ x) ∧ (∀ x ∈ X', x ∉ Y') ∧ Turned [] w wr) (fun i _ => nb - (intOf i).toNat)
      case atStart => exact ⟨0, Nat.zero_le _, rfl, Y, HA1.out, HB1.out, Y1.out, HXY1.out, HT1.out⟩
      case round =>
        obtain ⟨q, hq, rfl, Y', hA, hB, hX, hXY, hT⟩ := hrel
        by_cases hlt2 : q < nb
        · obtain ⟨rfl, hb⟩ := HBO.out (by omega)
          have hcell := HDB.out q hlt2
          rw [← (hT.below (B := w.heap.size) (by simp) (Nat.le_refl _)).cell (p := ⟨bb, boff + q, none⟩) hb] at hcell
          have hput := Q.push (zb.getD q 0) hB (by rw [pushed_len]; omega) (by omega) (by omega)
          obtain ⟨p1, p2⟩ := psL_pushed (z := zb) (k := q) (m := 50) (by omega)
          rw [p1, p2] at hput
          have HP := Lib.hid hput
          have HA2 := Lib.hid hA
          have HY2 := Lib.hid hX
          have HXY := Lib.hid hXY
          have HT := Lib.hid hT
          have HL := Lib.hid (Q.lt hA)
          obtain ⟨zk, hzk⟩ : ∃ zk, zb.getD q 0 = zk := ⟨_, rfl⟩
          rw [hzk] at hcell HP
          have l1 : (q : Int) < nb := by omega
          clear hA hB hX hXY hT hput hzk p1 p2
          go_wp2_with fail
          refine HP.out.mono ?_
          rintro e wa ⟨rfl, Y'', a1, a2, a3⟩
          have A1 := Lib.hid a1
          have A2 := Lib.hid (Q.keep HA2.out a2 HXY.out)
          have A3 := Lib.hid (HT.out.trans a2 (fun x hx => .inr (HY2.out x hx)))
          have A4 : Hid (∀ x ∈ Y'', w.heap.size ≤ x) := Lib.hid (fun x hx => by
            rcases a3 x hx with h | h
            · exact HY2.out x h
            · have := HT.out.size; omega)
          have A5 : Hid (∀ x ∈ X', x ∉ Y'') := Lib.hid (fun x hx hy => by
            rcases a3 x hy with h | h
            · exact HXY.out x hx h
            · have := HL.out x hx; omega)
          clear a1 a2 a3
          go_wp2
          go_roundw
          case rel => exact ⟨q + 1, by omega, by go_num, Y'', A2.out, A1.out, A4.out, A5.out, A3.out⟩
          case measure => simp [intOf]; omega
        · obtain rfl : q = nb := by omega
          have hpour := Q.pour n hA hB hXY (by rw [pushed_len]; omega) (by rw [pushed_len]; omega) (by omega) (by omega)
          obtain ⟨K, hK⟩ : ∃ K, pourK n (pushed za k) (pushed zb q) 50 = K := ⟨_, rfl⟩
          rw [hK] at hpour
          have hKv : (K : Int) = min (min (max n 0) k) (50 - q) := by
            rw [← hK]
            unfold pourK
            rw [pushed_len, pushed_len]
            omega
          have hKa : K ≤ k := by omega
          have hM : min (min (max n 0) (k : Int)) (50 - (q : Int)) = (K : Int) := hKv.symm
          have HKV := Lib.hid hKv
          have hq40 : (q : Int) ≤ 40 := by omega
          have hKa' : (K : Int) ≤ k := by omega
          have hK0 : (0 : Int) ≤ K := by omega
          have hlen1 : ((k - K : Nat) : Int) = (k : Int) - K := by omega
          have hlen2 : ((q + K : Nat) : Int) = (q : Int) + K := by omega
          clear hKv
          have HP := Lib.hid hpour
          have HT := Lib.hid hT
          have HX2 := Lib.hid hX
          clear hpour hA hB hX hXY hT hK HA1 HB1 HXY1 HT1 Y1
          go_wp2_with fail
          refine HP.out.mono ?_
          rintro e w3 ⟨rfl, X3, Y3, b1, b2, b3, b4, b5, b6⟩
          have HT3 := Lib.hid (HT.out.trans b4 (fun x hx => .inr (by
            rcases List.mem_append.1 hx with h | h
            · exact HX1.out x h
            · exact HX2.out x h)))
          have HX3 : Hid (∀ x ∈ X3, w.heap.size ≤ x) := Lib.hid (fun x hx => by
            rcases b5 x hx with h | h
            · exact HX1.out x h
            · have := HT.out.size; omega)
          have HY3 : Hid (∀ x ∈ Y3, w.heap.size ≤ x) := Lib.hid (fun x hx => by
            rcases b6 x hx with h | h
            · exact HX2.out x h
            · have := HT.out.size; omega)
          have B1 := Lib.hid b1
          have B2 := Lib.hid b2
          have B3 := Lib.hid b3
          have L1 := Lib.hid (Q.len b1)
          have L2 := Lib.hid (fun n : Nat => Q.len (Q.keep b2 ((Turned.refl [] w3).drewN n) (by simp)))
          rw [List.length_drop, pushed_len] at L1
          rw [pourB_len, pushed_len] at L2
          rw [hlen1] at L1
          rw [hlen2] at L2
          clear hlen1 hlen2
          clear b1 b2 b3 b4 b5 b6 HP HT HX1 HX2
          obtain ⟨ii, hi, hz0, hz1, hz2⟩ := info_parts infoInt
          go_wp2_with fail
          refine L1.out.mono ?_
          rintro e w4 ⟨rfl, n4, rfl⟩
          go_wp2_with fail
          refine (L2.out n4).mono ?_
          rintro e w5 ⟨rfl, n5, rfl⟩
          obtain ⟨wz, hwz⟩ : ∃ wz, (w3.drewN n4).drewN n5 = wz := ⟨_, rfl⟩
          have tz : Turned [] w3 wz := hwz ▸ ((Turned.refl [] w3).drewN n4).drewN n5
          have B1 := Lib.hid (Q.keep B1.out tz (by simp))
          have B2 := Lib.hid (Q.keep B2.out tz (by simp))
          have HT3 := Lib.hid (HT3.out.then0 tz)
          rw [hwz]
          clear hwz tz L1 L2
          have hta : Turned [] w wz := HT3.out
          have GB := Lib.hid (fun (W : World) (hW : Turned [] w W) => cells_given (z := zb) (W := W) (b := bb) (off := boff) (by rw [HNB.out]; exact HBO.out) (by rw [HNB.out]; exact HDB.out) hW q)
          have GA := Lib.hid (fun (W : World) (hW : Turned [] w W) => cells_given (z := za) (W := W) (b := ab) (off := aoff) (by rw [HNA.out]; exact HAO.out) (by rw [HNA.out]; exact HDA.out) hW K)
          have lb := Lib.hid (show (cellsOf encI (zb.take q)).length = q * 1 by rw [cellsOf_len encI_len, List.length_take, HNB.out]; omega)
          have la := Lib.hid (show (cellsOf encI (za.take K)).length = K * 1 by rw [cellsOf_len encI_len, List.length_take, HNA.out]; omega)
          have k1 : K ≤ acap := by omega
          go_wp2_with fail
          go_region_law (first
            | (refine step_append_any _ rfl (.tmp 86) (.tmp 87) 51 rfl 3 ii (.int .i64 0) 1 8 Try.underlying51 hi hz0 hz1 hz2 rfl (by decide) (.slice (some ⟨wz.heap.size, 0, none⟩) 0 0) 0 [] rfl (ownsRow_empty wz 3 1) bo q bcap (cellsOf encI (zb.take q)) rfl lb.out HN2.out (GB.out _ (((hta.alloc _)).drew)) (cells_one encI_one _) (by unfold maxLen; omega) (by omega) ?_
               intro a1 cap1 W1 hown1 hgrow1 hnew1
               rw [Nat.zero_add, List.nil_append] at hown1
               rw [Nat.zero_add] at hnew1
               have t1 : Turned [] w W1 := Turned.grown ((hta.alloc _).drew) hgrow1 (fun k hk => .inr (by have := hta.size; simp [Value.ownBlock] at hk; omega))
               have t1' : Turned [] wz W1 := Turned.grown (((Turned.refl [] wz).alloc _).drew) hgrow1 (fun k hk => .inr (by simp [Value.ownBlock] at hk; omega))
               have HO1 := Lib.hid hown1
               have hn1 : ∀ x ∈ (Value.slice a1 q cap1).ownBlock.toList, wz.heap.size ≤ x := fun x hx => by
                 rcases hnew1 x hx with h | h
                 · simp [Value.ownBlock] at h
                   omega
                 · have h' : wz.heap.size + 1 ≤ x := by simpa using h
                   omega
               have HN3 := Lib.hid hn1
               have HT1 := Lib.hid (And.intro t1 t1')
               clear hown1 hgrow1 hnew1 t1 t1' hn1)
            | (refine step_append_any _ rfl (.tmp 88) (.tmp 91) 51 rfl 3 ii (.int .i64 0) 1 8 Try.underlying51 hi hz0 hz1 hz2 rfl (by decide) _ _ _ rfl HO1.out ao K acap (cellsOf encI (za.take K)) rfl la.out (fun h => ⟨by have := HN1.out h; omega, (HN1.out h).2⟩) (GA.out _ HT1.out.1) (cells_one encI_one _) (by unfold maxLen; omega) (by omega) ?_
               intro a2 cap2 W2 hown2 hgrow2 hnew2
               have t2 : Turned [] wz W2 := Turned.grown HT1.out.2 hgrow2 (fun k hk => .inr (HN3.out k (by rw [Option.mem_toList]; exact hk)))
               have HO2 := Lib.hid hown2
               have HT2 := Lib.hid t2
               have HN4 : Hid (∀ x ∈ (Value.slice a2 (q + K) cap2).ownBlock.toList, wz.heap.size ≤ x) := Lib.hid (fun x hx => by
                 rcases hnew2 x hx with h | h
                 · exact HN3.out x h
                 · have := HT1.out.2.size
                   omega)
               clear hown2 hgrow2 hnew2 t2))
          obtain ⟨V, hV⟩ : ∃ V, zb ++ za.take K = V := ⟨_, rfl⟩
          have hVl : V.length = q + K := by
            rw [← hV, List.length_append, List.length_take, HNA.out, HNB.out]
            omega
          have ho : W2.ownsRow 0 3 1 (.slice a2 (q + K) cap2) (q + K) (cellsOf encI V) := by
            have h := HO2.out
            rw [← cellsOf_append, List.take_of_length_le (by rw [HNB.out]; omega), hV] at h
            exact h
          obtain ⟨P, hP⟩ : ∃ P, pourB (pushed zb q) (q : Int) (pushed za k) K = P := ⟨_, rfl⟩
          have hPl : P.length = q + K := by rw [← hP, pourB_len, pushed_len]
          have hPV : ∀ i, i < q + K → (P.getD i (0, 0)).2 = V.getD i 0 := by
            intro i hi
            have h := pourB_val (za := za) (zb := zb) (K := K) (i := i) (l := (q : Int)) (by rw [HNA.out]; omega) (by rw [HNB.out]; omega)
            rw [HNA.out, HNB.out, hP, hV] at h
            exact h
          rw [hP] at B2
          have B1' := Lib.hid (Q.keep B1.out HT2.out (by simp))
          have B2' := Lib.hid (Q.keep B2.out HT2.out (by simp))
          have HT4 := Lib.hid (HT3.out.then0 HT2.out)
          have HO := Lib.hid ho
          have HN5 : Hid (∀ x ∈ (Value.slice a2 (q + K) cap2).ownBlock.toList, x ∉ Y3) := Lib.hid (fun x hx hy => by
            have h1 := HN4.out x hx
            have h2 := Q.lt B2.out x hy
            omega)
          have HVl := Lib.hid hVl
          have HPl := Lib.hid hPl
          have HPV := Lib.hid hPV
          clear hV hVl ho hP hPl hPV B1 B2 HT2 HT1 HO1 HO2 HN3 HN4 HT3 hta GB GA lb la hi hz0 hz1 hz2
          simp only [List.getElem_toArray, List.getElem_cons_succ, List.getElem_cons_zero, Act.put, List.setIfInBounds_toArray]
          simp only [List.set_cons_succ, List.set_cons_zero]
          go_wp2
          obtain ⟨wo2, hwo2⟩ : ∃ wo2 : World, wo2 = wr := ⟨_, rfl⟩
          clear hwo2
          go_loopw [94] (fun i wr => ∃ j : Nat, j ≤ q + K ∧ i = .int .i64 j ∧ ∃ Y', Q.At wr A X3 50 k ((pushed za k).drop K) ∧ Q.At wr B Y' 50 ((q : Int) + K) (P.drop j) ∧ wr.ownsRow 0 3 1 (.slice a2 (q + K) cap2) (q + K) (cellsOf encI V) ∧
            (∀ x ∈ Y', w.heap.size ≤ x) ∧ (∀ x ∈ X3, x ∉ Y') ∧ (∀ x ∈ (Value.slice a2 (q + K) cap2).ownBlock.toList, x ∉ Y') ∧ Turned [] w wr) (fun i _ => q + K - (intOf i).toNat)
          case atStart => exact ⟨0, Nat.zero_le _, rfl, Y3, B1'.out, by simpa using B2'.out, HO.out, HY3.out, B3.out, HN5.out, HT4.out⟩
          case round =>
            obtain ⟨j, hj, rfl, Y', r1, r2, r3, r4, r5, r6, r7⟩ := hrel
            by_cases hlt3 : j < q + K
            · obtain ⟨g, cap', hv, hc1, hc2⟩ := ownsRow_pos r3 (by omega)
              injection hv with e1 e2 e3
              subst e1
              subst e3
              have hgY := r6 g (by simp [Value.ownBlock])
              have hcell := (row_cells encI_len (by rw [HVl.out]; exact r3) (j := j) (by rw [HVl.out]; exact hlt3) 0 (by omega)).1
              simp only [Nat.mul_one, Nat.add_zero] at hcell
              obtain ⟨f1, f2, f3⟩ := tk_first (A := P) (k := j) (by rw [HPl.out]; exact hlt3)
              have hpop := Q.pop r2 (by rw [List.length_drop, HPl.out]; omega)
              rw [f1, f2, f3, HPV.out j hlt3] at hpop
              obtain ⟨vj, hvj⟩ : ∃ v, V.getD j 0 = v := ⟨_, rfl⟩
              have hvj2 : V[j]'(by rw [HVl.out]; exact hlt3) = vj := by rw [← hvj, List.getD_eq_getElem?_getD, List.getElem?_eq_getElem (by rw [HVl.out]; exact hlt3)]; rfl
              rw [hvj2] at hcell
              rw [hvj] at hpop
              have hcell' : wr.cell? ⟨g, j, none⟩ = some (.int .i64 vj) := hcell
              have HP := Lib.hid hpop
              have R1 := Lib.hid r1
              have R3 := Lib.hid r3
              have R4' := Lib.hid r4
              have R5' := Lib.hid r5
              have R6 := Lib.hid r6
              have R7 := Lib.hid r7
              have LX := Lib.hid (Q.lt r1)
              have l1 : (j : Int) < (q : Int) + K := by omega
              have l2 : (j : Int) < ((q + K : Nat) : Int) := by omega
              have l3 : j ≤ 100 := by omega
              clear r1 r2 r3 r4 r5 r6 r7 hpop f1 f2 f3 hvj hvj2 hcell hgY hc1 hc2
              go_wp2_with fail
              refine HP.out.mono ?_
              rintro e wa ⟨rfl, Y'', a1, a2, a3⟩
              have A1 := Lib.hid a1
              have A2 := Lib.hid (Q.keep R1.out a2 R5'.out)
              have A3 := Lib.hid (ownsRow_same (w' := wa) R3.out fun x hx hl => a2.block x hl (R6.out x hx))
              have A4 := Lib.hid (R7.out.trans a2 (fun x hx => .inr (R4'.out x hx)))
              have A5 : Hid (∀ x ∈ Y'', w.heap.size ≤ x) := Lib.hid (fun x hx => by
                rcases a3 x hx with h | h
                · exact R4'.out x h
                · have := R7.out.size; omega)
              have A6 : Hid (∀ x ∈ X3, x ∉ Y'') := Lib.hid (fun x hx hy => by
                rcases a3 x hy with h | h
                · exact R5'.out x hx h
                · have := LX.out x hx; omega)
              have A7 : Hid (∀ x ∈ (Value.slice (some ⟨g, 0, none⟩) (q + K) cap2).ownBlock.toList, x ∉ Y'') := Lib.hid (fun x hx hy => by
                rcases a3 x hy with h | h
                · exact R6.out x hx h
                · have := ownsRow_lt R3.out x hx; omega)
              clear a1 a2 a3
              go_wp2
              go_roundw
              case rel => exact ⟨j + 1, by omega, by go_num, Y'', A2.out, A1.out, A3.out, A5.out, A6.out, A7.out, A4.out⟩
              case measure => simp [intOf]; omega
            · obtain rfl : j = q + K := by omega
              have R1 := Lib.hid r1
              have R7 := Lib.hid r7
              have l9 : ¬ ((q : Int) + K < (q : Int) + K) := by omega
              clear r1 r2 r3 r4 r5 r6 r7 B1' B2' HT4 HO HN5 HVl HPl HPV B3 HY3
              by_cases hk4 : K < k
              · obtain ⟨rfl, hb⟩ := HAO.out (by omega)
                have hne : acap ≠ K := by omega
                have hle : K ≤ acap := by omega
                have hsub : ((k - K : Nat) : Int) = (k : Int) - K := by omega
                go_wp2_with fail
                go_loopw [115] (fun i wr => ∃ j : Nat, j ≤ k - K ∧ i = .int .i64 j ∧ ∃ X4, Q.At wr A X4 50 k ((pushed za k).drop (K + j)) ∧ (∀ x ∈ X4, w.heap.size ≤ x) ∧ Turned [] w wr) (fun i _ => k - K - (intOf i).toNat)
                case atStart => exact ⟨0, Nat.zero_le _, rfl, X3, by simpa using R1.out, HX3.out, R7.out⟩
                case round =>
                  obtain ⟨j, hj, rfl, X4, r1, r2, r3⟩ := hrel
                  by_cases hlt4 : j < k - K
                  · have hcell := HDA.out (K + j) (by omega)
                    rw [← (r3.below (B := w.heap.size) (by simp) (Nat.le_refl _)).cell (p := ⟨ab, aoff + (K + j), none⟩) hb] at hcell
                    obtain ⟨f1, f2, f3⟩ := tk_first (A := pushed za k) (k := K + j) (by rw [pushed_len]; omega)
                    have hpop := Q.pop r1 (by rw [List.length_drop, pushed_len]; omega)
                    rw [f1, f2, f3, pushed_at za (by omega)] at hpop
                    obtain ⟨zj, hzj⟩ : ∃ z, za.getD (K + j) 0 = z := ⟨_, rfl⟩
                    rw [hzj] at hcell hpop
                    have hcell2 : wr.cell? ⟨ab, aoff + K + j, none⟩ = some (.int .i64 zj) := by rw [Nat.add_assoc]; exact hcell
                    have HP := Lib.hid hpop
                    have R2 := Lib.hid r2
                    have R3 := Lib.hid r3
                    have l1 : (j : Int) < (k : Int) - K := by omega
                    have l2 : (j : Int) < ((k - K : Nat) : Int) := by omega
                    have l3 : j ≤ 100 := by omega
                    clear r1 r2 r3 hpop f1 f2 f3 hzj
                    go_wp2_with fail
                    refine HP.out.mono ?_
                    rintro e wa ⟨rfl, X5, a1, a2, a3⟩
                    have A1 := Lib.hid a1
                    have A4 := Lib.hid (R3.out.trans a2 (fun x hx => .inr (R2.out x hx)))
                    have A5 : Hid (∀ x ∈ X5, w.heap.size ≤ x) := Lib.hid (fun x hx => by
                      rcases a3 x hx with h | h
                      · exact R2.out x h
                      · have := R3.out.size; omega)
                    clear a1 a2 a3
                    go_wp2
                    go_roundw
                    case rel => exact ⟨j + 1, by omega, by go_num, X5, A1.out, A5.out, A4.out⟩
                    case measure => simp [intOf]; omega
                  · have hjj : j = k - K := by omega
                    have l8 : ¬ ((j : Int) < (k : Int) - K) := by omega
                    have HT9 := Lib.hid r3
                    clear r1 r2 r3
                    go_wp2
                    go_ret
                    exact ⟨rfl, HT9.out⟩
              · obtain rfl : K = k := by omega
                go_wp2_with fail
                all_goals
                  go_loopw [115] (fun i wr => i = .int .i64 0 ∧ Turned [] w wr) (fun _ _ => 0)
                  case atStart => exact ⟨rfl, R7.out⟩
                  case round =>
                    obtain ⟨rfl, r3⟩ := hrel
                    have HT9 := Lib.hid r3
                    clear r3
                    go_wp2
                    go_ret
                    exact ⟨rfl, HT9.out⟩
end Go.Proofs.Ytnoiifnknkakoaa
