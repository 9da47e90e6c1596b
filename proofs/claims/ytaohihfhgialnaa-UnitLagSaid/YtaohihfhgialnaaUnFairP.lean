/-
  The program's Fair; all that is said of the program's unit.
-/
import Derived.Test.YtaohihfhgialnaaUnPair
import Derived.Test.YtaohihfhgialnaaUnSaid
namespace Go.Proofs.Ytaohihfhgialnaa
open Go.RowKit

theorem paired_no {w : World} {ao bo : Option Addr} {n m c c2 : Nat} (h : n ≠ m ∨ 64 < n) :
    Calls Try.prog 21 #[.slice ao n c, .slice bo m c2] w fun e w' => e = .returned (.tuple #[.slice none 0 0, .agg zeroPt, .bool false]) ∧ Below w.heap.size w w' := by
  have HR := Lib.hid (heap_alloc_new w (.cells zeroPt 46))
  have HB := Lib.hid ((Below.refl _ w).alloc (Nat.le_refl _) (.cells zeroPt 46))
  by_cases h1 : n = m
  · have h64 : (64 : Int) < (n : Int) := by omega
    subst h1
    go_enter Try.func21, Try.ntmps21
    go_wp2
    refine bodyPost_ret (part_result rfl rfl rfl rfl HR.out) rfl ?_
    exact ⟨rfl, HB.out⟩
  · have h1z : ¬ ((n : Int) = (m : Int)) := by omega
    clear h
    go_enter Try.func21, Try.ntmps21
    go_wp2
    refine bodyPost_ret (part_result rfl rfl rfl rfl HR.out) rfl ?_
    exact ⟨rfl, HB.out⟩
/-- What lies in memory as the parts are held against the whole. -/
structure FaI (w V : World) (g a n : Nat) (ts ws : List Int) (T W : Int) : Prop where
  pts : PtsAt V g n n ts ws
  all : V.heap[a]? = some (.cells #[.int .u64 T, .int .u64 W] 46 (0, 0))
  bel : Below w.heap.size w V
theorem FaI.below {w V V' : World} {g a n : Nat} {ts ws : List Int} {T W : Int} (h : FaI w V g a n ts ws T W) (hb : Below V.heap.size V V') : FaI w V' g a n ts ws T W :=
  ⟨h.pts.same (hb.block _ h.pts.lt), (hb.block _ (lt_of_block h.all)).trans h.all, h.bel.trans (hb.mono h.bel.size)⟩
set_option maxRecDepth 100000 in
set_option maxHeartbeats 3200000 in
theorem ufair_any {w : World} {ao bo : Option Addr} {b off c b2 off2 c2 : Nat} {ts ws : List Int} (k : Int) (hT : IArg w ao b off ts) (hW : IArg w bo b2 off2 ws) :
    Calls Try.prog 16 #[.slice ao ts.length c, .slice bo ws.length c2, .int .i64 k] w fun e w' => e = .returned (.bool (fairR ts ws k)) ∧ Below w.heap.size w w' := by
  by_cases hno : ts.length ≠ ws.length ∨ 64 < ts.length
  · rw [fair_unlike hno]
    have HN := Lib.hid (fun V => paired_no (w := V) (ao := ao) (bo := bo) (c := c) (c2 := c2) hno)
    clear hno hT hW
    generalize ts.length = n at HN ⊢
    generalize ws.length = m at HN ⊢
    go_enter Try.func16, Try.ntmps16
    go_wp2_with fail
    with_reducible refine (HN.out _).mono ?_
    rintro e w1 ⟨rfl, hb⟩
    have HB := Lib.hid (hb.alloc hb.size (.cells zeroPt 46))
    clear hb
    go_wp2
    go_ret
    exact ⟨rfl, HB.out⟩
  · have hl : ts.length = ws.length := by omega
    have h64 : ts.length ≤ 64 := by omega
    have HP := Lib.hid (paired_any (c := c) (c2 := c2) hT hW hl h64)
    have HF := Lib.hid (fair_each hl h64 k)
    have HK := Lib.hid (fun V => within_any k 0 2147483648 (by decide) (by decide) (by decide) V)
    have HKR := Lib.hid (bring_range (n := k) (lo := 0) (hi := 2147483648) (by decide))
    have HN := Lib.hid (fun i (h1 : i < ts.length) (h2 : i < ws.length) => near_off (ts := ts) (ws := ws) h1 h2 (bringR k 0 2147483648))
    obtain ⟨t0, t1⟩ := tsum_range (l := ts) (Nat.le_refl _) h64
    obtain ⟨u0, u1⟩ := wsum_range (l := ws) (Nat.le_refl _) (by omega)
    obtain ⟨kk, hkk⟩ : ∃ kk, bringR k 0 2147483648 = kk := ⟨_, rfl⟩
    rw [hkk] at HF HK HKR HN
    obtain ⟨T, hTd⟩ : ∃ T, psum bt ts ts.length = T := ⟨_, rfl⟩
    obtain ⟨W, hWd⟩ : ∃ W, psum bw ws ws.length = W := ⟨_, rfl⟩
    rw [hTd] at HP HN t0 t1
    rw [hWd] at HP HN u0 u1
    have hTw : Word T := by unfold Word; omega
    have hWw : Word W := by unfold Word; omega
    have hKw : Word kk := by have := HKR.out; unfold Word; omega
    obtain ⟨n, hn⟩ : ∃ n, ts.length = n := ⟨_, rfl⟩
    have hnw : ws.length = n := by omega
    have HNT := Lib.hid hn
    have HNW := Lib.hid hnw
    rw [hn] at HP HF h64
    rw [hnw] at HP ⊢
    rw [hn]
    have hnz : (n : Int) ≤ 64 := by omega
    clear hno hl hT hW hkk hTd hWd hn hnw t0 t1 u0 u1
    go_enter Try.func16, Try.ntmps16
    go_wp2_with fail
    with_reducible refine HP.out.mono ?_
    rintro e w1 ⟨rfl, hp, hb⟩
    have hFA : FaI w (w1.alloc (.cells #[.int .u64 T, .int .u64 W] 46)) (w.heap.size + 1) w1.heap.size n ts ws T W :=
      ⟨hp.same (Below.heap_alloc _ _ _ hp.lt), heap_alloc_new w1 _, hb.alloc hb.size _⟩
    have HFA := Lib.hid hFA
    clear hp hb hFA HP
    go_wp2_with fail
    with_reducible refine (HK.out _).mono ?_
    rintro e w2 ⟨rfl, rfl⟩
    go_wp2_with fail
    generalize w1.alloc (.cells #[.int .u64 T, .int .u64 W] 46) = W0 at HFA ⊢
    generalize w.heap.size + 1 = g at HFA ⊢
    generalize w1.heap.size = a at HFA ⊢
    go_loopw [26] (fun ix V => ∃ i : Nat, i ≤ n ∧ ix = .int .i64 i ∧ Hid (FaI w V g a n ts ws T W) ∧ Hid (∀ j, j < i → offR ts ws j ≤ kk * sumR (weightsR ws))) (fun ix _ => n - (intOf ix).toNat)
    case atStart => exact ⟨0, Nat.zero_le _, rfl, HFA, Lib.hid fun j hj => by omega⟩
    case round =>
      clear HFA
      obtain ⟨i, hi, rfl, HI, HE⟩ := hrel
      by_cases hlt : i < n
      · have hltz : (i : Int) < (n : Int) := by omega
        have hit : i < ts.length := by rw [HNT.out]; exact hlt
        have hiw : i < ws.length := by rw [HNW.out]; exact hlt
        obtain ⟨g0, g1⟩ := HI.out.pts.cell hlt hit hiw
        obtain ⟨c0, c1⟩ := part_cells HI.out.all
        have la := lt_of_block HI.out.all
        have lg := HI.out.pts.lt
        have hnear := HN.out i hit hiw
        have hbt := bt_range ts[i]
        have hbw := bw_range ws[i]
        have hxw : Word (bt ts[i]) := by unfold Word; omega
        have hyw : Word (bw ws[i]) := by unfold Word; omega
        have HC := Lib.hid (fun V => near_any _ _ _ _ _ hxw hyw hTw hWw hKw V)
        rw [hnear] at HC
        clear hnear hxw hyw hbt hbw
        generalize bt ts[i] = x at g0 HC
        generalize bw ws[i] = y at g1 HC
        have HB2 := Lib.hid (HI.out.below ((Below.refl _ _).alloc (Nat.le_refl _) (.cells #[.int .u64 x, .int .u64 y] 46)))
        by_cases hd : offR ts ws i ≤ kk * sumR (weightsR ws)
        · rw [decide_eq_true hd] at HC
          have HE2 : Hid (∀ j, j < i + 1 → offR ts ws j ≤ kk * sumR (weightsR ws)) := Lib.hid fun j hj => by
            rcases Nat.lt_or_ge j i with h1 | h1
            · exact HE.out j h1
            · obtain rfl : j = i := by omega
              exact hd
          clear hd
          go_wp2_with fail
          with_reducible refine (HC.out _).mono ?_
          rintro e w4 ⟨rfl, hb⟩
          have HB4 := Lib.hid (HB2.out.below hb)
          clear hb
          go_wp2
          go_roundw
          case rel => exact ⟨i + 1, by omega, by go_num, HB4, HE2⟩
          case measure => simp [intOf]; omega
        · have hff : fairR ts ws k = false := by
            rw [Bool.eq_false_iff]
            intro h
            exact hd (HF.out.1 h i hlt)
          rw [decide_eq_false hd] at HC
          have HFF := Lib.hid hff
          clear hff hd
          go_wp2_with fail
          with_reducible refine (HC.out _).mono ?_
          rintro e w4 ⟨rfl, hb⟩
          have HB4 := Lib.hid (HB2.out.below hb)
          clear hb
          go_wp2
          go_ret
          exact ⟨by rw [HFF.out]; rfl, HB4.out.bel⟩
      · obtain rfl : i = n := by omega
        have hff : fairR ts ws k = true := HF.out.2 HE.out
        have HFF := Lib.hid hff
        clear hff
        go_wp2
        go_ret
        exact ⟨by rw [HFF.out]; rfl, HI.out.bel⟩
/-- All that is said of the program's unit. -/
theorem unSaid : UnSaid where
  core n w := (ucore_any n w).mono fun _ _ h => ⟨h.1, h.2 ▸ Below.refl _ _⟩
  lock n w := (ulock_any n w).mono fun _ _ h => ⟨h.1, 0, h.2⟩
  reach n g w := (ureach_any n g w).mono fun _ _ h => ⟨h.1, h.2 ▸ Below.refl _ _⟩
  slack n s c w := (uslack_any n s c w).mono fun _ _ h => ⟨h.1, h.2 ▸ Below.refl _ _⟩
  clamp v f r w _ hf hr := (uclamp_any v f r hf hr w).mono fun _ _ h => ⟨h.1, h.2 ▸ Below.refl _ _⟩
  fair _ _ _ _ _ _ _ _ _ _ k _ hT hW _ _ := ufair_any k hT hW
end Go.Proofs.Ytaohihfhgialnaa
