/-
  CritMore, given what is said of the program.
-/
import Derived.Test.YtmcfjlkjijaflaaCrRow
import Derived.Test.YtmcfjlkjijaflaaRgMayL
import Derived.Deep.RegionHeld3
import Derived.Laws.Small
namespace Go.Proofs.Ytmcfjlkjijaflaa
open Go.RowKit

theorem run_max_cr {P : Program} {w : World} (ts : Array TypeId) (t : TypeId) (x y : Int) : (Builtin.max_ ts t #[.int .i64 x, .int .i64 y]).run P w = .ok (.int .i64 (max x y)) w := by
  rw [run_max_int2]
  congr 2
  split <;> omega
attribute [local go_sem ↓] run_max_cr
/-- The program's box. -/
structure CmI (w wr : World) (pv : Array Value) : Prop where
  box : wr.heap[w.heap.size]? = some (.cells pv 24 (0, 0))
  bel : Below w.heap.size w wr
theorem CmI.below {w wr wr' : World} {pv : Array Value} (h : CmI w wr pv) (hb : Below wr.heap.size wr wr') : CmI w wr' pv :=
  ⟨(hb.block _ (lt_of_block h.box)).trans h.box, h.bel.trans (hb.mono h.bel.size)⟩
theorem CmI.drew {w wr : World} {pv : Array Value} (h : CmI w wr pv) : CmI w wr.drew pv := ⟨h.box, h.bel.drew⟩
/-- An append onto the row of locks. -/
theorem LkRow.push {w wx w4 : World} {pv : Array Value} {v v' : Value} {ls : List Lk} {x : Lk} (hi : CmI w wx pv) (h : LkRow (w.heap.size + 1) wx v ls)
    (hown : w4.ownsRow (w.heap.size + 1) 35 5 v' (ls.length + 1) (cellsOf lkC ls ++ lkC x)) (hg : wx.grownBy w4 v.ownBlock) : LkRow (w.heap.size + 1) w4 v' (ls ++ [x]) ∧ CmI w w4 pv := by
  have hb : Below (w.heap.size + 1) wx w4 := app_below (Below.refl _ _) (lt_of_block hi.box) (Nat.le_refl _) h hg
  refine ⟨?_, (hb.block _ (Nat.lt_succ_self _)).trans hi.box, hi.bel.trans (hb.mono (Nat.le_succ _))⟩
  unfold LkRow
  rw [cellsOf_snoc, List.length_append, List.length_singleton]
  exact hown
/-- Behind the last append. -/
theorem cm_after {w wx w5 : World} {pv : Array Value} {v v' : Value} {ls : List Lk} {x : Lk} (hi : CmI w wx pv) (h : LkRow (w.heap.size + 1) wx v ls)
    (hown : w5.ownsRow 0 35 5 v' (ls.length + 1) (cellsOf lkC ls ++ lkC x)) (hg : wx.grownBy w5 v.ownBlock) : CmI w w5 pv ∧ ∃ ao b cap, v' = .slice ao (ls.length + 1) cap ∧ LArg w5 ao b 0 (ls ++ [x]) := by
  have hr : ∀ k, v.ownBlock = some k → w.heap.size + 1 ≤ k := fun k hk => (h.lt k hk).1
  refine ⟨⟨(hg.block _ (lt_of_block hi.box) (fun e => ?_)).trans hi.box, hi.bel.grown hg hi.bel.size (fun k hk => Nat.le_trans (Nat.le_succ _) (hr k hk))⟩, ?_⟩
  · have := hr _ e.symm
    omega
  · have hrow : LkRow 0 w5 v' (ls ++ [x]) := by
      unfold LkRow
      rw [cellsOf_snoc, List.length_append, List.length_singleton]
      exact hown
    obtain ⟨ao, b, cap, hv, hla⟩ := LArg.of_row hrow
    rw [List.length_append, List.length_singleton] at hv
    exact ⟨ao, b, cap, hv, hla⟩
theorem row_zero {w : World} {base : Nat} {e : TypeId} {size : Nat} {v : Value} {n : Nat} {xs : List Value} (h : w.ownsRow base e size v n xs) : w.ownsRow 0 e size v n xs := by
  refine ⟨h.1, ?_⟩
  rcases h.2 with h2 | ⟨g, cap, cur, rfl, _, rest⟩
  · exact .inl h2
  · exact .inr ⟨g, cap, cur, rfl, Nat.zero_le _, rest⟩
set_option maxRecDepth 100000 in
set_option maxHeartbeats 12800000 in
theorem critmore_main (S : CrSaid) (f : Bool) (ao : Option Addr) (b off cap : Nat) (L : List Opn) (ao2 : Option Addr) (b2 off2 cap2 : Nat) (locks : List Lk) (more : Int) (w : World) (h : OArg w ao b off L) (hl : LArg w ao2 b2 off2 locks) (hs : ∀ x ∈ L, small x.1)
    (hm0 : 0 ≤ more) (hm1 : more < 256) (hq : smallR L = true) (h12 : locks.length ≤ 12) (hmy : mayR (f, L) = true) (hg : S.Good w) :
    Calls Try.prog 4 #[prgV f ao L.length cap, .slice ao2 locks.length cap2, .int .u8 more] w fun e w' => e = .returned (.bool true) ∧ Below w.heap.size w w' := by
  obtain ⟨i0, hi0, hz0, hz1, hz2⟩ := info_parts lock_info
  have HG := Lib.hid hg
  have h20 := small_len hq
  have HAW := Lib.hid (fun V (hV : Below w.heap.size w V) => S.awake V (S.keep HG.out hV))
  have hsm := fun V (hV : Below w.heap.size w V) => small_any f ao b off cap L V (h.below hV)
  rw [hq] at hsm
  have hmay := fun V (hV : Below w.heap.size w V) => rmay_any f ao b off cap L V (h.below hV) (by omega) hs
  rw [hmy] at hmay
  have hck := fun V (hV : Below w.heap.size w V) => S.check f ao b off cap L ao2 b2 off2 cap2 locks 8 V (h.below hV) (hl.below hV) hs hq (by omega) (by unfold small; decide) (S.keep HG.out hV)
  have hck2 := fun V (hV : Below w.heap.size w V) ao3 b3 cap3 (ls : List Lk) (hls : LArg V ao3 b3 0 ls) (hn : ls.length ≤ 100) => S.check f ao b off cap L ao3 b3 0 cap3 ls 9 V (h.below hV) hls hs hq hn (by unfold small; decide) (S.keep HG.out hV)
  unfold CkP at hck hck2
  obtain ⟨⟨j0, e0⟩, hA⟩ : ∃ A, checkR (f, L) locks 8 = A := ⟨_, rfl⟩
  have hmono : e0 = 0 → (∀ i (hi : i < locks.length), (locks[i]).2.2.1 ≤ 1000) → (checkR (f, L) (locks.map (upR more) ++ [(false, 0, 0, 0, 0)]) 9).2 = 0 := fun h0 hle =>
    check_more (progs := 8) (more_up hm0 hle _) (by decide) (by rw [hA]; exact h0)
  simp only [hA] at hck
  have HMONO := Lib.hid hmono
  have HL := Lib.hid hl
  obtain ⟨n, hn⟩ : ∃ n, L.length = n := ⟨_, rfl⟩
  obtain ⟨m, hm⟩ : ∃ m, locks.length = m := ⟨_, rfl⟩
  have HM := Lib.hid hm
  simp only [hn, hm] at hck hck2 hsm hmay
  have hb0 : Below w.heap.size w (w.alloc (.cells #[.bool f, .slice ao n cap] 24)) := (Below.refl _ w).alloc (Nat.le_refl _) _
  have HI0 := Lib.hid (show CmI w (w.alloc (.cells #[.bool f, .slice ao n cap] 24)) #[.bool f, .slice ao n cap] from ⟨heap_alloc_new w _, hb0⟩)
  rw [hm] at h12
  rw [hn, hm]
  have g12 : ¬ (12 : Int) < m := by omega
  have HCK := Lib.hid hck
  have HCK2 := Lib.hid hck2
  have HSM := Lib.hid hsm
  have HMY := Lib.hid hmay
  clear h hl hs hg hq h20 hmy hb0 hsm hmay hck hck2 hA hmono hn hm
  go_enter Try.func4, Try.ntmps4
  go_wp2_with fail
  with_reducible refine (HAW.out _ HI0.out.bel).mono ?_
  rintro e w1 ⟨rfl, hb⟩
  have HI1 := Lib.hid (HI0.out.below hb)
  obtain ⟨c0, c1⟩ := two_cells HI1.out.box
  clear hb
  go_wp2_with fail
  with_reducible refine (HSM.out _ HI1.out.bel).mono ?_
  rintro e w2 ⟨rfl, hb⟩
  have HI2 := Lib.hid (HI1.out.below hb)
  clear c0 c1
  obtain ⟨c0, c1⟩ := two_cells HI2.out.box
  clear hb
  go_wp2_with fail
  with_reducible refine (HMY.out _ HI2.out.bel).mono ?_
  rintro e w3 ⟨rfl, hb⟩
  have HI3 := Lib.hid (HI2.out.below hb)
  clear c0 c1
  obtain ⟨c0, c1⟩ := two_cells HI3.out.box
  clear hb
  go_wp2_with fail
  with_reducible refine (HCK.out _ HI3.out.bel).mono ?_
  rintro e w4 ⟨rfl, hb⟩
  have HI4 := Lib.hid (HI3.out.below hb)
  clear c0 c1 hb
  go_wp2_with fail
  go_loopw [9, 39] (fun s9 s39 wr => ∃ (j : Nat) (v : Value) (ls : List Lk), s9 = v ∧ s39 = .int .i64 (j : Nat) ∧ j ≤ m ∧ ls.length ≤ j ∧ Hid (ls = (locks.take j).map (upR more)) ∧ Hid (LkRow (w.heap.size + 1) wr v ls) ∧ Hid (CmI w wr #[.bool f, .slice ao n cap])) (fun _ s39 _ => m - (intOf s39).toNat)
  case atStart => exact ⟨0, _, [], rfl, rfl, Nat.zero_le _, Nat.le_refl _, Lib.hid (by simp), Lib.hid (World.ownsRow_nil _ _ _ _), HI4⟩
  case round =>
    obtain ⟨j, v, ls, rfl, rfl, hj, hlsj, HLS, HROW, HI⟩ := hrel
    obtain ⟨av, cv, hv, _, _⟩ := ownsRow_shape HROW.out
    subst hv
    by_cases hlt : j < m
    · have hjL : j < locks.length := by rw [HM.out]; exact hlt
      have hL := HL.out.below HI.out.bel
      obtain ⟨rfl, hbl⟩ := hL.at_ (by omega)
      obtain ⟨y0, y1, y2, y3, y4⟩ := hL.cells j hjL
      obtain ⟨⟨q0, q1, q2, q3, q4⟩, hx⟩ : ∃ x, locks[j] = x := ⟨_, rfl⟩
      rw [hx] at y0 y1 y2 y3 y4
      simp only at y0 y1 y2 y3 y4
      obtain ⟨d, hd⟩ : ∃ d, (max q2 0).tmod 1000 = d := ⟨_, rfl⟩
      have hdr := tmod_in q2
      rw [hd] at hdr
      have hdw : IntKind.i64.wrap d = d := by rw [IntKind.wrap_i64]; omega
      have hmw : IntKind.i64.wrap more = more := by rw [IntKind.wrap_i64]; omega
      have hw1 : IntKind.i64.wrap (d + more) = d + more := by rw [IntKind.wrap_i64]; omega
      have hw2 : IntKind.i64.wrap (d + more + 1000) = d + more + 1000 := by rw [IntKind.wrap_i64]; omega
      have HUP : Hid (upR more locks[j] = (q0, q1, d + more + 1000, q3, q4)) := Lib.hid (by rw [hx]; unfold upR; rw [hd])
      have jj0 : (0 : Int) ≤ j := by omega
      have jj1 : (j : Int) < m := by omega
      clear hx hL
      go_wp2_with (at_builtin; (refine wpList_append_own _ rfl _ _ 25 rfl (w.heap.size + 1) 35 i0 (.agg #[.bool false, .int .i64 0, .int .i64 0, .int .i64 0, .int .i64 0]) 5 40 Try.underlying25 hi0 hz0 hz1 hz2 rfl (by decide) _ ls.length (cellsOf lkC ls) rfl ?c0 ⟨_, 0, none⟩ 1 1 [.bool q0, .int .i64 q1, .int .i64 (d + more + 1000), .int .i64 q3, .int .i64 q4] rfl rfl ?c1 ?c2 ?c3 ?c4 ?c5 ?_))
      case c0 => exact row_below HROW.out (((Below.refl _ wr).alloc (Nat.le_refl _) _).alloc (by simp) _)
      case c1 => exact five_at (by simp) _ _ _ _ _ _
      case c2 => exact lkC_one (q0, q1, d + more + 1000, q3, q4)
      case c3 => (unfold maxLen; omega)
      case c4 => omega
      case c5 => (have := lt_of_block HI.out.box; simp; omega)
      intro v' w' hown hgrow _
      have hp := LkRow.push (x := (q0, q1, d + more + 1000, q3, q4)) (HI.out.below (((Below.refl _ wr).alloc (Nat.le_refl _) _).alloc (by simp) _)) (row_below HROW.out (((Below.refl _ wr).alloc (Nat.le_refl _) _).alloc (by simp) _)) hown hgrow
      obtain ⟨ls2, hls2⟩ : ∃ l, ls ++ [(q0, q1, d + more + 1000, q3, q4)] = l := ⟨_, rfl⟩
      rw [hls2] at hp
      have hl2 : ls2.length ≤ j + 1 := by rw [← hls2]; simp; omega
      have HLS2 : Hid (ls2 = (locks.take (j + 1)).map (upR more)) := Lib.hid (by
        rw [← hls2, HLS.out, List.take_succ_eq_append_getElem hjL, List.map_append, List.map_cons, List.map_nil, HUP.out])
      have HP := Lib.hid hp
      clear hown hgrow hp hls2
      go_wp2
      go_roundw
      case rel => exact ⟨j + 1, _, ls2, rfl, by go_num, by omega, hl2, HLS2, HP.out.1, HP.out.2⟩
      case measure => simp [intOf]; omega
    · obtain rfl : j = m := by omega
      have hls : ls = locks.map (upR more) := by rw [HLS.out, List.take_of_length_le (by rw [HM.out]; exact Nat.le_refl _)]
      have HLE := Lib.hid hls
      obtain ⟨c0, c1⟩ := two_cells HI.out.box
      clear hls
      go_wp2_with fail
      obtain ⟨p0, p1⟩ := two_cells HI.out.drew.box
      obtain ⟨v0, v1⟩ := two_cells (HI.out.below (((Below.refl _ wr).alloc (Nat.le_refl _) (.cells #[.bool false, .int .i64 0, .int .i64 0, .int .i64 0, .int .i64 0] 35)).drew)).box
      have HBL := Lib.hid ((Below.refl wr.heap.size wr).alloc (Nat.le_refl _) (.cells #[.bool false, .int .i64 0, .int .i64 0, .int .i64 0, .int .i64 0] 35)).drew
      refine wp_region_noPanic ?_
      refine wp_region_held_drew (S := fun V => V.cell? ⟨w.heap.size, 0, none⟩ = some (.bool f) ∧ V.cell? ⟨w.heap.size, 1, none⟩ = some (.slice ao n cap)) (by kernel_rfl) ⟨p0, p1⟩ (fun hHeld => ?_)
      refine wpAnyH_take (i := 0) (v := ?_) rfl (by kernel_rfl) (by kernel_rfl) (by kernel_rfl) (fun _ _ _ h => h) (Or.inl ⟨by rfl, ?hy⟩) (by assumption) ?_
      case hy =>
        intro w hSw
        (try dsimp only at hSw)
        obtain ⟨s0, s1⟩ := hSw
        go_simp
        try with_reducible rfl
      (try simp only [List.getElem_toArray])
      (try simp only [List.getElem_cons_succ])
      (try simp only [List.getElem_cons_zero])
      (try simp only [Act.put])
      (try simp only [List.setIfInBounds_toArray])
      (try simp only [List.set_cons_succ])
      (try simp only [List.set_cons_zero])
      refine wpAnyH_take (i := 1) (v := ?_) rfl (by kernel_rfl) (by kernel_rfl) (by kernel_rfl) (fun _ _ _ h => h) (Or.inl ⟨by rfl, ?hy⟩) (by assumption) ?_
      case hy =>
        intro w hSw
        (try dsimp only at hSw)
        obtain ⟨s0, s1⟩ := hSw
        go_simp
        try with_reducible rfl
      (try simp only [List.getElem_toArray])
      (try simp only [List.getElem_cons_succ])
      (try simp only [List.getElem_cons_zero])
      (try simp only [Act.put])
      (try simp only [List.setIfInBounds_toArray])
      (try simp only [List.set_cons_succ])
      (try simp only [List.set_cons_zero])
      refine wpAnyH_take (i := 2) (v := ?_) rfl (by kernel_rfl) (by kernel_rfl) (by kernel_rfl) (fun _ _ _ h => h) (Or.inl ⟨by rfl, ?hy⟩) (by assumption) ?_
      case hy =>
        intro w hSw
        (try dsimp only at hSw)
        obtain ⟨s0, s1⟩ := hSw
        go_simp
        try with_reducible rfl
      (try simp only [List.getElem_toArray])
      (try simp only [List.getElem_cons_succ])
      (try simp only [List.getElem_cons_zero])
      (try simp only [Act.put])
      (try simp only [List.setIfInBounds_toArray])
      (try simp only [List.set_cons_succ])
      (try simp only [List.set_cons_zero])
      refine wpAnyH_ready (rs := [3]) (by kernel_rfl) (by simp) ?_
      refine AllReadyH.cons rfl (fun K' hK => ?_) AllReadyH.nil
      go_simp
      refine hK.out _ _ ?_ (fun hHeld => ?_)
      · exact ⟨v0, v1⟩
      clear hK K'
      (try simp only [List.getElem_toArray])
      (try simp only [List.getElem_cons_succ])
      (try simp only [List.getElem_cons_zero])
      (try simp only [Act.put])
      (try simp only [List.setIfInBounds_toArray])
      (try simp only [List.set_cons_succ])
      (try simp only [List.set_cons_zero])
      refine wpAnyH_ready (rs := [4]) (by kernel_rfl) (by simp) ?_
      refine AllReadyH.cons rfl (fun K' hK => ?_) AllReadyH.nil
      refine step_append_any _ rfl (.tmp 59) (.tmp 61) 25 rfl 35 i0 (.agg #[.bool false, .int .i64 0, .int .i64 0, .int .i64 0, .int .i64 0]) 5 40 Try.underlying25 hi0 hz0 hz1 hz2 rfl (by decide) (.slice av ls.length cv) ls.length (cellsOf lkC ls) rfl (row_zero (row_below HROW.out HBL.out)) (some ⟨wr.heap.size, 0, none⟩) 1 1 [.bool false, .int .i64 0, .int .i64 0, .int .i64 0, .int .i64 0] rfl rfl (by intro h; cases h) (by intro ad had; cases had; exact five_new _ _ _ _ _ _ _) (lkC_one (false, 0, 0, 0, 0)) (by unfold maxLen; omega) (by omega) ?_
      intro a5 c5 w5 hown hg hnew
      have h5 := cm_after (x := (false, 0, 0, 0, 0)) (HI.out.below HBL.out) (row_below HROW.out HBL.out) hown hg
      obtain ⟨h51, ao5, b5, cap5, h52, h53⟩ := h5
      simp only [Value.slice.injEq] at h52
      obtain ⟨rfl, -, rfl⟩ := h52
      have h54 := HCK2.out w5 h51.bel _ _ c5 _ h53 (by simp; omega)
      rw [List.length_append, List.length_singleton] at h54
      have HC5 := Lib.hid h54
      have I5 := Lib.hid h51
      obtain ⟨r0, r1⟩ := two_cells h51.box
      refine hK.out _ _ ?_ (fun hHeld => ?_)
      · exact ⟨r0, r1⟩
      clear hown hg hnew h51 h53 h54 hK K'
      (try simp only [List.getElem_toArray])
      (try simp only [List.getElem_cons_succ])
      (try simp only [List.getElem_cons_zero])
      (try simp only [Act.put])
      (try simp only [List.setIfInBounds_toArray])
      (try simp only [List.set_cons_succ])
      (try simp only [List.set_cons_zero])
      refine wpAnyH_ready (rs := [5]) (by kernel_rfl) (by simp) ?_
      refine AllReadyH.cons rfl (fun K' hK => ?_) AllReadyH.nil
      go_simp
      with_reducible refine HC5.out.mono ?_
      rintro e w6 ⟨rfl, hb6⟩
      have I6 := Lib.hid (I5.out.below hb6)
      obtain ⟨t0, t1⟩ := two_cells I6.out.box
      clear hb6
      go_wp2_with fail
      refine hK.out _ _ ?_ (fun hHeld => ?_)
      · exact ⟨t0, t1⟩
      clear hK K'
      (try simp only [List.getElem_toArray])
      (try simp only [List.getElem_cons_succ])
      (try simp only [List.getElem_cons_zero])
      (try simp only [Act.put])
      (try simp only [List.setIfInBounds_toArray])
      (try simp only [List.set_cons_succ])
      (try simp only [List.set_cons_zero])
      refine wpAnyH_take (i := 6) (v := ?_) rfl (by kernel_rfl) (by kernel_rfl) (by kernel_rfl) (fun _ _ _ h => h) (Or.inl ⟨by rfl, ?hy⟩) (by assumption) ?_
      case hy =>
        intro w hSw
        (try dsimp only at hSw)
        obtain ⟨s0, s1⟩ := hSw
        go_simp
        try with_reducible rfl
      (try simp only [List.getElem_toArray])
      (try simp only [List.getElem_cons_succ])
      (try simp only [List.getElem_cons_zero])
      (try simp only [Act.put])
      (try simp only [List.setIfInBounds_toArray])
      (try simp only [List.set_cons_succ])
      (try simp only [List.set_cons_zero])
      refine wpAnyH_take (i := 7) (v := ?_) rfl (by kernel_rfl) (by kernel_rfl) (by kernel_rfl) (fun _ _ _ h => h) (Or.inl ⟨by rfl, ?hy⟩) (by assumption) ?_
      case hy =>
        intro w hSw
        (try dsimp only at hSw)
        obtain ⟨s0, s1⟩ := hSw
        go_simp
        try with_reducible rfl
      (try simp only [List.getElem_toArray])
      (try simp only [List.getElem_cons_succ])
      (try simp only [List.getElem_cons_zero])
      (try simp only [Act.put])
      (try simp only [List.setIfInBounds_toArray])
      (try simp only [List.set_cons_succ])
      (try simp only [List.set_cons_zero])
      refine wpAnyH_take (i := 8) (v := ?_) rfl (by kernel_rfl) (by kernel_rfl) (by kernel_rfl) (fun _ _ _ h => h) (Or.inl ⟨by rfl, ?hy⟩) (by assumption) ?_
      case hy =>
        intro w hSw
        (try dsimp only at hSw)
        obtain ⟨s0, s1⟩ := hSw
        go_simp
        try with_reducible rfl
      (try simp only [List.getElem_toArray])
      (try simp only [List.getElem_cons_succ])
      (try simp only [List.getElem_cons_zero])
      (try simp only [Act.put])
      (try simp only [List.setIfInBounds_toArray])
      (try simp only [List.set_cons_succ])
      (try simp only [List.set_cons_zero])
      refine wpAnyH_take (i := 9) (v := ?_) rfl (by kernel_rfl) (by kernel_rfl) (by kernel_rfl) (fun _ _ _ h => h) (Or.inl ⟨by rfl, ?hy⟩) (by assumption) ?_
      case hy =>
        intro w hSw
        (try dsimp only at hSw)
        obtain ⟨s0, s1⟩ := hSw
        go_simp
        try with_reducible rfl
      (try simp only [List.getElem_toArray])
      (try simp only [List.getElem_cons_succ])
      (try simp only [List.getElem_cons_zero])
      (try simp only [Act.put])
      (try simp only [List.setIfInBounds_toArray])
      (try simp only [List.set_cons_succ])
      (try simp only [List.set_cons_zero])
      refine wpAnyH_take (i := 10) (v := ?_) rfl (by kernel_rfl) (by kernel_rfl) (by kernel_rfl) (fun _ _ _ h => h) (Or.inl ⟨by rfl, ?hy⟩) (by assumption) ?_
      case hy =>
        intro w hSw
        (try dsimp only at hSw)
        obtain ⟨s0, s1⟩ := hSw
        go_simp
        try with_reducible rfl
      (try simp only [List.getElem_toArray])
      (try simp only [List.getElem_cons_succ])
      (try simp only [List.getElem_cons_zero])
      (try simp only [Act.put])
      (try simp only [List.setIfInBounds_toArray])
      (try simp only [List.set_cons_succ])
      (try simp only [List.set_cons_zero])
      refine wpAnyH_done (by kernel_rfl) ?_ _
      refine NoPanic.normal ?_
      (try simp only [List.getElem_toArray])
      (try simp only [List.getElem_cons_succ])
      (try simp only [List.getElem_cons_zero])
      (try simp only [Act.put])
      (try simp only [List.setIfInBounds_toArray])
      (try simp only [List.set_cons_succ])
      (try simp only [List.set_cons_zero])
      have hle : e0 = 0 → (∀ i (hi : i < locks.length), (locks[i]).2.2.1 ≤ 1000) → (checkR (f, L) (ls ++ [(false, 0, 0, 0, 0)]) 9).2 = 0 := by
        rw [HLE.out]
        exact HMONO.out
      obtain ⟨⟨i9, e9⟩, hA9⟩ : ∃ A, checkR (f, L) (ls ++ [(false, 0, 0, 0, 0)]) 9 = A := ⟨_, rfl⟩
      rw [hA9] at hle
      simp only [hA9] at hle ⊢
      have HMN := Lib.hid hle
      clear hle hA9
      by_cases he0 : e0 = 0
      · subst he0
        go_wp2_with fail
        go_loopw [70] (fun s70 wq => ∃ (k : Nat), s70 = .int .i64 (k : Nat) ∧ k ≤ j ∧ Hid (Below w.heap.size w wq) ∧ Hid (∀ i (hi : i < locks.length), i < k → (locks[i]).2.2.1 ≤ 1000)) (fun s70 _ => j - (intOf s70).toNat)
        case atStart => exact ⟨0, rfl, Nat.zero_le _, I6.out.bel, Lib.hid (fun i _ hi => absurd hi (Nat.not_lt_zero _))⟩
        case round =>
          obtain ⟨k, rfl, hk, HBQ, HALL⟩ := hrel
          by_cases hlt2 : k < j
          · have hkL : k < locks.length := by rw [HM.out]; exact hlt2
            have hL := HL.out.below HBQ.out
            obtain ⟨rfl, hbl⟩ := hL.at_ (by omega)
            obtain ⟨y0, y1, y2, y3, y4⟩ := hL.cells k hkL
            obtain ⟨⟨q0, q1, q2, q3, q4⟩, hx⟩ : ∃ x, locks[k] = x := ⟨_, rfl⟩
            rw [hx] at y0 y1 y2 y3 y4
            simp only at y0 y1 y2 y3 y4
            have HX := Lib.hid hx
            have jj0 : (0 : Int) ≤ k := by omega
            have jj1 : (k : Int) < j := by omega
            have HB2 := Lib.hid (HBQ.out.alloc HBQ.out.size (.cells #[.bool q0, .int .i64 q1, .int .i64 q2, .int .i64 q3, .int .i64 q4] 35))
            clear hx hL
            by_cases hq2 : (1000 : Int) < q2
            · go_wp2
              go_ret
              exact ⟨rfl, HB2.out⟩
            · have HALL2 : Hid (∀ i (hi : i < locks.length), i < k + 1 → (locks[i]).2.2.1 ≤ 1000) := Lib.hid (fun i hi hik => by
                rcases Nat.lt_or_ge i k with h | h
                · exact HALL.out i hi h
                · obtain rfl : i = k := by omega
                  rw [HX.out]
                  show q2 ≤ 1000
                  omega)
              go_wp2
              go_roundw
              case rel => exact ⟨k + 1, by go_num, by omega, HB2, HALL2⟩
              case measure => simp [intOf]; omega
          · have he9 : e9 = 0 := HMN.out (by simp) (fun i hi => HALL.out i hi (by have := HM.out; omega))
            subst he9
            go_wp2
            go_ret
            exact ⟨rfl, HBQ.out⟩
      · have hne : (e0 != 0) = true := by simpa using he0
        go_wp2
        go_ret
        exact ⟨rfl, I6.out.bel⟩
end Go.Proofs.Ytmcfjlkjijaflaa
