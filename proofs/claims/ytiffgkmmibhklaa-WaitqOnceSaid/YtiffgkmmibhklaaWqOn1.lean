/-
  WaitqOnce: the walk, given what is said of the program.
-/
import Derived.Test.YtiffgkmmibhklaaWqOnce
import Derived.Deep.DeepCutAuto
import Derived.Deep.CutBlock
import Derived.Deep.RegionHeld3
import Derived.LoopIn
import Derived.Test.YtiffgkmmibhklaaGA
namespace Go.Proofs.Ytiffgkmmibhklaa
open Go.RowKit Go.Maps Go.Shelf
attribute [local go_sem] Oper.semAt_some

set_option maxRecDepth 100000 in
set_option maxHeartbeats 8000000 in
theorem once_walk (S : WqSaid) (N : WqNil) (ao : Option Addr) (b off n cap : Nat) (F : Nat → Wt) (key m0 : Int) (w : World) (hn : n ≤ 60) (hm0 : isI m0) (hkey : isI key) (hao : 0 < n → ao = some ⟨b, off, none⟩ ∧ b < w.heap.size)
    (hE : ∀ i, i < n → w.cell? ⟨b, off + i * 3, none⟩ = some (.int .i64 (F i).1) ∧ w.cell? ⟨b, off + i * 3 + 1, none⟩ = some (.int .i64 (F i).2.1) ∧ w.cell? ⟨b, off + i * 3 + 2, none⟩ = some (.int .u64 (F i).2.2))
    (hW : ∀ i, i < n → wfW (F i)) :
    Calls Try.prog 4 #[.slice ao n cap, .int .i64 key, .int .i64 m0] w fun r w' => r = .returned (.bool true) ∧ Turned [] w w' := by
  have HE := Lib.hid hE
  have HAO := Lib.hid hao
  have HWf := Lib.hid hW
  have HKey := Lib.hid hkey
  obtain ⟨ii, hi, hz0, hz1, hz2⟩ := info_parts infoInt
  clear hE hao hW hkey
  refine callsIn_wide.1 (?_ : CallsIn Fence.wide 20 _ _ _ _ _)
  refine callsIn_of_wp_marks Try.func4 rfl trivial ?_ rfl
  simp only [Try.ntmps4, List.size_toArray, List.length_cons, List.length_nil, Nat.reduceAdd, Nat.reduceSub, Array.replicate_succ, Array.replicate_zero, List.push_toArray, List.append_toArray, List.nil_append, List.cons_append]
  refine wpIn_wide.2 ?_
  obtain ⟨Wb, hWb⟩ : ∃ Wb, (w.alloc (.cells #[.int .i64 key] 3)).alloc (.cells #[.bool false] 4) = Wb := ⟨_, rfl⟩
  have tb : Turned [] w Wb := hWb ▸ ((Turned.refl [] w).alloc _).alloc _
  have kb : Wb.heap[w.heap.size]? = some (.cells #[.int .i64 key] 3 (0, 0)) := by
    rw [← hWb]
    exact (Below.heap_alloc _ _ _ (by simp)).trans (heap_alloc_new w _)
  have rb : Wb.heap[w.heap.size + 1]? = some (.cells #[.bool false] 4 (0, 0)) := by
    rw [← hWb]
    have := heap_alloc_new (w.alloc (.cells #[.int .i64 key] 3)) (.cells #[.bool false] 4)
    simp only [World.size_alloc] at this
    exact this
  have AW := Lib.hid (awake8 S Wb)
  have HWb := Lib.hid hWb
  have KB := Lib.hid kb
  have RB := Lib.hid rb
  have TB := Lib.hid tb
  clear tb kb rb hWb
  go_wp2_with fail
  rw [HWb.out]
  refine AW.out.mono ?_
  rintro e w0 ⟨rfl, t0⟩
  have TA := Lib.hid (TB.out.trans t0 (Newer.refl _ _))
  have KA := Lib.hid (t0.same KB.out (by simp))
  have RA := Lib.hid (t0.same RB.out (by simp))
  have HNew := Lib.hid (S.new m0 100 100 w0 hm0)
  rw [show min (max (100 : Int) 0) 4096 = 100 by decide] at HNew
  clear t0 AW KB RB TB HWb
  go_wp2_with fail
  refine HNew.out.mono ?_
  rintro e w1 ⟨a, X0, rfl, hA, t1, hX⟩
  obtain ⟨O, hO⟩ : ∃ O, w1.heap.size = O := ⟨_, rfl⟩
  obtain ⟨W2, hW2⟩ : ∃ W2, w1.alloc (.cells #[.slice none 0 0] 29) = W2 := ⟨_, rfl⟩
  have t2 : Turned [] w1 W2 := hW2 ▸ (Turned.refl [] w1).alloc _
  have sA := lt_of_block RA.out
  have sB := t1.size
  have B2 : OnB w W2 O [] key X0 := by
    refine ⟨(t1.j t2).same KA.out (by simp), (t1.j t2).same RA.out (by simp), ⟨.slice none 0 0, ?_, World.ownsRow_nil _ _ _ _, by simp [Value.ownBlock]⟩, fun j hj => ?_, by omega, TA.out.trans (t1.j t2) (Newer.refl _ _)⟩
    · rw [← hO, ← hW2]
      exact heap_alloc_new w1 _
    · have h1 := hX j hj
      have h2 := S.lt hA j hj
      omega
  have H2 := Lib.hid (And.intro B2 (S.keep hA t2 (by simp)))
  have HW2 := Lib.hid hW2
  have HO := Lib.hid hO
  clear hA t1 hX hO hW2 t2 sA sB B2 TA KA RA HNew
  go_wp2_with fail
  rw [HO.out, HW2.out]
  clear HO HW2
  go_loopw [28] (fun i wr => ∃ k : Nat, k ≤ n ∧ i = .int .i64 k ∧ ∃ X c, Hid (c ≤ 100 * k) ∧ Hid (OnB w wr O ((onL F key k).map (·.1)) key X) ∧ Hid (S.At wr a X 100 100 c (onL F key k))) (fun i _ => n - (intOf i).toNat)
  case atStart => exact ⟨0, Nat.zero_le _, rfl, X0, 0, Lib.hid (Nat.zero_le _), Lib.hid H2.out.1, Lib.hid H2.out.2⟩
  case round =>
    clear H2
    obtain ⟨k, hk, rfl, X, c, HC, HB, HA⟩ := hrel
    by_cases hlt : k < n
    · obtain ⟨rfl, hb⟩ := HAO.out (by omega)
      have hcell := HE.out k hlt
      have hwf := HWf.out k hlt
      have hbb := HB.out.t.below (B := w.heap.size) (by simp) (Nat.le_refl _)
      rw [← hbb.cell (p := ⟨b, off + k * 3, none⟩) hb, ← hbb.cell (p := ⟨b, off + k * 3 + 1, none⟩) hb, ← hbb.cell (p := ⟨b, off + k * 3 + 2, none⟩) hb] at hcell
      obtain ⟨z0, z1, z2⟩ := hcell
      obtain ⟨L, hL⟩ : ∃ L, onL F key k = L := ⟨_, rfl⟩
      have hnext : onL F key (k + 1) = waitL 100 100 L ((F k).1, key, (F k).2.2) := by rw [← hL]; rfl
      have hll := onL_len F key k
      rw [hL] at HB HA hll
      obtain ⟨⟨x1, x2, x3⟩, hx⟩ : ∃ x, F k = x := ⟨_, rfl⟩
      rw [hx] at hnext
      simp only [hx] at z0 z1 z2 hwf hnext
      have HN := Lib.hid hnext
      obtain ⟨P, hP⟩ : ∃ P, wr.heap.size = P := ⟨_, rfl⟩
      obtain ⟨V, hV⟩ : ∃ V, wr.alloc (.cells #[.int .i64 x1, .int .i64 key, .int .u64 x3] tW) = V := ⟨_, rfl⟩
      have l1 : V.heap[P]? = some (.cells #[.int .i64 x1, .int .i64 key, .int .u64 x3] tW (0, 0)) := by rw [← hV, ← hP]; exact heap_alloc_new wr _
      have hkw : w.heap.size < P := by have := lt_of_block HB.out.k; omega
      have tV : Turned [] wr V := by rw [← hV]; exact (Turned.refl [] wr).alloc _
      have kk := cell1 HB.out.k
      have kl : w.heap.size < wr.heap.size := by omega
      have HWa := Lib.hid (S.wait (x1, key, x3) (S.keep HA.out tV (by simp)) ⟨hwf.1, HKey.out, hwf.2.2⟩ (by omega) (by have := HC.out; omega))
      simp only [aggW] at HWa
      have HPX : Hid (P ∉ X) := Lib.hid (fun hx => by have := S.lt HA.out _ hx; omega)
      have HV := Lib.hid hV
      have HP := Lib.hid hP
      have BV := Lib.hid (HB.out.later tV)
      have L1 := Lib.hid l1
      have i0 : (0 : Int) ≤ k := by omega
      have i1 : (k : Int) < n := by omega
      clear hV hP hnext hx hbb tV hL l1
      go_wp2_with fail
      rw [HP.out, HV.out]
      with_reducible refine HWa.out.mono ?_
      rintro e V1 ⟨rfl, X1, q1, q2, q3⟩
      have B1 := Lib.hid (BV.out.turn q2 q3)
      have Q1 := Lib.hid q1
      have L2 := Lib.hid (q2.same L1.out HPX.out)
      clear q1 q2 q3 z0 z1 z2 kk kl BV L1 HPX HWa HV HP
      obtain ⟨q, hq⟩ : ∃ q, waitE 100 100 L (x1, key, x3) = q := ⟨_, rfl⟩
      have HQ := Lib.hid hq
      rw [hq]
      clear hq
      by_cases hq0 : q = 0
      · subst hq0
        have hn1 : onL F key (k + 1) = L ++ [(x1, key, x3)] := by rw [HN.out]; unfold waitL; rw [if_pos HQ.out]
        have hA1 := Q1.out
        unfold waitL at hA1
        rw [if_pos HQ.out] at hA1
        obtain ⟨Ks, hKs⟩ : ∃ Ks, L.map (·.1) = Ks := ⟨_, rfl⟩
        have hKl : Ks.length ≤ 60 := by rw [← hKs, List.length_map]; omega
        rw [hKs] at B1
        have HKs := Lib.hid hKs
        obtain ⟨v, o1, o2, o3⟩ := B1.out.o
        have ol := ownsRow_lt o2
        obtain ⟨av, vc, rfl, _, _⟩ := ownsRow_shape o2
        have c0 := cell1 o1
        have c1 := (cellsT L2.out).1
        have O1 := Lib.hid o1
        have O2 := Lib.hid o2
        have O3 := Lib.hid (fun j hj => And.intro (ol j hj) (o3 j hj))
        have HN1 := Lib.hid hn1
        have HA1 := Lib.hid hA1
        clear o1 o2 o3 ol hn1 hA1 Q1 HN HQ hKs
        go_wp2_with (at_builtin; refine wpList_append_at _ rfl _ _ 29 rfl 3 ii (.int .i64 0) 1 8 Try.underlying29 hi hz0 hz1 hz2 rfl (by decide) _ _ _ rfl (O2.out.alloc _) ⟨V1.heap.size, 0, none⟩ 1 1 [.int .i64 x1] rfl (by decide) rfl ?c2 ?c3 ?c4 ?c5 ?_)
        case c2 =>
          intro j u hj
          match j, hj with
          | 0, hj => simp at hj; subst hj; simp [Addr.add]
        case c3 => intro u hu; simp at hu; subst hu; rfl
        case c4 => unfold maxLen; omega
        case c5 => omega
        intro g cap' W2 w1 w2 w3 _ _
        obtain ⟨r1, r2, r3, r4⟩ := OnB.push (m := Ks.length + 1) B1.out O1.out O3.out ((Turned.refl [] V1).alloc _) w2 rfl w1 (by simpa using w3) (S.lt HA1.out)
        have R3 := Lib.hid r3
        have R4 := Lib.hid r4
        clear w1 w2 w3 r3 r4 c0 c1
        go_wp2
        go_roundw
        case rel =>
          refine ⟨k + 1, by omega, by go_num, X1, c + 100, Lib.hid (by have := HC.out; omega), Lib.hid ?_, Lib.hid ?_⟩
          · rw [HN1.out, List.map_append, HKs.out]
            exact R3.out
          · rw [HN1.out]
            exact S.same HA1.out R4.out
        case measure => simp [intOf]; omega
      · have hn1 : onL F key (k + 1) = L := by rw [HN.out]; unfold waitL; rw [if_neg (by rw [HQ.out]; exact hq0)]
        have hA1 := Q1.out
        unfold waitL at hA1
        rw [if_neg (by rw [HQ.out]; exact hq0)] at hA1
        have HN1 := Lib.hid hn1
        have HA1 := Lib.hid hA1
        have e0 : (q == 0) = false := by simpa using hq0
        clear hn1 hA1 Q1 HN HQ
        go_wp2
        go_roundw
        case rel => exact ⟨k + 1, by omega, by go_num, X1, c + 100, Lib.hid (by have := HC.out; omega), Lib.hid (by rw [HN1.out]; exact B1.out), Lib.hid (by rw [HN1.out]; exact HA1.out)⟩
        case measure => simp [intOf]; omega
    · obtain rfl : k = n := by omega
      obtain ⟨L, hL⟩ : ∃ L, onL F key k = L := ⟨_, rfl⟩
      have hll := onL_len F key k
      have hone := onL_one F key k
      have hall := onL_key F key k
      rw [hL] at HB HA hll hone hall
      have hl60 : L.length ≤ 60 := by omega
      have hc := HC.out
      have hc6 : c ≤ 6000 := by omega
      have HOne := Lib.hid hone
      have HAll := Lib.hid hall
      have HEx := Lib.hid (S.expire 18446744073709551615 HA.out (by decide) (by decide) (by omega) (by omega))
      have HXl := Lib.hid (S.lt HA.out)
      clear hL hll hone hall hc HC HA
      go_wp2_with fail
      refine HEx.out.mono ?_
      rintro e W2 ⟨f, lb, rfl, t2, hent, Z, hZ, hseq⟩
      have z2 := t2.size
      have B2 := HB.out.turn (Z' := Z) (t2.mono (fun k hk => by simp at hk)) (fun j hj => (hZ j hj).2)
      have HB2 := Lib.hid B2
      have hw2 : w.heap.size + 2 ≤ W2.heap.size := by have := lt_of_block B2.r; omega
      have HENT := Lib.hid hent
      have HZ := Lib.hid (fun k (hk : k ∈ Z) => (hZ k hk).1)
      have HSEQ := Lib.hid (hseq 19 (by omega))
      clear t2 hent hZ hseq B2 HEx HXl HB
      go_wp2_with fail
      refine (wpIn_wide (n := 20)).1 ?_
      refine range_turnsZ_boxed rfl (by omega) (gf := f) (lb := lb) rfl trivial HENT.out (X := Z) HZ.out HSEQ.out (fun _ => rfl)
        (by rintro xs Z' A B ⟨h1, X', h2, h3⟩ hs; exact ⟨h1, X', S.same h2 (fun k hk => hs k (h3 k hk)), h3⟩) (by rintro xs Z' A B ⟨h1, X', h2, h3⟩ hs; exact ⟨h1, X', S.same h2 (fun k hk => hs k (h3 k hk)), h3⟩)
        (fun pre Z' W => OnB w W O ((dueR 18446744073709551615 pre.length L).map (fun x : Wt => x.1)) key Z' ∧ W2.heap.size ≤ W.heap.size ∧ ∀ j ∈ Z', j < W.heap.size)
        (fun _ _ _ _ => False)
        (fun xs Z1 Z2 A B h mm hn hb => ⟨h.1.mild mm (by omega) hn, Nat.le_trans h.2.1 mm.size, hb⟩) (fun _ _ _ _ _ _ h _ _ _ => h.elim) ⟨HB2.out, Nat.le_refl _, HZ.out⟩
        (fun xs Z' W h => h.2) tW (fun x => #[.int .i64 x.1, .int .i64 x.2.1, .int .u64 x.2.2]) ?a1 ?assign ?body ?done ?stop
      case assign =>
        intro l x Bk W K hBk hK
        gi_wp2
        exact hK
      case stop =>
        rintro D c' xs Z1 W _ _ _ h _
        exact h.elim
      case body =>
        rintro l pre x Z1 Bk W hbk hBk ⟨hI, hWs, hZ1⟩ hsp
        obtain ⟨j, hj1, hj2, hj3, hj4⟩ := due_next hsp
        obtain ⟨k', hk'⟩ : ∃ k', pre.length = k' := ⟨_, rfl⟩
        rw [hk'] at hI hj1 hj2 hj3 hj4
        have hm1 := dueR_one HOne.out 18446744073709551615 k'
        have hm2 := dueR_key HAll.out 18446744073709551615 k'
        have hml := (dueR_sub 18446744073709551615 k' L).length_le
        obtain ⟨M, hM⟩ : ∃ M, dueR 18446744073709551615 k' L = M := ⟨_, rfl⟩
        rw [hM] at hI hj1 hj2 hj3 hj4 hm1 hm2 hml
        have hx3 := dueP_until hj1
        rw [hj2] at hx3
        have hx2 : x.2.1 = key := by
          refine hm2 x ?_
          rw [← hj2]
          simp [List.getD_eq_getElem?_getD, hj3]
        obtain ⟨Ks, hKs⟩ : ∃ Ks, M.map (·.1) = Ks := ⟨_, rfl⟩
        have hKl : Ks.length = M.length := by rw [← hKs, List.length_map]
        have hKj : Ks.getD j 0 = x.1 := by
          rw [← hj2, ← hKs]
          simp [List.getD_eq_getElem?_getD, hj3]
        have hKn : ((dueR 18446744073709551615 (pre ++ [x]).length L).map (·.1)) = Ks.eraseIdx j := by
          rw [List.length_append, List.length_singleton, hk', hj4, ← hKs, List.eraseIdx_eq_take_drop_succ, List.eraseIdx_eq_take_drop_succ, List.map_append, List.map_take, List.map_drop]
        rw [hKs] at hI hm1
        obtain ⟨x1, x2, x3⟩ := x
        simp only at hbk hx3 hx2 hKj
        obtain rfl := hx2.symm
        obtain ⟨v, o1, o2, o3⟩ := hI.o
        have ol := ownsRow_lt o2
        have HAt := Lib.hid (fun j (hj : j < Ks.length) => ints_at o2 hj)
        obtain ⟨g, cap', rfl, hc1, hc2⟩ := ownsRow_pos o2 (by omega)
        have HC2 := Lib.hid (fun i (hi : i < Ks.length) (hij : i ≠ j) => show Ks.getD i 0 ≠ x1 by
          rw [← hKj]
          exact fun e => hij ((nodup_at hm1 hi (by omega)).1 e))
        have HCell : Hid (∀ i, i < Ks.length → W.cell? ⟨g, i, none⟩ = some (.int .i64 (Ks.getD i 0))) := Lib.hid (fun i hi => by
          obtain ⟨g', c', e, h⟩ := HAt.out i hi
          simp only [Value.slice.injEq, Option.some.injEq, Addr.mk.injEq, and_true, true_and] at e
          rw [e.1]
          exact h)
        have HI := Lib.hid hI
        have O1 := Lib.hid o1
        have O2 := Lib.hid o2
        have O3 := Lib.hid (fun j hj => And.intro (ol j hj) (o3 j hj))
        have HBk := Lib.hid hbk
        have HKn := Lib.hid hKn
        have HKj := Lib.hid hKj
        have HWs := Lib.hid hWs
        have HZ1 := Lib.hid hZ1
        have hjK : j < Ks.length := by omega
        have hK60 : Ks.length ≤ 60 := by omega
        obtain ⟨k0, k1, k2, _⟩ := cellsT hbk
        have c0 := cell1 o1
        have ck := cell1 hI.k
        have e0 : (x3 == 0) = false := by simpa using hx3
        have e1 : (key != key) = false := by simp
        clear hI o1 o2 o3 ol hbk hKn hKj hWs hZ1 hj1 hj2 hj3 hj4 hm1 hm2 hml hM hKs hKl hx2 hx3 hsp hk' HAt
        gi_wp2
        gi_loop [58] (fun i => ∃ q : Nat, i = .int .i64 q ∧ q ≤ j) (fun i => j - (intOf i).toNat)
        case atStart => exact ⟨0, rfl, Nat.zero_le _⟩
        case round =>
          obtain ⟨q, rfl, hq⟩ := hrel
          have i0 : (0 : Int) ≤ q := by omega
          have i1 : (q : Int) < Ks.length := by omega
          have cq := HCell.out q (by omega)
          by_cases hqj : q = j
          · subst hqj
            rw [HKj.out] at cq
            gi_wp2_with fail
            have hmix : Try.prog.follows .mixedOrders = true := by kernel_rfl
            have n1 : q ≤ cap' := by omega
            have n2 : q + 1 ≤ cap' := by omega
            have n3 : q + 1 ≤ Ks.length := by omega
            have n4 : (q : Int) + 1 ≤ Ks.length := by omega
            have n5 : (0 : Int) ≤ (q : Int) + 1 := by omega
            have w1 : IntKind.i64.wrap ((q : Int) + 1) = (q : Int) + 1 := by rw [IntKind.wrap_i64]; omega
            refine wpRound_last (fun V => V.cell? ⟨O, 0, none⟩ = some (.slice (some ⟨g, 0, none⟩) Ks.length cap')) 10 (by kernel_rfl) ?_ hmix c0 (fun hS0 => ?_)
            · rintro ⟨_, _, h⟩; exact h
            refine wpAnyE_take (i := 1) (v := ?_) rfl (by kernel_rfl) (by kernel_rfl) (fun _ _ _ h => h) (by kernel_rfl) (by kernel_rfl) (Or.inl ⟨by rfl, ?hy⟩) (by assumption) ?_
            case hy =>
              intro w hSw
              (try dsimp only at hSw)
              go_simp
              try with_reducible rfl
            simp only [List.getElem_toArray, List.getElem_cons_succ, List.getElem_cons_zero, Act.put, List.setIfInBounds_toArray]
            simp only [List.set_cons_succ, List.set_cons_zero]
            refine wpAnyE_take (i := 2) (v := ?_) rfl (by kernel_rfl) (by kernel_rfl) (fun _ _ _ h => h) (by kernel_rfl) (by kernel_rfl) (Or.inl ⟨by rfl, ?hy⟩) (by assumption) ?_
            case hy =>
              intro w hSw
              (try dsimp only at hSw)
              go_simp
              try with_reducible rfl
            simp only [List.getElem_toArray, List.getElem_cons_succ, List.getElem_cons_zero, Act.put, List.setIfInBounds_toArray]
            simp only [List.set_cons_succ, List.set_cons_zero]
            refine wpAnyE_take (i := 3) (v := ?_) rfl (by kernel_rfl) (by kernel_rfl) (fun _ _ _ h => h) (by kernel_rfl) (by kernel_rfl) (Or.inl ⟨by rfl, ?hy⟩) (by assumption) ?_
            case hy =>
              intro w hSw
              (try dsimp only at hSw)
              go_simp
              try with_reducible rfl
            simp only [List.getElem_toArray, List.getElem_cons_succ, List.getElem_cons_zero, Act.put, List.setIfInBounds_toArray]
            simp only [List.set_cons_succ, List.set_cons_zero]
            refine wpAnyE_take (i := 5) (v := ?_) rfl (by kernel_rfl) (by kernel_rfl) (fun _ _ _ h => h) (by kernel_rfl) (by kernel_rfl) (Or.inl ⟨by rfl, ?hy⟩) (by assumption) ?_
            case hy =>
              intro w hSw
              (try dsimp only at hSw)
              go_simp
              try with_reducible rfl
            simp only [List.getElem_toArray, List.getElem_cons_succ, List.getElem_cons_zero, Act.put, List.setIfInBounds_toArray]
            simp only [List.set_cons_succ, List.set_cons_zero]
            refine wpAnyE_take (i := 6) (v := ?_) rfl (by kernel_rfl) (by kernel_rfl) (fun _ _ _ h => h) (by kernel_rfl) (by kernel_rfl) (Or.inl ⟨by rfl, ?hy⟩) (by assumption) ?_
            case hy =>
              intro w hSw
              (try dsimp only at hSw)
              go_simp
              try with_reducible rfl
            simp only [List.getElem_toArray, List.getElem_cons_succ, List.getElem_cons_zero, Act.put, List.setIfInBounds_toArray]
            simp only [List.set_cons_succ, List.set_cons_zero]
            refine wpAnyE_take (i := 7) (v := ?_) rfl (by kernel_rfl) (by kernel_rfl) (fun _ _ _ h => h) (by kernel_rfl) (by kernel_rfl) (Or.inl ⟨by rfl, ?hy⟩) (by assumption) ?_
            case hy =>
              intro w hSw
              (try dsimp only at hSw)
              go_simp
              try with_reducible rfl
            simp only [List.getElem_toArray, List.getElem_cons_succ, List.getElem_cons_zero, Act.put, List.setIfInBounds_toArray]
            simp only [List.set_cons_succ, List.set_cons_zero]
            refine wpAnyE_take (i := 8) (v := ?_) rfl (by kernel_rfl) (by kernel_rfl) (fun _ _ _ h => h) (by kernel_rfl) (by kernel_rfl) (Or.inl ⟨by rfl, ?hy⟩) (by assumption) ?_
            case hy =>
              intro w hSw
              (try dsimp only at hSw)
              go_simp
              try with_reducible rfl
            simp only [List.getElem_toArray, List.getElem_cons_succ, List.getElem_cons_zero, Act.put, List.setIfInBounds_toArray]
            simp only [List.set_cons_succ, List.set_cons_zero]
            have tD : Turned [] W W.drew := (Turned.refl [] W).drew
            have H2' : W.ownsRow 0 3 1 (.slice (some ⟨g, 0, none⟩) Ks.length cap') Ks.length (cellsOf encI Ks) := by rw [encI_cells]; exact O2.out
            have HE2 := Lib.hid H2'
            have HTD := Lib.hid tD
            clear H2' tD
            refine wpAnyE_ready (rs := [0]) (by kernel_rfl) (by simp) ?_
            refine ReadyE.cons rfl (fun K hK => ?_) ReadyE.nil
            go_simp
            refine hK.out _ _ (.inr ?_) ?_
            · exact (World.cell?_alloc_some _ _ _ (by rw [c0]; rfl)).trans c0
            clear hK K
            refine wpAnyE_ready (rs := [4]) (by kernel_rfl) (by simp) ?_
            refine ReadyE.cons rfl (fun K hK => ?_) ReadyE.nil
            refine step_append_any _ rfl (.tmp 67) (.tmp 70) 29 rfl 3 ii (.int .i64 0) 1 8 Try.underlying29 hi hz0 hz1 hz2 rfl (by decide) (.slice (some ⟨W.heap.size, 0, none⟩) 0 0) 0 [] rfl (ownsRow_empty W.drew 3 1) (some ⟨g, 0, none⟩) q cap' (cellsOf encI (Ks.take q)) rfl (by rw [cellsOf_len encI_len, List.length_take, Nat.min_eq_left (by omega)]) (by intro h; cases h) (by intro ad had; cases had; exact cells_take encI_len HE2.out (HTD.out.alloc _) q) (cells_one encI_one _) (by unfold maxLen; omega) (by omega) ?_
            intro a1 cap1 W1 hown1 hgrow1 hnew1
            rw [Nat.zero_add, List.nil_append] at hown1
            rw [Nat.zero_add] at hnew1
            have t1 : Turned [] W W1 := Turned.grown (((Turned.refl [] W).alloc _).drew) hgrow1 (fun k hk => .inr (by simp [Value.ownBlock] at hk; omega))
            have HO1 := Lib.hid hown1
            have hn1 : ∀ q' ∈ (Value.slice a1 q cap1).ownBlock.toList, W.heap.size ≤ q' := fun q' hq' => by
              rcases hnew1 q' hq' with h | h
              · simp [Value.ownBlock] at h
                omega
              · have h' : W.heap.size + 1 ≤ q' := by simpa using h
                omega
            have HN1 := Lib.hid hn1
            have HT1 := Lib.hid t1
            have c1 := cell1 (t1.same O1.out (by simp))
            refine hK.out _ _ (.inr ?_) ?_
            · exact c1
            clear hown1 hgrow1 hnew1 t1 hn1 hK K
            rw [Nat.zero_add]
            simp only [List.getElem_toArray, List.getElem_cons_succ, List.getElem_cons_zero, Act.put, List.setIfInBounds_toArray]
            simp only [List.set_cons_succ, List.set_cons_zero]
            refine wpAnyE_ready (rs := [9]) (by kernel_rfl) (by simp) ?_
            refine ReadyE.cons rfl (fun K hK => ?_) ReadyE.nil
            refine step_append_any _ rfl (.tmp 71) (.tmp 75) 29 rfl 3 ii (.int .i64 0) 1 8 Try.underlying29 hi hz0 hz1 hz2 rfl (by decide) _ _ _ rfl HO1.out (if cap' = q + 1 then some ⟨g, 0, none⟩ else some ⟨g, (q + 1) * 1, none⟩) (Ks.length - (q + 1)) (cap' - (q + 1)) (cellsOf encI (Ks.drop (q + 1))) ?hxx (by rw [cellsOf_len encI_len, List.length_drop]) (by intro h; split at h <;> cases h) (cells_tail encI_len HE2.out HT1.out (q + 1) (by omega)) (cells_one encI_one _) (by unfold maxLen; omega) (by omega) ?_
            case hxx => simp [Act.eval]
            intro a2 cap2 W3 hown2 hgrow2 hnew2
            have t2 : Turned [] W W3 := Turned.grown HT1.out hgrow2 (fun k hk => .inr (HN1.out k (by rw [Option.mem_toList]; exact hk)))
            have hn2 : ∀ q' ∈ (Value.slice a2 (q + (Ks.length - (q + 1))) cap2).ownBlock.toList, W.heap.size ≤ q' := fun q' hq' => by
              rcases hnew2 q' hq' with h | h
              · exact HN1.out q' h
              · have := HT1.out.size
                omega
            have HO2 := Lib.hid hown2
            have HN2 := Lib.hid hn2
            have HT2 := Lib.hid t2
            have o3 := t2.same O1.out (by simp)
            have c2 := cell1 o3
            have f2 := frozen_of_row _ _ 0 _ _ o3
            refine hK.out _ _ (.inr ?_) ?_
            · exact c2
            clear hown2 hgrow2 hnew2 t2 hn2 hK K o3
            simp only [List.getElem_toArray, List.getElem_cons_succ, List.getElem_cons_zero, Act.put, List.setIfInBounds_toArray]
            simp only [List.set_cons_succ, List.set_cons_zero]
            refine wpAnyE_ready (rs := [10]) (by kernel_rfl) (by simp) ?_
            refine ReadyE.cons rfl (fun K hK => ?_) ReadyE.nil
            go_simp
            refine hK.out _ _ (.inl rfl) ?_
            clear hK K
            refine wpAnyE_done (by kernel_rfl) ?_ _
            have hown : W3.ownsRow 0 3 1 (.slice a2 (q + (Ks.length - (q + 1))) cap2) (Ks.eraseIdx q).length (intsW (Ks.eraseIdx q)) := by
              have h := HO2.out
              rw [← cellsOf_append, take_drop_erase, encI_cells] at h
              rw [show (Ks.eraseIdx q).length = q + (Ks.length - (q + 1)) by rw [List.length_eraseIdx, if_pos hjK]; omega]
              exact h
            have hI3 := (HI.out.later HT2.out)
            have hB3 := OnB.store HI.out (HI.out.t.j HT2.out) (HT2.out.block _ (by have := lt_of_block HI.out.k; omega) (by simp)) (HT2.out.block _ (by have := lt_of_block HI.out.r; omega) (by simp)) (HT2.out.block _ (lt_of_block O1.out) (by simp)) hown
              (fun j' hj' => by
                have h1 := HN2.out j' hj'
                have h2 := lt_of_block O1.out
                have h3 := lt_of_block HI.out.r
                exact ⟨fun hz => by have := HZ1.out j' hz; omega, by omega, by omega⟩)
            have hK3 : KeepsFrom W2.heap.size W (W3.setCell ⟨O, 0, none⟩ (.slice a2 (q + (Ks.length - (q + 1))) cap2)) := ((keepsOthers_turned HT2.out (by simp)).trans (KeepsOthers.setCell _ _ _)).from _
            have hS3 : SameAt Z1 W (W3.setCell ⟨O, 0, none⟩ (.slice a2 (q + (Ks.length - (q + 1))) cap2)) := fun i hi => by
              refine (Below.heap_setCell _ _ _ _ (HI.out.x i hi).2).trans ?_
              exact HT2.out.block i (HZ1.out i hi) (by simp)
            have B3 := Lib.hid hB3
            have K3 := Lib.hid hK3
            have S3 := Lib.hid hS3
            clear hown hI3 hB3 hK3 hS3 c2 f2 c0 c1 ck k0 k1 k2
            gi_wp2
            all_goals exact ⟨K3.out, S3.out, by rw [HKn.out]; exact B3.out, Nat.le_trans HWs.out K3.out.size, fun i hi => Nat.lt_of_lt_of_le (HZ1.out i hi) K3.out.size⟩
          · have hne := HC2.out q (by omega) hqj
            obtain ⟨z, hz⟩ : ∃ z, Ks.getD q 0 = z := ⟨_, rfl⟩
            rw [hz] at cq hne
            have e2 : (z == x1) = false := by simpa using hne
            gi_wp2
            go_round
            case rel => exact ⟨q + 1, by go_num, by omega⟩
            case measure => simp [intOf]; omega
      case done =>
        rintro D xs Z1 W hD hZD ⟨rfl, X1, hA, hX1⟩ ⟨hI, hWs, hZ1⟩ hK
        have hm2 := dueR_key HAll.out 18446744073709551615 (dueA 18446744073709551615 L).length
        have hml := (dueR_sub 18446744073709551615 (dueA 18446744073709551615 L).length L).length_le
        obtain ⟨M, hM⟩ : ∃ M, dueR 18446744073709551615 (dueA 18446744073709551615 L).length L = M := ⟨_, rfl⟩
        rw [hM] at hA hI hm2 hml
        have hwk := wake_key hm2 (show M.length ≤ Int.toNat 100 by rw [show Int.toNat 100 = 100 from rfl]; omega)
        obtain ⟨Ks, hKs⟩ : ∃ Ks, M.map (fun x : Wt => x.1) = Ks := ⟨_, rfl⟩
        rw [hKs] at hI hwk
        have E0 : OnE S w W a O [D] X1 (c + 100) M Ks key := ⟨hI.sub hX1, hA, fun D' hD' => by
          obtain rfl := List.mem_singleton.1 hD'
          exact ⟨hK, fun hx => hZD D' (hX1 D' hx) rfl⟩⟩
        have HE0 := Lib.hid E0
        have HWk := Lib.hid hwk
        have hml60 : M.length ≤ 60 := by omega
        clear hA hI hm2 hml hM hKs hwk hWs hZ1 hX1 hZD hK E0 HSEQ HENT HB2 HZ HAll HOne
        go_wp2_with fail
        refine (N.cancel 1 _).mono ?_
        rintro e V1 ⟨rfl, t1⟩
        obtain ⟨V2, hV2⟩ : ∃ V2, V1.alloc (.cells #[.int .i64 0, .int .i64 0, .int .u64 0] tW) = V2 := ⟨_, rfl⟩
        have HE2 := Lib.hid (HE0.out.later (t1.alloc (.cells #[.int .i64 0, .int .i64 0, .int .u64 0] tW)))
        rw [hV2] at HE2
        have HV2 := Lib.hid hV2
        clear t1 HE0 hV2
        go_wp2_with fail
        rw [HV2.out]
        refine (N.who 1 V2).mono ?_
        rintro e V3 ⟨rfl, t3⟩
        obtain ⟨V4, hV4⟩ : ∃ V4, V3.alloc (.cells #[.int .i64 0, .int .i64 0, .int .u64 0] tW) = V4 := ⟨_, rfl⟩
        have HE4 := Lib.hid (HE2.out.later (t3.alloc (.cells #[.int .i64 0, .int .i64 0, .int .u64 0] tW)))
        rw [hV4] at HE4
        have HV4 := Lib.hid hV4
        clear t3 HE2 HV2 hV4
        go_wp2_with fail
        rw [HV4.out]
        refine (N.of 1 V4).mono ?_
        rintro e V5 ⟨f5, lb5, rfl, t5, hent5, hseq5⟩
        have HE5 := Lib.hid (HE4.out.later t5)
        have HENT5 := Lib.hid hent5
        have HSEQ5 := Lib.hid (hseq5 19 (by omega))
        clear t5 HE4 HV4 hent5 hseq5
        go_wp2_with fail
        refine (wpIn_wide (n := 20)).1 ?_
        refine range_turns rfl (by omega) (gf := f5) (lb := lb5) rfl trivial HENT5.out (X := []) (Y := []) (by simp) (by simp) HSEQ5.out (fun _ => rfl) (fun _ _ _ h _ => h) (fun _ _ _ h _ => h)
          (fun _ W' => OnE S w W' a O [D] X1 (c + 100) M Ks key) (fun _ _ _ => False) ?hI5 (fun _ _ _ _ h _ => h.elim) HE5.out (fun _ _ _ => True) (fun _ _ _ _ _ _ => trivial) ?assign5 (fun _ _ _ _ _ _ _ h => h.elim) ?done5 (fun _ _ _ _ _ h _ _ => h.elim)
        case hI5 =>
          intro xs A' B h m
          have hw := HE5.out
          exact h.mild m hw.b.t.size (fun x hx => S.lt hw.q x hx) (fun D' hD' => lt_of_block (hw.d D' hD').1)
        case assign5 =>
          intro l x x' W' K hI hK
          gi_wp2
          exact hK _ _ (KeepsFrom.refl _ _) (SameAt.refl _ _) hI trivial
        case done5 =>
          rintro D5 xs W5 hD5 _ hS5 hK5
          have HE6 := Lib.hid (hS5.mark hK5 hD5 (fun x hx => S.lt HE5.out.q x hx))
          have hD5' : D < D5 := Nat.lt_of_lt_of_le (lt_of_block (HE5.out.d D (by simp)).1) hD5
          clear hS5 hK5 HE5 hD5 HENT5 HSEQ5
          go_wp2_with fail
          refine (N.expire 9 _).mono ?_
          rintro e V7 ⟨f7, lb7, rfl, t7, hent7, hseq7⟩
          have HE7 := Lib.hid (HE6.out.later t7)
          have HENT7 := Lib.hid hent7
          have HSEQ7 := Lib.hid (hseq7 19 (by omega))
          clear t7 HE6 hent7 hseq7
          go_wp2_with fail
          refine (wpIn_wide (n := 20)).1 ?_
          refine range_turns rfl (by omega) (gf := f7) (lb := lb7) rfl trivial HENT7.out (X := []) (Y := []) (by simp) (by simp) HSEQ7.out (fun _ => rfl) (fun _ _ _ h _ => h) (fun _ _ _ h _ => h)
            (fun _ W' => OnE S w W' a O [D5, D] X1 (c + 100) M Ks key) (fun _ _ _ => False) ?hI7 (fun _ _ _ _ h _ => h.elim) HE7.out (fun _ _ _ => True) (fun _ _ _ _ _ _ => trivial) ?assign7 (fun _ _ _ _ _ _ _ h => h.elim) ?done7 (fun _ _ _ _ _ h _ _ => h.elim)
          case hI7 =>
            intro xs A' B h m
            have hw := HE7.out
            exact h.mild m hw.b.t.size (fun x hx => S.lt hw.q x hx) (fun D' hD' => lt_of_block (hw.d D' hD').1)
          case assign7 =>
            intro l x x' W' K hI hK
            gi_wp2
            exact hK _ _ (KeepsFrom.refl _ _) (SameAt.refl _ _) hI trivial
          case done7 =>
            rintro D7 xs W7 hD7 _ hS7 hK7
            have hD7' : D5 < D7 := Nat.lt_of_lt_of_le (lt_of_block (HE7.out.d D5 (by simp)).1) hD7
            have HE8 := Lib.hid (show OnE S w W7.drew a O [D7, D5, D] X1 (c + 100) M Ks key from (hS7.mark hK7 hD7 (fun x hx => S.lt HE7.out.q x hx)).later ((Turned.refl [] W7).drew))
            clear hS7 hK7 HE7 hD7 HENT7 HSEQ7
            obtain ⟨v, o1, o2, o3⟩ := HE8.out.b.o
            have O1 := Lib.hid o1
            have O3 := Lib.hid o3
            have p0 := cell1 HE8.out.b.k
            have p1 := cell1 o1
            obtain ⟨av, vc, rfl, _, _⟩ := ownsRow_shape o2
            have O2 := Lib.hid o2
            clear o1 o2 o3
            have HW1 := Lib.hid (S.wake key 100 HE8.out.q HKey.out ⟨by decide, by decide⟩ (by omega) (by omega))
            rw [HWk.out.1, HWk.out.2] at HW1
            have hem := wake_empty key (Int.toNat 100)
            have HEm := Lib.hid hem
            clear hem
            have HNW := Lib.hid (fun W => N.wait (0, 0, 0) W)
            simp only [aggW] at HNW
            go_wp2_with fail
            go_region_held3 (fun V => V.cell? ⟨w.heap.size, 0, none⟩ = some (.int .i64 key) ∧ V.cell? ⟨O, 0, none⟩ = some (.slice av Ks.length vc))
              (first | exact ⟨cell1 ((Below.heap_setCell _ _ _ _ (by simp)).trans G9.out.b.k), cell1 ((Below.heap_setCell _ _ _ _ (by have := G9.out.b.z; simp; omega)).trans (show (A8.drewN n9).heap[O]? = _ from O8'.out))⟩ | exact ⟨y0, y1⟩ | exact ⟨x0, x1⟩ | exact ⟨u0, u1⟩ | exact ⟨s0, s1⟩ | exact ⟨r0, r1⟩ | exact ⟨q0, q1⟩ | exact ⟨p0, p1⟩)
              (first
                | (go_at_call 11
                   with_reducible refine HW1.out.mono ?_
                   rintro e A1 ⟨v1, rfl, ro1, X2, h1, t1, n1⟩
                   obtain ⟨a1, c1, rfl, _, _⟩ := ownsRow_shape ro1
                   have g1 := HE8.out.turn h1 t1 n1
                   have G1 := Lib.hid g1
                   have o1 := t1.same O1.out (HE8.out.b.off (.inr rfl))
                   have o2 := ownsRow_same O2.out fun k hk hl => t1.block k hl (O3.out k hk).1
                   have HIn := Lib.hid (ints_any ro1 o2)
                   have q0 := cell1 g1.b.k
                   have q1 := cell1 o1
                   have O1' := Lib.hid o1
                   clear ro1 h1 t1 n1 g1 o1 o2)
                | (go_at_call 10
                   with_reducible refine HIn.out.mono ?_
                   rintro e A2 ⟨rfl, n2, rfl⟩
                   have G2 := Lib.hid (G1.out.later ((Turned.refl [] A1).drewN n2))
                   have HW2 := Lib.hid (S.wake key 100 G2.out.q HKey.out ⟨by decide, by decide⟩ (by simp) (by omega))
                   rw [HEm.out.1, HEm.out.2] at HW2)
                | (go_at_call 11
                   with_reducible refine HW2.out.mono ?_
                   rintro e A3 ⟨v3, rfl, ro3, X3, h3, t3, n3⟩
                   obtain ⟨a3, c3, rfl, _, _⟩ := ownsRow_shape ro3
                   have g3 := G2.out.turn h3 t3 n3
                   have G3 := Lib.hid g3
                   have o3 := t3.same (show (A1.drewN n2).heap[O]? = _ from O1'.out) (G2.out.b.off (.inr rfl))
                   have r0 := cell1 g3.b.k
                   have r1 := cell1 o3
                   have HLn := Lib.hid (S.len g3.q)
                   have O3' := Lib.hid o3
                   clear ro3 h3 t3 n3 g3 o3)
                | (go_at_call 23
                   with_reducible refine HLn.out.mono ?_
                   rintro e A4 ⟨rfl, n4, rfl⟩
                   have G4 := Lib.hid (G3.out.later ((Turned.refl [] A3).drewN n4)))
                | (go_at_call 8
                   with_reducible refine (HNW.out _).mono ?_
                   rintro e A5 ⟨rfl, t5⟩
                   have g5 := G4.out.later t5
                   have o5 := t5.same (show (A3.drewN n4).heap[O]? = _ from O3'.out) (by simp)
                   have G5 := Lib.hid g5
                   have O5' := Lib.hid o5
                   have s0 := cell1 g5.b.k
                   have s1 := cell1 o5
                   clear t5 g5 o5)
                | (go_at_call 11
                   with_reducible refine (N.wake 1 1 _).mono ?_
                   rintro e A6 ⟨⟨a6, c6, rfl⟩, t6⟩
                   have g6 := G5.out.later t6
                   have o6 := t6.same O5'.out (by simp)
                   have G6 := Lib.hid g6
                   have O6' := Lib.hid o6
                   have u0 := cell1 g6.b.k
                   have u1 := cell1 o6
                   clear t6 g6 o6)
                | (go_at_call 16
                   with_reducible refine (N.requeue 1 2 3 _).mono ?_
                   rintro e A7 ⟨rfl, t7⟩
                   have g7 := G6.out.later t7
                   have o7 := t7.same O6'.out (by simp)
                   have G7 := Lib.hid g7
                   have O7' := Lib.hid o7
                   have x0 := cell1 g7.b.k
                   have x1 := cell1 o7
                   clear t7 g7 o7)
                | (go_at_call 24
                   with_reducible refine (N.count 1 _).mono ?_
                   rintro e A8 ⟨rfl, t8⟩
                   have g8 := G7.out.later t8
                   have o8 := t8.same O7'.out (by simp)
                   have G8 := Lib.hid g8
                   have O8' := Lib.hid o8
                   have y0 := cell1 g8.b.k
                   have y1 := cell1 o8
                   clear t8 g8 o8)
                | (go_at_call 23
                   with_reducible refine (N.len _).mono ?_
                   rintro e A9 ⟨rfl, n9, rfl⟩
                   have g9 := G8.out.later ((Turned.refl [] A8).drewN n9)
                   have G9 := Lib.hid g9
                   have ra := cell1 g9.b.r
                   have rf := frozen_of_row _ _ 0 _ _ g9.b.r
                   clear g9))
            rw [show (IntKind.i64.wrap (IntKind.i64.wrap 0) == 0) = true by decide]
            obtain ⟨A9, hA9⟩ : ∃ A9, A8.drewN n9 = A9 := ⟨_, rfl⟩
            rw [hA9] at G9 ⊢
            clear ra rf q0 q1 r0 r1 s0 s1 u0 u1 x0 x1 y0 y1 p0 p1 hA9
            go_wp2
            have m0 := lt_of_block G9.out.b.r
            have hk0 : D5 < D7 := hD7'
            have n7 : D7 ≠ w.heap.size + 1 := fun e => by have h1 := (G9.out.d D7 (by simp)).1; rw [e, G9.out.b.r] at h1; cases h1
            have n5 : D5 ≠ w.heap.size + 1 := fun e => by have h1 := (G9.out.d D5 (by simp)).1; rw [e, G9.out.b.r] at h1; cases h1
            have n0 : D ≠ w.heap.size + 1 := fun e => by have h1 := (G9.out.d D (by simp)).1; rw [e, G9.out.b.r] at h1; cases h1
            have k7 : (A9.setCell ⟨w.heap.size + 1, 0, none⟩ (.bool true)).heap[D7]? = some (.deferred (some [])) := (Below.heap_setCell _ _ _ _ n7).trans (G9.out.d D7 (by simp)).1
            have k5 : ((A9.setCell ⟨w.heap.size + 1, 0, none⟩ (.bool true)).putObj D7 (.deferred none)).heap[D5]? = some (.deferred (some [])) :=
              (World.putObj_heap_other (by omega)).trans ((Below.heap_setCell _ _ _ _ n5).trans (G9.out.d D5 (by simp)).1)
            have k0 : (((A9.setCell ⟨w.heap.size + 1, 0, none⟩ (.bool true)).putObj D7 (.deferred none)).putObj D5 (.deferred none)).heap[D]? = some (.deferred (some [])) :=
              (World.putObj_heap_other (by omega)).trans ((World.putObj_heap_other (by omega)).trans ((Below.heap_setCell _ _ _ _ n0).trans (G9.out.d D (by simp)).1))
            have hr : ((((A9.setCell ⟨w.heap.size + 1, 0, none⟩ (.bool true)).putObj D7 (.deferred none)).putObj D5 (.deferred none)).putObj D (.deferred none)).heap[w.heap.size + 1]? = some (.cells #[.bool true] 4 (0, 0)) := by
              refine (World.putObj_heap_other (Ne.symm n0)).trans ((World.putObj_heap_other (Ne.symm n5)).trans ((World.putObj_heap_other (Ne.symm n7)).trans ?_))
              rw [heap_setCell_same _ _ _ _ _ _ G9.out.b.r]
              rfl
            refine ⟨by simp, .inl ⟨_, _, rfl, run_takeDeferred k7, by simp, .inl ⟨_, _, rfl, run_takeDeferred k5, by simp, .inl ⟨_, _, rfl, run_takeDeferred k0, ?_⟩⟩⟩⟩
            exact ⟨_, bool_result rfl rfl hr, rfl, (((G9.out.b.t.setCell (.inr (by simp)) _).put (by omega) _).put (by omega) _).put (by omega) _⟩
end Go.Proofs.Ytiffgkmmibhklaa
