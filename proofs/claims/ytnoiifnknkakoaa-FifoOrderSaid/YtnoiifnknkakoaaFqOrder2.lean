/-
  FifoOrder: the walk.
-/
import Derived.Test.YtnoiifnknkakoaaFqOrdM
import Derived.Test.YtnoiifnknkakoaaFqPour
import Derived.Test.YtnoiifnknkakoaaFqAll
import Derived.Test.YtnoiifnknkakoaaFqAwake
import Derived.Sort.BigQuietIn
import Derived.BigQuiet
namespace Go.Proofs.Ytnoiifnknkakoaa
open Go.RowKit Go.Maps Go.Shelf
attribute [local go_sem] Oper.semAt_some

theorem run_min_two {P : Program} {w : World} (ts : Array TypeId) (t : TypeId) (x y : Int) : (Builtin.min_ ts t #[.int .i64 x, .int .i64 y]).run P w = .ok (.int .i64 (min x y)) w := by
  rw [run_min_int2]
  congr 2
  split <;> omega
attribute [local go_sem ↓] run_min_two
theorem lt_of_block' {w : World} {k : Nat} {o : Obj} (h : w.heap[k]? = some o) : k < w.heap.size := (Array.getElem?_eq_some_iff.1 h).1
theorem div_le_self' {j e : Nat} (he : 2 ≤ e) : (j + e - 1) / e ≤ j := by
  rcases Nat.eq_zero_or_pos j with rfl | h
  · rw [Nat.div_eq_of_lt (by omega)]
    omega
  · refine Nat.div_le_of_le_mul ?_
    have : e * j = e * (j - 1) + e := by
      obtain ⟨q, rfl⟩ : ∃ q, j = q + 1 := ⟨j - 1, by omega⟩
      simp [Nat.mul_add]
    have : 2 * (j - 1) ≤ e * (j - 1) := Nat.mul_le_mul_right _ he
    omega

set_option maxRecDepth 100000 in
set_option maxHeartbeats 8000000 in
theorem forder_walk (ao : Option Addr) (b off n cap : Nat) (F : Nat → Int) (nn mo : Int) (w : World) (hn : n ≤ 80) (hao : 0 < n → ao = some ⟨b, off, none⟩ ∧ b < w.heap.size) (hF : ∀ i, i < n → w.cell? ⟨b, off + i, none⟩ = some (.int .i64 (F i)))
    (hnn : 0 ≤ nn ∧ nn ≤ 255) (hmo : 0 ≤ mo ∧ mo ≤ 255) :
    Calls Try.prog 4 #[.slice ao n cap, .int .u8 nn, .int .u8 mo] w fun e w' => e = .returned (.bool true) ∧ Turned [] w w' := by
  refine callsIn_wide.1 (?_ : CallsIn Fence.wide 20 _ _ _ _ _)
  refine callsIn_of_wp_marks Try.func4 rfl trivial ?_ rfl
  simp only [Try.ntmps4, List.size_toArray, List.length_cons, List.length_nil, Nat.reduceAdd, Nat.reduceSub, Array.replicate_succ, Array.replicate_zero, List.push_toArray, List.append_toArray, List.nil_append, List.cons_append]
  refine wpIn_wide.2 ?_
  have HFc := Lib.hid hF
  have HAO := Lib.hid hao
  obtain ⟨Wb, hWb⟩ : ∃ Wb, (w.alloc (.cells #[.int .u8 mo] 5)).alloc (.cells #[.bool false] 4) = Wb := ⟨_, rfl⟩
  have E0 := Lib.hid (show OrB w Wb mo from hWb ▸ OrB.new w mo)
  have AW := Lib.hid (awake5 Wb)
  have HN := Lib.hid (qnew 100)
  rw [show min (max (100 : Int) 0) 4096 = 100 by decide] at HN
  obtain ⟨N5, rfl⟩ := Int.eq_ofNat_of_zero_le hnn.1
  obtain ⟨r, hr, hr5⟩ : ∃ r : Nat, (N5 : Int).tmod 5 = (r : Int) ∧ r < 5 := ⟨N5 % 5, (Int.ofNat_tmod N5 5).symm, Nat.mod_lt _ (by omega)⟩
  obtain ⟨e, he⟩ : ∃ e : Nat, 2 + r = e := ⟨_, rfl⟩
  have he1 : (2 : Int) + (r : Int) = (e : Int) := by omega
  have he2 : 2 ≤ e ∧ e ≤ 6 := by omega
  clear hF hao he
  go_wp2_with fail
  (try simp only [hWb])
  clear hWb
  refine AW.out.mono ?_
  rintro e0 w0 ⟨rfl, t0⟩
  have E1 := Lib.hid (E0.out.later t0)
  clear t0 AW E0
  go_wp2_with fail
  refine (HN.out w0).mono ?_
  rintro e0 w1 ⟨A, X, rfl, q1, t1, n1⟩
  have Q0 : OrQ w w1 mo A X 0 (tick F (List.range 0)) := ⟨E1.out.later t1, q1, fun k hk => by
    have := n1 k hk
    have := E1.out.size
    omega⟩
  have HQ0 := Lib.hid Q0
  clear q1 t1 n1 E1 HN Q0
  go_wp2
  go_loopw [37] (fun i wr => ∃ k : Nat, k ≤ n ∧ i = .int .i64 k ∧ ∃ X, Hid (OrQ w wr mo A X k (tick F (List.range k)))) (fun i _ => n - (intOf i).toNat)
  case atStart => exact ⟨0, Nat.zero_le _, rfl, X, HQ0⟩
  case round =>
    obtain ⟨k, hk, rfl, X, HQ⟩ := hrel
    by_cases hlt : k < n
    · obtain ⟨rfl, hb⟩ := HAO.out (by omega)
      have hcell := HFc.out k hlt
      rw [← (HQ.out.e.turned.below (B := w.heap.size) (by simp) (Nat.le_refl _)).cell (p := ⟨b, off + k, none⟩) hb] at hcell
      obtain ⟨z, hz⟩ : ∃ z, F k = z := ⟨_, rfl⟩
      have hput := qpush_yes HQ.out.q (F k) (by rw [tick_len, List.length_range]; omega) (by omega)
      rw [← tick_range_succ] at hput
      rw [hz] at hcell hput
      have HP := Lib.hid hput
      have l1 : (k : Int) < n := by omega
      clear hput hz HQ0
      go_wp2_with fail
      with_reducible refine HP.out.mono ?_
      rintro e0 w2 ⟨rfl, X', p1, p2, p3⟩
      have HQ2 := Lib.hid (HQ.out.step p1 p2 p3)
      clear p1 p2 p3 HP
      go_wp2
      go_roundw
      case rel => exact ⟨k + 1, by omega, by go_num, X', by rw [show (((k + 1 : Nat) : Int)) = (k : Int) + 1 by omega]; exact HQ2⟩
      case measure => simp [intOf]; omega
    · obtain rfl : k = n := by omega
      have HQ1 : Hid (OrQ w wr mo A X k (tick F (leftI k e 0))) := by rw [leftI_zero]; exact HQ
      clear HQ0 HQ
      go_wp2
      go_loopw [51] (fun i wr => ∃ j : Nat, j ≤ k ∧ i = .int .i64 j ∧ ∃ X, Hid (OrQ w wr mo A X k (tick F (leftI k e j)))) (fun i _ => k - (intOf i).toNat)
      case atStart => exact ⟨0, Nat.zero_le _, rfl, X, HQ1⟩
      case round =>
        obtain ⟨j, hj, rfl, X, HQ⟩ := hrel
        have hrem : (j : Int).tmod (e : Int) = ((j % e : Nat) : Int) := (Int.ofNat_tmod j e).symm
        have he0 : ((e : Int) == 0) = false := by
          rw [beq_eq_false_iff_ne]
          omega
        have he3 : (e : Int) ≠ 0 := by omega
        obtain ⟨q, hq⟩ : ∃ q, j % e = q := ⟨_, rfl⟩
        rw [hq] at hrem
        by_cases hlt : j < k
        · have l1 : (j : Int) < k := by omega
          by_cases hq0 : q = 0
          · subst hq0
            obtain ⟨rfl, hb⟩ := HAO.out (by omega)
            obtain ⟨y1, y2, y3⟩ := tick_drop (F := F) hlt hq
            have hrm := qremove ((j : Int) + 1) (WalkArith.wf_i64 (by omega)) HQ.out.q
            rw [y1, y2, y3] at hrm
            have HCell := Lib.hid (fun (V : World) (t : Turned [] w V) => show V.cell? ⟨b, off + j, none⟩ = some (.int .i64 (F j)) by
              rw [(t.below (B := w.heap.size) (by simp) (Nat.le_refl _)).cell (p := ⟨b, off + j, none⟩) hb]
              exact HFc.out j hlt)
            obtain ⟨z, hz⟩ : ∃ z, F j = z := ⟨_, rfl⟩
            rw [hz] at hrm HCell
            have HP := Lib.hid hrm
            clear hrm hz y1 y2 y3 hq HQ1
            go_wp2_with fail
            with_reducible refine HP.out.mono ?_
            rintro e0 w2 ⟨rfl, X', p1, p2, p3⟩
            have HQ2 := Lib.hid (HQ.out.step p1 p2 p3)
            have hcell := HCell.out w2 HQ2.out.e.turned
            clear p1 p2 p3 HP HQ HCell
            go_wp2
            go_roundw
            case rel => exact ⟨j + 1, by omega, by go_num, X', HQ2⟩
            case measure => simp [intOf]; omega
          · have hqn : ((q : Int) == 0) = false := by
              rw [beq_eq_false_iff_ne]
              omega
            have HQ2 : Hid (OrQ w wr mo A X k (tick F (leftI k e (j + 1)))) := by
              rw [leftI_skip (by rw [hq]; exact hq0)]
              exact HQ
            clear hq HQ1 HQ
            go_wp2
            go_roundw
            case rel => exact ⟨j + 1, by omega, by go_num, X, HQ2⟩
            case measure => simp [intOf]; omega
        · obtain rfl : j = k := by omega
          have HQ2 : Hid (OrQ w wr mo A X j (tick F (popI j e 0))) := by rw [← leftI_all]; exact HQ
          have hwr := HQ2.out.e.size
          clear HQ1 HQ hq hrem
          obtain ⟨left, hleft⟩ : ∃ q : Nat, j - (j + e - 1) / e = q := ⟨_, rfl⟩
          have hlen : (tick F (popI j e 0)).length = left := by rw [tick_len, popI_len he2.1, hleft]
          have HLEN := Lib.hid hlen
          have hle : left ≤ j := by rw [← hleft]; exact Nat.sub_le _ _
          have hCX : ∀ x ∈ X, x < wr.heap.size := HQ2.out.q.lt
          have t3 : Turned [] wr (wr.alloc (.cells #[.int .i64 0] 3)) := (Turned.refl [] wr).alloc _
          have HQ3 := Lib.hid (HQ2.out.later t3)
          have HC3 := Lib.hid (heap_alloc_new wr (.cells #[.int .i64 0] 3))
          have HALL := Lib.hid (qall_any HQ3.out.q)
          have hsz3 : (wr.alloc (.cells #[.int .i64 0] 3)).heap.size = wr.heap.size + 1 := by simp
          have HCX := Lib.hid hCX
          clear hlen hCX t3 HQ2
          go_wp2_with fail
          with_reducible refine HALL.out.mono ?_
          rintro e0 w4 ⟨B, rfl, hK, hT⟩
          obtain ⟨Yb, hY, hseq⟩ := all1_seq (n := 19) (by omega) hK (by rw [HLEN.out]; omega)
          have HQ4 := Lib.hid (HQ3.out.later hT)
          have HC4 := Lib.hid (hT.same HC3.out (by simp))
          have HY := Lib.hid hY
          have HSEQ := Lib.hid hseq
          obtain ⟨C, hC⟩ : ∃ C, wr.heap.size = C := ⟨_, rfl⟩
          rw [hC] at HCX HC4 hsz3
          rw [hC]
          have hCz : C + 1 ≤ w4.heap.size := by have := hT.size; omega
          have hwC : w.heap.size + 2 ≤ C := by omega
          clear hT hK hY hseq HALL HQ3 HC3
          go_wp2_with fail
          refine (wpIn_wide (n := 20)).1 ?_
          refine range_turns_plain rfl (by omega) (gf := 33) (lb := #[.pointer (some ⟨B, 0, none⟩)]) rfl trivial (enters_of Try.func33 (by kernel_rfl) rfl)
            (X := []) (Y := Yb) (by simp) (fun k hk => (HY.out k hk).2) HSEQ.out (fun _ => rfl) (fun _ _ _ h _ => h) (fun _ _ _ h _ => h)
            (fun pre W => OrQ w W mo A X j (tick F (popI j e 0)) ∧ W.heap[C]? = some (.cells #[.int .i64 (pre.length : Nat)] 3 (0, 0)) ∧ w4.heap.size ≤ W.heap.size ∧ (pre.length : Int) ≤ mo)
            (fun c pre W => c = .exit 4 ∧ OrQ w W mo A X j (tick F (popI j e 0)) ∧ W.heap[C]? = some (.cells #[.int .i64 (pre.length : Nat)] 3 (0, 0)) ∧ w4.heap.size ≤ W.heap.size ∧ (pre.length : Int) = mo + 1) ?hI ?hIx ⟨HQ4.out, HC4.out, Nat.le_refl _, by simpa using hmo.1⟩
            ?a1 ?assign ?body ?done ?stop
          case hI =>
            rintro xs W1 W2 ⟨h1, h2, h3, h4⟩ mm
            exact ⟨h1.mild mm (by omega) (fun k hk => by have := HCX.out k hk; omega), mm.cells h2 (by simp), Nat.le_trans h3 mm.size, h4⟩
          case hIx =>
            rintro c xs W1 W2 ⟨h0, h1, h2, h3, h4⟩ mm
            exact ⟨h0, h1.mild mm (by omega) (fun k hk => by have := HCX.out k hk; omega), mm.cells h2 (by simp), Nat.le_trans h3 mm.size, h4⟩
          case assign =>
            intro l x W K hK
            gi_wp2
            exact hK
          case body =>
            rintro l pre x W ⟨hq, hc, hz, hm⟩ hsp
            have hlen1 : pre.length + 1 ≤ left := by
              have h1 := hsp.length_le
              rw [HLEN.out] at h1
              simpa using h1
            obtain ⟨p, hp⟩ : ∃ p, pre.length = p := ⟨_, rfl⟩
            rw [hp] at hc hm hlen1
            have c0 := cell1 hc
            have cf := frozen_of_row W C 0 _ _ hc
            have m0 := cell1 hq.e.mb
            have HQ := Lib.hid hq
            have HC := Lib.hid hc
            have HP := Lib.hid (show (pre ++ [x]).length = p + 1 by simp [hp])
            have hnm : C ≠ w.heap.size := by omega
            have fin : Hid (KeepsFrom w4.heap.size W (W.setCell ⟨C, 0, none⟩ (.int .i64 ((p : Int) + 1))) ∧ SameAt Yb W (W.setCell ⟨C, 0, none⟩ (.int .i64 ((p : Int) + 1))) ∧ OrQ w (W.setCell ⟨C, 0, none⟩ (.int .i64 ((p : Int) + 1))) mo A X j (tick F (popI j e 0)) ∧
                (W.setCell ⟨C, 0, none⟩ (.int .i64 ((p : Int) + 1))).heap[C]? = some (.cells #[.int .i64 ((p + 1 : Nat) : Int)] 3 (0, 0)) ∧ w4.heap.size ≤ (W.setCell ⟨C, 0, none⟩ (.int .i64 ((p : Int) + 1))).heap.size) := Lib.hid (by
              refine ⟨(KeepsOthers.setCell _ _ _).from _, fun k hk => Below.heap_setCell _ _ _ _ ?_, hq.set (by omega) (fun hx => by have := HCX.out C hx; omega) _ _, ?_, by simpa [World.setCell] using hz⟩
              · have := (HY.out k hk).1
                simp
                omega
              · rw [heap_setCell_same _ _ _ _ _ _ hc]
                simp)
            clear hsp hq hc hp
            by_cases hlast : (p : Int) < mo
            · have g1 : ¬ mo < (p : Int) + 1 := by omega
              gi_wp2
              obtain ⟨f1, f2, f3, f4, f5⟩ := fin.out
              exact ⟨f1, f2, f3, by rw [HP.out]; exact f4, f5, by rw [HP.out]; omega⟩
            · have g1 : mo < (p : Int) + 1 := by omega
              gi_wp2
              obtain ⟨f1, f2, f3, f4, f5⟩ := fin.out
              exact ⟨f1, f2, rfl, f3, by rw [HP.out]; exact f4, f5, by rw [HP.out]; omega⟩
          case done =>
            rintro D xs W hD rfl ⟨hq, hc, hz, hm⟩ hK
            rw [HLEN.out] at hc hm
            obtain ⟨kk, hkk⟩ : ∃ kk : Nat, left = kk := ⟨_, rfl⟩
            have g1 : (left : Int) < mo + 1 := by omega
            have g2 : ¬ mo + 1 ≤ (left : Int) := by omega
            have g3 : (kk : Int) = (left : Int) := by omega
            have g4 : ((kk : Int) != min (left : Int) (mo + 1)) = false := by
              rw [show min (left : Int) (mo + 1) = (kk : Int) by omega]
              simp
            rw [hkk] at hc
            have HQ5 := Lib.hid hq
            have HC5 := Lib.hid hc
            have HK5 := Lib.hid hK
            clear hq hc hz hm hK HQ4 HC4 HSEQ hkk g1 g2 g3
            have hq1 : IntKind.i64.wrap ((j : Int) + (e : Int)) = (j : Int) + (e : Int) := by
              rw [IntKind.wrap_i64]
              omega
            have hq2 : IntKind.i64.wrap ((j : Int) + (e : Int) - 1) = (j : Int) + (e : Int) - 1 := by
              rw [IntKind.wrap_i64]
              omega
            have hc4 : ((j + e - 1 : Nat) : Int) = (j : Int) + (e : Int) - 1 := by omega
            obtain ⟨q4, hq4⟩ : ∃ q4, (j + e - 1) / e = q4 := ⟨_, rfl⟩
            have hq4j : q4 ≤ j := by
              rw [← hq4]
              exact div_le_self' he2.1
            have hdiv : ((j : Int) + (e : Int) - 1).tdiv (e : Int) = (q4 : Int) := by
              rw [← hc4, ← hq4]
              exact (Int.ofNat_tdiv _ _).symm
            have hsub : (j : Int) - (q4 : Int) = (left : Int) := by
              have h1 := hleft
              rw [hq4] at h1
              clear hleft hdiv hq4 hc4
              omega
            clear hc4
            have he0 : ((e : Int) == 0) = false := by
              rw [beq_eq_false_iff_ne]
              omega
            have he3 : (e : Int) ≠ 0 := by omega
            have HL5 := Lib.hid (qlen HQ5.out.q)
            rw [HLEN.out] at HL5
            have c5 := cell1 HC5.out
            have m5 := cell1 HQ5.out.e.mb
            clear hq4 hq4j
            go_wp2_with fail
            with_reducible refine HL5.out.mono ?_
            rintro e0 w6 ⟨rfl, n6, rfl⟩
            have HQ6 := Lib.hid (HQ5.out.later ((Turned.refl [] W).drewN n6))
            have HK6 := Lib.hid (((Turned.refl [] W).drewN n6).same HK5.out (by simp))
            have hDC : w.heap.size + 2 ≤ D := by omega
            have HDX : Hid (∀ k ∈ X, k < D) := Lib.hid (fun k hk => by have := HCX.out k hk; omega)
            obtain ⟨W6, hW6⟩ : ∃ W6, W.drewN n6 = W6 := ⟨_, rfl⟩
            rw [hW6] at HQ6 HK6
            rw [hW6]
            clear hW6 HL5 HQ5 HK5 HC5 c5 m5 hq1 hq2 hdiv hsub
            go_wp2_with fail
            go_loopw [111] (fun i wr => ∃ p : Nat, p ≤ j ∧ i = .int .i64 p ∧ ∃ X, Hid (OrQ w wr mo A X j (tick F (popI j e p))) ∧ Hid (wr.heap[D]? = some (.deferred (some []))) ∧ Hid (∀ k ∈ X, k ≠ D)) (fun i _ => j - (intOf i).toNat)
            case atStart => exact ⟨0, Nat.zero_le _, rfl, X, HQ6, HK6, Lib.hid (fun k hk e' => by have := HDX.out k hk; omega)⟩
            case round =>
              obtain ⟨p, hp, rfl, X, HQ, HK, HX⟩ := hrel
              have hrem : (p : Int).tmod (e : Int) = ((p % e : Nat) : Int) := (Int.ofNat_tmod p e).symm
              obtain ⟨q, hq⟩ : ∃ q, p % e = q := ⟨_, rfl⟩
              rw [hq] at hrem
              by_cases hlt : p < j
              · have l1 : (p : Int) < j := by omega
                obtain ⟨rfl, hb⟩ := HAO.out (by omega)
                have hcell := HFc.out p hlt
                rw [← (HQ.out.e.turned.below (B := w.heap.size) (by simp) (Nat.le_refl _)).cell (p := ⟨b, off + p, none⟩) hb] at hcell
                by_cases hq0 : q = 0
                · subst hq0
                  have HQ2 : Hid (OrQ w wr mo A X j (tick F (popI j e (p + 1)))) := by
                    rw [← popI_skip hq]
                    exact HQ
                  clear hq HQ
                  go_wp2
                  all_goals
                    go_roundw
                    case rel => exact ⟨p + 1, by omega, by go_num, X, HQ2, HK, HX⟩
                    case measure => simp [intOf]; omega
                · have hqn : ((q : Int) == 0) = false := by
                    rw [beq_eq_false_iff_ne]
                    omega
                  obtain ⟨y1, y2, y3⟩ := tick_pop (F := F) hlt (by rw [hq]; exact hq0)
                  have hpop := qpop HQ.out.q
                  rw [y1, y2, y3] at hpop
                  obtain ⟨z, hz⟩ : ∃ z, F p = z := ⟨_, rfl⟩
                  rw [hz] at hpop hcell
                  have HP := Lib.hid hpop
                  clear hpop hz y1 y2 y3 hq
                  go_wp2_with fail
                  with_reducible refine HP.out.mono ?_
                  rintro e0 w7 ⟨rfl, X', p1, p2, p3⟩
                  have HQ2 := Lib.hid (HQ.out.step p1 p2 p3)
                  have HK2 := Lib.hid (p2.same HK.out (fun hx => HX.out _ hx rfl))
                  have HX2 : Hid (∀ k ∈ X', k ≠ D) := Lib.hid (fun k hk e' => by
                    rcases p3 k hk with g | g
                    · exact HX.out k g e'
                    · have := lt_of_block' HK.out
                      omega)
                  clear p1 p2 p3 HP HQ HK HX
                  go_wp2
                  go_roundw
                  case rel => exact ⟨p + 1, by omega, by go_num, X', HQ2, HK2, HX2⟩
                  case measure => simp [intOf]; omega
              · obtain rfl : p = j := by omega
                have HQ7 : Hid (OrQ w wr mo A X p []) := by
                  have h := HQ.out
                  rw [popI_end] at h
                  exact Lib.hid h
                clear HQ hq hrem
                clear g4
                go_wp2_with fail
                refine (fqpush_nil 1 wr).mono ?_
                rintro e0 w8 ⟨rfl, rfl⟩
                go_wp2_with fail
                refine (fqpop_nil _).mono ?_
                rintro e0 w8' ⟨rfl, rfl⟩
                go_wp2_with fail
                refine (fqget_nil 1 _).mono ?_
                rintro e0 w9 ⟨rfl, rfl⟩
                go_wp2_with fail
                refine (fqremove_nil 1 _).mono ?_
                rintro e0 w9' ⟨rfl, rfl⟩
                go_wp2_with fail
                refine (qall_nil _).mono ?_
                rintro e0 w10 ⟨B2, rfl, hK2, hT2⟩
                obtain ⟨Y2, hY2, hseq2⟩ := all1_seq (n := 19) (by omega) hK2 (by simp)
                have HY2 := Lib.hid hY2
                have HSEQ2 := Lib.hid hseq2
                have HQ10 := Lib.hid (HQ7.out.later hT2)
                have HK10 := Lib.hid (hT2.same HK.out (by simp))
                have HX10 := Lib.hid (fun k hk => HQ10.out.q.lt k hk : ∀ k ∈ X, k < w10.heap.size)
                clear hK2 hT2 hY2 hseq2 HQ7 HK
                go_wp2_with fail
                refine (wpIn_wide (n := 20)).1 ?_
                refine range_turns_plain rfl (by omega) (gf := 33) (lb := #[.pointer (some ⟨B2, 0, none⟩)]) rfl trivial (enters_of Try.func33 (by kernel_rfl) rfl)
                  (X := []) (Y := Y2) (by simp) (fun k hk => (HY2.out k hk).2) HSEQ2.out (fun _ => rfl) (fun _ _ _ h _ => h) (fun _ _ _ h _ => h)
                  (fun _ W => OrQ w W mo A X p [] ∧ W.heap[D]? = some (.deferred (some [])) ∧ w10.heap.size ≤ W.heap.size) (fun _ _ _ => False) ?hI2 (fun _ _ _ _ h _ => h.elim) ⟨HQ10.out, HK10.out, Nat.le_refl _⟩
                  ?a2 ?assign2 ?body2 ?done2 (fun _ _ _ _ _ _ h _ => h.elim)
                case hI2 =>
                  rintro xs W1 W2 ⟨h1, h2, h3⟩ mm
                  have hDl := lt_of_block' HK10.out
                  have := HQ10.out.e.turned.size
                  exact ⟨h1.mild mm (by omega) HX10.out, mm.same D _ h2 (by simp) (.inl (by omega)), Nat.le_trans h3 mm.size⟩
                case assign2 =>
                  intro l x W K hK
                  gi_wp2
                  exact hK
                case body2 =>
                  rintro l pre x W _ hsp
                  have h1 := hsp.length_le
                  simp at h1
                case done2 =>
                  rintro D2 xs W2 hD2 rfl ⟨hq, hk, hz⟩ hK
                  have hDD : D < D2 := Nat.lt_of_lt_of_le (lt_of_block' HK10.out) hD2
                  have HL := Lib.hid (qlen hq.q)
                  have HPo := Lib.hid (qpour_nil1 (some ⟨A, 0, none⟩) 3)
                  have HPa := Lib.hid (qpour_nil2 A 3)
                  have HLn := Lib.hid (fun V : World => fqlen_nil V)
                  simp only [List.length_nil] at HL
                  have HE := Lib.hid hq.e
                  have HK1 := Lib.hid hk
                  have HK2 := Lib.hid hK
                  clear hq hk hz hK HQ10 HK10 HX10 HSEQ2 HY2
                  go_wp2_with fail
                  refine (HLn.out _).mono ?_
                  rintro e0 w11 ⟨rfl, rfl⟩
                  go_wp2_with fail
                  refine (HPo.out _).mono ?_
                  rintro e0 w12 ⟨rfl, rfl⟩
                  go_wp2_with fail
                  refine (HPa.out _).mono ?_
                  rintro e0 w13 ⟨rfl, rfl⟩
                  go_wp2_with fail
                  refine HL.out.mono ?_
                  rintro e0 w14 ⟨rfl, n14, rfl⟩
                  have r0 := HE.out.r
                  have E14 := HE.out.later ((Turned.refl [] _).drewN n14)
                  have r14 := cell1 E14.r
                  have f14 := frozen_of_row _ (w.heap.size + 1) 0 _ _ E14.r
                  have HE14 := Lib.hid E14
                  clear E14 r0
                  go_wp2
                  have hDr : D ≠ w.heap.size + 1 := by omega
                  have hDr2 : D2 ≠ w.heap.size + 1 := by omega
                  have hne : D2 ≠ D := by omega
                  have k2 : ((w13.drewN n14).setCell ⟨w.heap.size + 1, 0, none⟩ (.bool true)).heap[D2]? = some (.deferred (some [])) := (Below.heap_setCell _ _ _ _ hDr2).trans HK2.out
                  have k1 : (((w13.drewN n14).setCell ⟨w.heap.size + 1, 0, none⟩ (.bool true)).putObj D2 (.deferred none)).heap[D]? = some (.deferred (some [])) :=
                    (World.putObj_heap_other (Ne.symm hne)).trans ((Below.heap_setCell _ _ _ _ hDr).trans HK1.out)
                  have hr : ((((w13.drewN n14).setCell ⟨w.heap.size + 1, 0, none⟩ (.bool true)).putObj D2 (.deferred none)).putObj D (.deferred none)).heap[w.heap.size + 1]? = some (.cells #[.bool true] 4 (0, 0)) := by
                    refine (World.putObj_heap_other (Ne.symm hDr)).trans ((World.putObj_heap_other (Ne.symm hDr2)).trans ?_)
                    rw [heap_setCell_same _ _ _ _ _ _ HE14.out.r]
                    rfl
                  refine ⟨by simp, .inl ⟨_, _, rfl, run_takeDeferred k2, by simp, .inl ⟨_, _, rfl, run_takeDeferred k1, ?_⟩⟩⟩
                  exact ⟨_, bool_result rfl rfl hr, rfl, ((HE14.out.turned.setCell (.inr (by simp)) _).put (by omega) _).put (by omega) _⟩
          case stop =>
            rintro D c xs W hD hpre ⟨rfl, hq, hc, hz, hm⟩ hK
            have hxl : xs.length ≤ left := by
              have h1 := hpre.length_le
              rw [HLEN.out] at h1
              exact h1
            obtain ⟨kk, hkk⟩ : ∃ kk : Nat, xs.length = kk := ⟨_, rfl⟩
            rw [hkk] at hc hm hxl
            have g1 : ¬ (left : Int) < mo + 1 := by omega
            have g2 : mo + 1 ≤ (left : Int) := by omega
            have g3 : (kk : Int) = mo + 1 := by omega
            have g4 : ((kk : Int) != min (left : Int) (mo + 1)) = false := by
              rw [show min (left : Int) (mo + 1) = (kk : Int) by omega]
              simp
            have HQ5 := Lib.hid hq
            have HC5 := Lib.hid hc
            have HK5 := Lib.hid hK
            clear hq hc hz hm hK HQ4 HC4 HSEQ hpre hkk g1 g2 g3 hxl
            refine wpIn_wide.2 ?_
            have hq1 : IntKind.i64.wrap ((j : Int) + (e : Int)) = (j : Int) + (e : Int) := by
              rw [IntKind.wrap_i64]
              omega
            have hq2 : IntKind.i64.wrap ((j : Int) + (e : Int) - 1) = (j : Int) + (e : Int) - 1 := by
              rw [IntKind.wrap_i64]
              omega
            have hc4 : ((j + e - 1 : Nat) : Int) = (j : Int) + (e : Int) - 1 := by omega
            obtain ⟨q4, hq4⟩ : ∃ q4, (j + e - 1) / e = q4 := ⟨_, rfl⟩
            have hq4j : q4 ≤ j := by
              rw [← hq4]
              exact div_le_self' he2.1
            have hdiv : ((j : Int) + (e : Int) - 1).tdiv (e : Int) = (q4 : Int) := by
              rw [← hc4, ← hq4]
              exact (Int.ofNat_tdiv _ _).symm
            have hsub : (j : Int) - (q4 : Int) = (left : Int) := by
              have h1 := hleft
              rw [hq4] at h1
              clear hleft hdiv hq4 hc4
              omega
            clear hc4
            have he0 : ((e : Int) == 0) = false := by
              rw [beq_eq_false_iff_ne]
              omega
            have he3 : (e : Int) ≠ 0 := by omega
            have HL5 := Lib.hid (qlen HQ5.out.q)
            rw [HLEN.out] at HL5
            have c5 := cell1 HC5.out
            have m5 := cell1 HQ5.out.e.mb
            clear hq4 hq4j
            go_wp2_with fail
            with_reducible refine HL5.out.mono ?_
            rintro e0 w6 ⟨rfl, n6, rfl⟩
            have HQ6 := Lib.hid (HQ5.out.later ((Turned.refl [] W).drewN n6))
            have HK6 := Lib.hid (((Turned.refl [] W).drewN n6).same HK5.out (by simp))
            have hDC : w.heap.size + 2 ≤ D := by omega
            have HDX : Hid (∀ k ∈ X, k < D) := Lib.hid (fun k hk => by have := HCX.out k hk; omega)
            obtain ⟨W6, hW6⟩ : ∃ W6, W.drewN n6 = W6 := ⟨_, rfl⟩
            rw [hW6] at HQ6 HK6
            rw [hW6]
            clear hW6 HL5 HQ5 HK5 HC5 c5 m5 hq1 hq2 hdiv hsub
            go_wp2_with fail
            go_loopw [111] (fun i wr => ∃ p : Nat, p ≤ j ∧ i = .int .i64 p ∧ ∃ X, Hid (OrQ w wr mo A X j (tick F (popI j e p))) ∧ Hid (wr.heap[D]? = some (.deferred (some []))) ∧ Hid (∀ k ∈ X, k ≠ D)) (fun i _ => j - (intOf i).toNat)
            case atStart => exact ⟨0, Nat.zero_le _, rfl, X, HQ6, HK6, Lib.hid (fun k hk e' => by have := HDX.out k hk; omega)⟩
            case round =>
              obtain ⟨p, hp, rfl, X, HQ, HK, HX⟩ := hrel
              have hrem : (p : Int).tmod (e : Int) = ((p % e : Nat) : Int) := (Int.ofNat_tmod p e).symm
              obtain ⟨q, hq⟩ : ∃ q, p % e = q := ⟨_, rfl⟩
              rw [hq] at hrem
              by_cases hlt : p < j
              · have l1 : (p : Int) < j := by omega
                obtain ⟨rfl, hb⟩ := HAO.out (by omega)
                have hcell := HFc.out p hlt
                rw [← (HQ.out.e.turned.below (B := w.heap.size) (by simp) (Nat.le_refl _)).cell (p := ⟨b, off + p, none⟩) hb] at hcell
                by_cases hq0 : q = 0
                · subst hq0
                  have HQ2 : Hid (OrQ w wr mo A X j (tick F (popI j e (p + 1)))) := by
                    rw [← popI_skip hq]
                    exact HQ
                  clear hq HQ
                  go_wp2
                  all_goals
                    go_roundw
                    case rel => exact ⟨p + 1, by omega, by go_num, X, HQ2, HK, HX⟩
                    case measure => simp [intOf]; omega
                · have hqn : ((q : Int) == 0) = false := by
                    rw [beq_eq_false_iff_ne]
                    omega
                  obtain ⟨y1, y2, y3⟩ := tick_pop (F := F) hlt (by rw [hq]; exact hq0)
                  have hpop := qpop HQ.out.q
                  rw [y1, y2, y3] at hpop
                  obtain ⟨z, hz⟩ : ∃ z, F p = z := ⟨_, rfl⟩
                  rw [hz] at hpop hcell
                  have HP := Lib.hid hpop
                  clear hpop hz y1 y2 y3 hq
                  go_wp2_with fail
                  with_reducible refine HP.out.mono ?_
                  rintro e0 w7 ⟨rfl, X', p1, p2, p3⟩
                  have HQ2 := Lib.hid (HQ.out.step p1 p2 p3)
                  have HK2 := Lib.hid (p2.same HK.out (fun hx => HX.out _ hx rfl))
                  have HX2 : Hid (∀ k ∈ X', k ≠ D) := Lib.hid (fun k hk e' => by
                    rcases p3 k hk with g | g
                    · exact HX.out k g e'
                    · have := lt_of_block' HK.out
                      omega)
                  clear p1 p2 p3 HP HQ HK HX
                  go_wp2
                  go_roundw
                  case rel => exact ⟨p + 1, by omega, by go_num, X', HQ2, HK2, HX2⟩
                  case measure => simp [intOf]; omega
              · obtain rfl : p = j := by omega
                have HQ7 : Hid (OrQ w wr mo A X p []) := by
                  have h := HQ.out
                  rw [popI_end] at h
                  exact Lib.hid h
                clear HQ hq hrem
                clear g4
                go_wp2_with fail
                refine (fqpush_nil 1 wr).mono ?_
                rintro e0 w8 ⟨rfl, rfl⟩
                go_wp2_with fail
                refine (fqpop_nil _).mono ?_
                rintro e0 w8' ⟨rfl, rfl⟩
                go_wp2_with fail
                refine (fqget_nil 1 _).mono ?_
                rintro e0 w9 ⟨rfl, rfl⟩
                go_wp2_with fail
                refine (fqremove_nil 1 _).mono ?_
                rintro e0 w9' ⟨rfl, rfl⟩
                go_wp2_with fail
                refine (qall_nil _).mono ?_
                rintro e0 w10 ⟨B2, rfl, hK2, hT2⟩
                obtain ⟨Y2, hY2, hseq2⟩ := all1_seq (n := 19) (by omega) hK2 (by simp)
                have HY2 := Lib.hid hY2
                have HSEQ2 := Lib.hid hseq2
                have HQ10 := Lib.hid (HQ7.out.later hT2)
                have HK10 := Lib.hid (hT2.same HK.out (by simp))
                have HX10 := Lib.hid (fun k hk => HQ10.out.q.lt k hk : ∀ k ∈ X, k < w10.heap.size)
                clear hK2 hT2 hY2 hseq2 HQ7 HK
                go_wp2_with fail
                refine (wpIn_wide (n := 20)).1 ?_
                refine range_turns_plain rfl (by omega) (gf := 33) (lb := #[.pointer (some ⟨B2, 0, none⟩)]) rfl trivial (enters_of Try.func33 (by kernel_rfl) rfl)
                  (X := []) (Y := Y2) (by simp) (fun k hk => (HY2.out k hk).2) HSEQ2.out (fun _ => rfl) (fun _ _ _ h _ => h) (fun _ _ _ h _ => h)
                  (fun _ W => OrQ w W mo A X p [] ∧ W.heap[D]? = some (.deferred (some [])) ∧ w10.heap.size ≤ W.heap.size) (fun _ _ _ => False) ?hI3 (fun _ _ _ _ h _ => h.elim) ⟨HQ10.out, HK10.out, Nat.le_refl _⟩
                  ?a3 ?assign3 ?body3 ?done3 (fun _ _ _ _ _ _ h _ => h.elim)
                case hI3 =>
                  rintro xs W1 W2 ⟨h1, h2, h3⟩ mm
                  have hDl := lt_of_block' HK10.out
                  have := HQ10.out.e.turned.size
                  exact ⟨h1.mild mm (by omega) HX10.out, mm.same D _ h2 (by simp) (.inl (by omega)), Nat.le_trans h3 mm.size⟩
                case assign3 =>
                  intro l x W K hK
                  gi_wp2
                  exact hK
                case body3 =>
                  rintro l pre x W _ hsp
                  have h1 := hsp.length_le
                  simp at h1
                case done3 =>
                  rintro D2 xs W2 hD2 rfl ⟨hq, hk, hz⟩ hK
                  have hDD : D < D2 := Nat.lt_of_lt_of_le (lt_of_block' HK10.out) hD2
                  have HL := Lib.hid (qlen hq.q)
                  have HPo := Lib.hid (qpour_nil1 (some ⟨A, 0, none⟩) 3)
                  have HPa := Lib.hid (qpour_nil2 A 3)
                  have HLn := Lib.hid (fun V : World => fqlen_nil V)
                  simp only [List.length_nil] at HL
                  have HE := Lib.hid hq.e
                  have HK1 := Lib.hid hk
                  have HK2 := Lib.hid hK
                  clear hq hk hz hK HQ10 HK10 HX10 HSEQ2 HY2
                  go_wp2_with fail
                  refine (HLn.out _).mono ?_
                  rintro e0 w11 ⟨rfl, rfl⟩
                  go_wp2_with fail
                  refine (HPo.out _).mono ?_
                  rintro e0 w12 ⟨rfl, rfl⟩
                  go_wp2_with fail
                  refine (HPa.out _).mono ?_
                  rintro e0 w13 ⟨rfl, rfl⟩
                  go_wp2_with fail
                  refine HL.out.mono ?_
                  rintro e0 w14 ⟨rfl, n14, rfl⟩
                  have r0 := HE.out.r
                  have E14 := HE.out.later ((Turned.refl [] _).drewN n14)
                  have r14 := cell1 E14.r
                  have f14 := frozen_of_row _ (w.heap.size + 1) 0 _ _ E14.r
                  have HE14 := Lib.hid E14
                  clear E14 r0
                  go_wp2
                  have hDr : D ≠ w.heap.size + 1 := by omega
                  have hDr2 : D2 ≠ w.heap.size + 1 := by omega
                  have hne : D2 ≠ D := by omega
                  have k2 : ((w13.drewN n14).setCell ⟨w.heap.size + 1, 0, none⟩ (.bool true)).heap[D2]? = some (.deferred (some [])) := (Below.heap_setCell _ _ _ _ hDr2).trans HK2.out
                  have k1 : (((w13.drewN n14).setCell ⟨w.heap.size + 1, 0, none⟩ (.bool true)).putObj D2 (.deferred none)).heap[D]? = some (.deferred (some [])) :=
                    (World.putObj_heap_other (Ne.symm hne)).trans ((Below.heap_setCell _ _ _ _ hDr).trans HK1.out)
                  have hr : ((((w13.drewN n14).setCell ⟨w.heap.size + 1, 0, none⟩ (.bool true)).putObj D2 (.deferred none)).putObj D (.deferred none)).heap[w.heap.size + 1]? = some (.cells #[.bool true] 4 (0, 0)) := by
                    refine (World.putObj_heap_other (Ne.symm hDr)).trans ((World.putObj_heap_other (Ne.symm hDr2)).trans ?_)
                    rw [heap_setCell_same _ _ _ _ _ _ HE14.out.r]
                    rfl
                  refine ⟨by simp, .inl ⟨_, _, rfl, run_takeDeferred k2, by simp, .inl ⟨_, _, rfl, run_takeDeferred k1, ?_⟩⟩⟩
                  exact ⟨_, bool_result rfl rfl hr, rfl, ((HE14.out.turned.setCell (.inr (by simp)) _).put (by omega) _).put (by omega) _⟩
end Go.Proofs.Ytnoiifnknkakoaa
