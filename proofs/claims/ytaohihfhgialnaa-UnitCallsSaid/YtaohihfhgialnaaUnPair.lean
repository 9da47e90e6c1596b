/-
  The program's paired: each one's part in a new row, and all of them, added.
-/
import Derived.Test.YtaohihfhgialnaaUnProg
import Derived.Test.YtaohihfhgialnaaUnNear
import Derived.Test.YtaohihfhgialnaaIArg
import Derived.Laws.MakeOwn
import Derived.Laws.OwnMore
import Derived.Deep.RegionHeld3
namespace Go.Proofs.Ytaohihfhgialnaa
open Go.RowKit

theorem IArg.look {w : World} {ao : Option Addr} {b off : Nat} {L : List Int} (h : IArg w ao b off L) {i : Nat} (hi : i < L.length) : ao = some ⟨b, off, none⟩ ∧ w.cell? ⟨b, off + i, none⟩ = some (.int .i64 L[i]) :=
  ⟨(h.at_ (by omega)).1, h.cells i hi⟩
theorem part_frozen {w : World} {B : Nat} {a : Array Value} {t : TypeId} (h : w.heap[B]? = some (.cells a t (0, 0))) (o : Nat) : w.frozen? ⟨B, o, none⟩ = false := by
  simp [World.frozen?, h]
theorem part_cells {w : World} {B : Nat} {a b : Value} {t : TypeId} (h : w.heap[B]? = some (.cells #[a, b] t (0, 0))) : w.cell? ⟨B, 0, none⟩ = some a ∧ w.cell? ⟨B, 1, none⟩ = some b := by
  refine ⟨?_, ?_⟩ <;> simp [World.cell?, h]
theorem part_stored {w : World} {B : Nat} {a b a' b' : Value} {t : TypeId} (h : w.heap[B]? = some (.cells #[a, b] t (0, 0))) : ((w.setCell ⟨B, 0, none⟩ a').setCell ⟨B, 1, none⟩ b').heap[B]? = some (.cells #[a', b'] t (0, 0)) := by
  rw [heap_setCell_same _ _ _ _ _ _ (heap_setCell_same _ _ _ _ _ _ h)]
  rfl
theorem results_tmp_cell_tmp {fn : Func} {p u v : Tmp} {ty : TypeId} (h : fn.results = #[.tmp u, .cell p ty, .tmp v]) (tmps : Array Value) (P : Program) (w : World) :
    (results fn tmps).run P w =
      ((asAddr (tmps.getD p undef)).run P w).andThen fun a w₁ => ((loadVar ty a).run P w₁).andThen fun x w₂ => .ok (.tuple #[tmps.getD u undef, x, tmps.getD v undef]) w₂ := by
  simp only [results, h]
  simp [Sem.run_bind, Result.andThen]
theorem part_result {fn : Func} {p u v : Tmp} (hf : fn.results = #[.tmp u, .cell p 46, .tmp v]) {tmps : Array Value} {w : World} {B : Nat} {a b x y : Value} (hp : tmps.getD p undef = .pointer (some ⟨B, 0, none⟩)) (hu : tmps.getD u undef = x) (hv : tmps.getD v undef = y) (h : w.heap[B]? = some (.cells #[a, b] 46 (0, 0))) :
    (results fn tmps).run Try.prog w = .ok (.tuple #[x, .agg #[a, b], y]) w := by
  obtain ⟨h0, h1⟩ := part_cells h
  rw [results_tmp_cell_tmp hf, hp, hu, hv]
  simp [loadVar, go_sem, h0, h1]

/-- Parts in a row's own block: k of n are written. -/
def PtsAt (V : World) (g n k : Nat) (ts ws : List Int) : Prop :=
  ∃ cs : Array Value, V.heap[g]? = some (.cells cs 46 (0, 0)) ∧ cs.size = n * 2 ∧ ∀ j, j < k → ∀ (h1 : j < ts.length) (h2 : j < ws.length), cs[j * 2]? = some (.int .u64 (bt ts[j])) ∧ cs[j * 2 + 1]? = some (.int .u64 (bw ws[j]))
theorem PtsAt.same {V V' : World} {g n k : Nat} {ts ws : List Int} (h : PtsAt V g n k ts ws) (hb : V'.heap[g]? = V.heap[g]?) : PtsAt V' g n k ts ws := by
  obtain ⟨cs, h1, h2⟩ := h
  exact ⟨cs, hb.trans h1, h2⟩
theorem PtsAt.lt {V : World} {g n k : Nat} {ts ws : List Int} (h : PtsAt V g n k ts ws) : g < V.heap.size := by
  obtain ⟨cs, h1, _⟩ := h
  exact lt_of_block h1
theorem PtsAt.frozen {V : World} {g n k : Nat} {ts ws : List Int} (h : PtsAt V g n k ts ws) (o : Nat) : V.frozen? ⟨g, o, none⟩ = false := by
  obtain ⟨cs, h1, _⟩ := h
  exact part_frozen h1 o
theorem PtsAt.cell {V : World} {g n k : Nat} {ts ws : List Int} (h : PtsAt V g n k ts ws) {j : Nat} (hj : j < k) (h1 : j < ts.length) (h2 : j < ws.length) : V.cell? ⟨g, j * 2, none⟩ = some (.int .u64 (bt ts[j])) ∧ V.cell? ⟨g, j * 2 + 1, none⟩ = some (.int .u64 (bw ws[j])) := by
  obtain ⟨cs, h3, _, h4⟩ := h
  obtain ⟨a, b⟩ := h4 j hj h1 h2
  exact ⟨by simp [World.cell?, h3, a], by simp [World.cell?, h3, b]⟩
theorem PtsAt.there {V : World} {g n k : Nat} {ts ws : List Int} (h : PtsAt V g n k ts ws) {j : Nat} (hj : j < n) : ∃ x y, V.cell? ⟨g, j * 2, none⟩ = some x ∧ V.cell? ⟨g, j * 2 + 1, none⟩ = some y := by
  obtain ⟨cs, h3, h4, _⟩ := h
  exact ⟨cs[j * 2]'(by omega), cs[j * 2 + 1]'(by omega), by simp [World.cell?, h3, Array.getElem?_eq_getElem (show j * 2 < cs.size by omega)], by simp [World.cell?, h3, Array.getElem?_eq_getElem (show j * 2 + 1 < cs.size by omega)]⟩
theorem PtsAt.put {V : World} {g n k : Nat} {ts ws : List Int} (h : PtsAt V g n k ts ws) (hk : k < n) (h1 : k < ts.length) (h2 : k < ws.length) : PtsAt ((V.setCell ⟨g, k * 2, none⟩ (.int .u64 (bt ts[k]))).setCell ⟨g, k * 2 + 1, none⟩ (.int .u64 (bw ws[k]))) g n (k + 1) ts ws := by
  obtain ⟨cs, h3, h4, h5⟩ := h
  refine ⟨_, heap_setCell_same _ _ _ _ _ _ (heap_setCell_same _ _ _ _ _ _ h3), by simpa using h4, fun j hj g1 g2 => ?_⟩
  simp only [Array.getElem?_setIfInBounds, Array.size_setIfInBounds]
  rcases Nat.lt_or_ge j k with hlt | hge
  · obtain ⟨a, b⟩ := h5 j hlt g1 g2
    rw [if_neg (by omega), if_neg (by omega), if_neg (by omega), if_neg (by omega)]
    exact ⟨a, b⟩
  · obtain rfl : j = k := by omega
    rw [if_neg (by omega), if_pos rfl, if_pos (by omega), if_pos rfl, if_pos (by omega)]
    exact ⟨rfl, rfl⟩

theorem infoPt : (Try.prog.info? 46).map (fun i => (i.zero, i.size, i.bytes)) = some (some (.agg #[.int .u64 0, .int .u64 0]), 2, 16) := by kernel_rfl
abbrev madePt (n : Nat) : Obj := .cells (madeCells (Value.agg #[.int .u64 0, .int .u64 0]).cells (n * 2)) 46
theorem newPts (n : Nat) (h1 : n ≤ 64) (w : World) : (Instr.makeSlice 44 (.int .i64 (n : Int)) (.int .i64 (n : Int))).run Try.prog w = .ok (.slice (some ⟨w.heap.size, 0, none⟩) n n) (w.alloc (madePt n)) := by
  obtain ⟨ii, hi, hz0, hz1, hz2⟩ := info_parts infoPt
  have hr := run_make (P := Try.prog) w _ 46 ii _ Try.underlying44 hi hz0 .i64 .i64 n n (by omega) (Int.le_refl _) (by rw [hz2]; omega) (by omega)
  rw [hz1] at hr
  simp only [Int.toNat_natCast] at hr
  exact hr
theorem pts_new (n : Nat) (w : World) (ts ws : List Int) : PtsAt (w.alloc (madePt n)) w.heap.size n 0 ts ws :=
  ⟨_, heap_alloc_new w _, size_madeCells _ _, fun j hj => by omega⟩

abbrev zeroPt : Array Value := #[.int .u64 0, .int .u64 0]
/-- What lies in memory as the parts are made. -/
structure PaI (w V : World) (r g a n k : Nat) (ts ws : List Int) : Prop where
  res : V.heap[r]? = some (.cells zeroPt 46 (0, 0))
  pts : PtsAt V g n k ts ws
  all : V.heap[a]? = some (.cells #[.int .u64 (psum bt ts k), .int .u64 (psum bw ws k)] 46 (0, 0))
  bel : Below w.heap.size w V
  rg : r ≠ g
  ra : r ≠ a
  ga : g ≠ a
  r0 : w.heap.size ≤ r
  g0 : w.heap.size ≤ g
  a0 : w.heap.size ≤ a
section
variable {w V V' : World} {r g a n k : Nat} {ts ws : List Int}
theorem PaI.below (h : PaI w V r g a n k ts ws) (hb : Below V.heap.size V V') : PaI w V' r g a n k ts ws :=
  ⟨(hb.block _ (lt_of_block h.res)).trans h.res, h.pts.same (hb.block _ h.pts.lt), (hb.block _ (lt_of_block h.all)).trans h.all, h.bel.trans (hb.mono h.bel.size), h.rg, h.ra, h.ga, h.r0, h.g0, h.a0⟩
theorem PaI.start (w : World) (n : Nat) (ts ws : List Int) : PaI w (((w.alloc (.cells zeroPt 46)).alloc (madePt n)).alloc (.cells zeroPt 46)) w.heap.size (w.heap.size + 1) (w.heap.size + 1 + 1) n 0 ts ws := by
  have h1 := heap_alloc_new w (.cells zeroPt 46)
  have h2 := pts_new n (w.alloc (.cells zeroPt 46)) ts ws
  have h3 := heap_alloc_new ((w.alloc (.cells zeroPt 46)).alloc (madePt n)) (.cells zeroPt 46)
  have b1 : Below w.heap.size w (w.alloc (.cells zeroPt 46)) := (Below.refl _ w).alloc (Nat.le_refl _) _
  rw [World.size_alloc] at h2 h3
  rw [World.size_alloc] at h3
  refine ⟨?_, ?_, ?_, (b1.alloc (by simp) _).alloc (by simp; omega) _, by omega, by omega, by omega, by omega, by omega, by omega⟩
  · exact (Below.heap_alloc _ _ _ (by simp; omega)).trans ((Below.heap_alloc _ _ _ (by simp)).trans h1)
  · exact h2.same (Below.heap_alloc _ _ _ (by simp))
  · rw [psum_zero, psum_zero]; exact h3
/-- The k-th part is written, and added. -/
theorem PaI.step (h : PaI w V r g a n k ts ws) (hk : k < n) (h1 : k < ts.length) (h2 : k < ws.length) {x y : Int} (hx : bt ts[k] = x) (hy : bw ws[k] = y) {s t : Int} (hs : psum bt ts (k + 1) = s) (ht : psum bw ws (k + 1) = t) :
    PaI w ((((V.setCell ⟨a, 0, none⟩ (.int .u64 s)).setCell ⟨a, 1, none⟩ (.int .u64 t)).setCell ⟨g, k * 2, none⟩ (.int .u64 x)).setCell ⟨g, k * 2 + 1, none⟩ (.int .u64 y)) r g a n (k + 1) ts ws := by
  subst hx hy hs ht
  have rg := h.rg
  have ra := h.ra
  have ga := h.ga
  refine ⟨?_, ?_, ?_, (((h.bel.setCell h.a0 _).setCell h.a0 _).setCell h.g0 _).setCell h.g0 _, rg, ra, ga, h.r0, h.g0, h.a0⟩
  · rw [Below.heap_setCell _ _ _ _ rg, Below.heap_setCell _ _ _ _ rg, Below.heap_setCell _ _ _ _ ra, Below.heap_setCell _ _ _ _ ra]
    exact h.res
  · refine PtsAt.put (h.pts.same ?_) hk h1 h2
    rw [Below.heap_setCell _ _ _ _ ga, Below.heap_setCell _ _ _ _ ga]
  · rw [Below.heap_setCell _ _ _ _ ga.symm, Below.heap_setCell _ _ _ _ ga.symm]
    exact part_stored h.all
end
set_option maxRecDepth 100000 in
set_option maxHeartbeats 3200000 in
theorem paired_any {w : World} {ao bo : Option Addr} {b off c b2 off2 c2 : Nat} {ts ws : List Int} (hT : IArg w ao b off ts) (hW : IArg w bo b2 off2 ws) (hl : ts.length = ws.length) (h64 : ts.length ≤ 64) :
    Calls Try.prog 21 #[.slice ao ts.length c, .slice bo ws.length c2] w fun e w' => e = .returned (.tuple #[.slice (some ⟨w.heap.size + 1, 0, none⟩) ts.length ts.length, .agg #[.int .u64 (psum bt ts ts.length), .int .u64 (psum bw ws ws.length)], .bool true]) ∧
      PtsAt w' (w.heap.size + 1) ts.length ts.length ts ws ∧ Below w.heap.size w w' := by
  have HT := Lib.hid hT
  have HW := Lib.hid hW
  have HP0 := Lib.hid (PaI.start w ts.length ts ws)
  have hmk := newPts ts.length h64
  have HTS := Lib.hid (fun k (hk : k ≤ ts.length) => tsum_range (l := ts) hk h64)
  have HWS := Lib.hid (fun k (hk : k ≤ ws.length) => wsum_range (l := ws) hk (by omega))
  rw [← hl]
  obtain ⟨n, hn⟩ : ∃ n, ts.length = n := ⟨_, rfl⟩
  have hnw : ws.length = n := by omega
  rw [hn] at HP0 hmk h64 HTS
  rw [hnw] at HWS
  rw [hn]
  have hnz : (n : Int) ≤ 64 := by omega
  have HNT := Lib.hid hn
  have HNW := Lib.hid hnw
  clear hT hW hl hn hnw
  go_enter Try.func21, Try.ntmps21
  go_wp2
  generalize ((w.alloc (.cells #[.int .u64 0, .int .u64 0] 46)).alloc (madePt n)).alloc (.cells #[.int .u64 0, .int .u64 0] 46) = W0 at HP0 ⊢
  obtain ⟨a, ha⟩ : ∃ a, w.heap.size + 1 + 1 = a := ⟨_, rfl⟩
  obtain ⟨g, hg⟩ : ∃ g, w.heap.size + 1 = g := ⟨_, rfl⟩
  rw [ha, hg] at HP0 ⊢
  have HG := Lib.hid hg
  clear ha hg
  go_loopw [27] (fun ix V => ∃ k : Nat, k ≤ n ∧ ix = .int .i64 k ∧ Hid (PaI w V w.heap.size g a n k ts ws)) (fun ix _ => n - (intOf ix).toNat)
  case atStart => exact ⟨0, Nat.zero_le _, rfl, HP0⟩
  case round =>
    clear HP0
    obtain ⟨k, hk, rfl, HP⟩ := hrel
    by_cases hlt : k < n
    · have hltz : (k : Int) < (n : Int) := by omega
      have hkt : k < ts.length := by rw [HNT.out]; exact hlt
      have hkw : k < ws.length := by rw [HNW.out]; exact hlt
      obtain ⟨rfl, ct⟩ := HT.out.look hkt
      obtain ⟨rfl, cw⟩ := HW.out.look hkw
      have hbT := (HT.out.at_ (by omega)).2
      have hbW := (HW.out.at_ (by omega)).2
      rw [← HP.out.bel.cell (p := ⟨b, off + k, none⟩) hbT] at ct
      rw [← HP.out.bel.cell (p := ⟨b2, off2 + k, none⟩) hbW] at cw
      have s1 := psum_succ bt (l := ts) hkt
      have s2 := psum_succ bw (l := ws) hkw
      obtain ⟨a0, a1⟩ := HTS.out (k + 1) (by omega)
      obtain ⟨a2, a3⟩ := HWS.out (k + 1) (by omega)
      obtain ⟨t, ht⟩ : ∃ t, ts[k]'(by omega) = t := ⟨_, rfl⟩
      obtain ⟨u, hu⟩ : ∃ u, ws[k]'(by omega) = u := ⟨_, rfl⟩
      rw [ht] at ct s1
      rw [hu] at cw s2
      have hbt := bt_range t
      have hbw := bw_range u
      have H1 := Lib.hid (fun V => within_any t 0 2147483648 (by decide) (by decide) (by decide) V)
      have H2 := Lib.hid (fun V => within_any u 1 4096 (by decide) (by decide) (by decide) V)
      simp only [show bringR t 0 2147483648 = bt t from rfl] at H1
      simp only [show bringR u 1 4096 = bw u from rfl] at H2
      have HST : Hid (∀ V, Below wr.heap.size wr V → PaI w ((((V.setCell ⟨a, 0, none⟩ (.int .u64 (psum bt ts k + bt t))).setCell ⟨a, 1, none⟩ (.int .u64 (psum bw ws k + bw u))).setCell ⟨g, k * 2, none⟩ (.int .u64 (bt t))).setCell ⟨g, k * 2 + 1, none⟩ (.int .u64 (bw u))) w.heap.size g a n (k + 1) ts ws) :=
        Lib.hid fun V hV => (HP.out.below hV).step hlt hkt hkw (by rw [ht]) (by rw [hu]) s1 s2
      have e1 : IntKind.u64.wrap (psum bt ts k + bt t) = psum bt ts k + bt t := by rw [← s1, IntKind.wrap_u64]; omega
      have e2 : IntKind.u64.wrap (psum bw ws k + bw u) = psum bw ws k + bw u := by rw [← s2, IntKind.wrap_u64]; omega
      obtain ⟨c0, c1⟩ := part_cells HP.out.all
      have f0 := part_frozen HP.out.all 0
      have f1 := part_frozen HP.out.all 1
      obtain ⟨x0, y0, g0, g1⟩ := HP.out.pts.there hlt
      have f2 := HP.out.pts.frozen (k * 2)
      have f3 := HP.out.pts.frozen (k * 2 + 1)
      have la := lt_of_block HP.out.all
      have lg := HP.out.pts.lt
      have ga := HP.out.ga
      have ag := HP.out.ga.symm
      have hbT2 : b < wr.heap.size := Nat.lt_of_lt_of_le hbT HP.out.bel.size
      have hbW2 : b2 < wr.heap.size := Nat.lt_of_lt_of_le hbW HP.out.bel.size
      clear s1 s2 ht hu hbT hbW
      generalize bt t = x at *
      generalize bw u = y at *
      generalize psum bt ts k = s at *
      generalize psum bw ws k = r2 at *
      go_wp2_with fail
      have HS : Hid (∀ V, Below wr.heap.size wr V → V.cell? ⟨b, off + k, none⟩ = some (.int .i64 t) ∧ V.cell? ⟨b2, off2 + k, none⟩ = some (.int .i64 u) ∧ Below wr.heap.size wr V) :=
        Lib.hid fun V hV => ⟨(hV.cell (p := ⟨b, off + k, none⟩) hbT2).trans ct, (hV.cell (p := ⟨b2, off2 + k, none⟩) hbW2).trans cw, hV⟩
      clear ct cw
      go_region_held3 (fun w' => w'.cell? ⟨b, off + k, none⟩ = some (.int .i64 t) ∧ w'.cell? ⟨b2, off2 + k, none⟩ = some (.int .i64 u) ∧ Below wr.heap.size wr w')
        (first | assumption | (refine HS.out _ ?_; repeat (first | exact Below.refl _ _ | refine Below.drew ?_ | refine Below.alloc ?_ (by simp) _ | refine Below.setCell ?_ (by simp) _)))
        (first | (go_at_call 17; with_reducible refine (H1.out _).mono ?_; rintro e w1 ⟨rfl, rfl⟩) | (go_at_call 17; with_reducible refine (H2.out _).mono ?_; rintro e w1 ⟨rfl, rfl⟩) | fail)
      all_goals
        have HS2 := Lib.hid ((HST.out wr (Below.refl _ _)).below (((Below.refl _ _).alloc (Nat.le_refl _) (.cells #[.int .u64 x, .int .u64 y] 46)).drew))
        clear HS HST H1 H2 a0 a1 a2 a3
        go_wp2
        go_roundw
        case rel => exact ⟨k + 1, by omega, by go_num, HS2⟩
        case measure => simp [intOf]; omega
    · obtain rfl : k = n := by omega
      obtain ⟨c0, c1⟩ := part_cells HP.out.all
      obtain ⟨r0, r1⟩ := part_cells HP.out.res
      have f0 := part_frozen HP.out.res 0
      have f1 := part_frozen HP.out.res 1
      have HRES : Hid (((wr.setCell ⟨w.heap.size, 0, none⟩ (.int .u64 (psum bt ts k))).setCell ⟨w.heap.size, 1, none⟩ (.int .u64 (psum bw ws k))).heap[w.heap.size]? = some (.cells #[.int .u64 (psum bt ts k), .int .u64 (psum bw ws k)] 46 (0, 0))) := Lib.hid (part_stored HP.out.res)
      have HPT : Hid (PtsAt ((wr.setCell ⟨w.heap.size, 0, none⟩ (.int .u64 (psum bt ts k))).setCell ⟨w.heap.size, 1, none⟩ (.int .u64 (psum bw ws k))) g k k ts ws) := Lib.hid (HP.out.pts.same (by rw [Below.heap_setCell _ _ _ _ HP.out.rg.symm, Below.heap_setCell _ _ _ _ HP.out.rg.symm]))
      have HBE : Hid (Below w.heap.size w ((wr.setCell ⟨w.heap.size, 0, none⟩ (.int .u64 (psum bt ts k))).setCell ⟨w.heap.size, 1, none⟩ (.int .u64 (psum bw ws k)))) := Lib.hid ((HP.out.bel.setCell (Nat.le_refl _) _).setCell (Nat.le_refl _) _)
      have ra := HP.out.ra
      clear HP
      go_wp2
      go_region
      all_goals
        go_wp2
        refine bodyPost_ret (part_result rfl rfl rfl rfl HRES.out) rfl ?_
        have hg := HG.out
        subst hg
        exact ⟨rfl, HPT.out, HBE.out.drew⟩
end Go.Proofs.Ytaohihfhgialnaa
