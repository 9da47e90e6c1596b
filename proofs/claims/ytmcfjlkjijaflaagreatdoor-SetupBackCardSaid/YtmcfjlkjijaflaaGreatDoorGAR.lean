/-
  The document's reader of setups: a lock.
  The program's untold; slices.ContainsFunc over locks with it.
  Rows of ints and of programs; what the document's Parse of setups holds in memory while it goes.
  What a Parse of setups answers.
-/
import Derived.Test.YtmcfjlkjijaflaaGreatDoorGBH
import Derived.Test.YtmcfjlkjijaflaaGreatDoorGAP
import Derived.Test.YtmcfjlkjijaflaaGreatDoorRgParse
import Derived.Test.YtmcfjlkjijaflaaGreatDoorGAG

/- The document's reader of setups: a lock. -/
namespace Go.Proofs.YtmcfjlkjijaflaaGreatDoor
open Go.RowKit

theorem RsI.store {w : World} {b : Nat} {ao : Option Addr} {bw off cap : Nat} {L : List Wd} {s : Rd} (h : RsI w b ao bw off cap L s) {k : Nat} (o : Nat) (v : Value) (h1 : b ≠ k) (h2 : 0 < L.length → bw ≠ k) : RsI (w.setCell ⟨k, o, none⟩ v) b ao bw off cap L s :=
  ⟨(Below.heap_setCell _ _ _ _ h1).trans h.rd, h.ws.kept (fun h0 => Below.heap_setCell _ _ _ _ (h2 h0)), h.ne, h.le, h.len⟩
abbrev lkA (x : Lk) : Array Value := #[.bool x.1, .int .i64 x.2.1, .int .i64 x.2.2.1, .int .i64 x.2.2.2.1, .int .i64 x.2.2.2.2]
/-- lock's boxes: the answer's, the lock's; the reader's block R. -/
structure LkX (w W : World) (R : Nat) (x : Lk) : Prop where
  res : W.heap[w.heap.size]? = some (.cells #[.bool false, .int .i64 0, .int .i64 0, .int .i64 0, .int .i64 0] 48 (0, 0))
  box : W.heap[w.heap.size + 1]? = some (.cells (lkA x) 48 (0, 0))
  t : Turned [R] w W
theorem LkX.turned {w W W' : World} {R : Nat} {x : Lk} (h : LkX w W R x) (hR : R < w.heap.size) (t : Turned [R] W W') : LkX w W' R x :=
  ⟨t.same h.res (by simp; omega), t.same h.box (by simp; omega), h.t.trans t (fun _ h => .inl h)⟩
theorem LkX.set {w W : World} {R : Nat} {x : Lk} (h : LkX w W R x) {k : Nat} {v : Value} {x' : Lk} (he : (lkA x).setIfInBounds k v = lkA x') : LkX w (W.setCell ⟨w.heap.size + 1, k, none⟩ v) R x' := by
  refine ⟨(Below.heap_setCell _ _ _ _ (by show w.heap.size ≠ w.heap.size + 1; omega)).trans h.res, ?_, h.t.setCell (.inr (by show w.heap.size ≤ w.heap.size + 1; omega)) _⟩
  rw [heap_setCell_same _ _ _ _ _ _ h.box]
  simp only [he]
theorem LkX.start (w : World) (R : Nat) (sh : Bool) : LkX w ((w.alloc (.cells #[.bool false, .int .i64 0, .int .i64 0, .int .i64 0, .int .i64 0] 48)).alloc (.cells #[.bool sh, .int .i64 0, .int .i64 0, .int .i64 0, .int .i64 0] 48)) R (sh, 0, 0, 0, 0) := by
  have h1 := heap_alloc_new w (.cells #[.bool false, .int .i64 0, .int .i64 0, .int .i64 0, .int .i64 0] 48)
  have h2 := heap_alloc_new (w.alloc (.cells #[.bool false, .int .i64 0, .int .i64 0, .int .i64 0, .int .i64 0] 48)) (.cells #[.bool sh, .int .i64 0, .int .i64 0, .int .i64 0, .int .i64 0] 48)
  rw [World.size_alloc] at h2
  exact ⟨(Below.heap_alloc _ _ _ (by simp)).trans h1, h2, ((Turned.refl [R] w).alloc _).alloc _⟩
/-- .. answered. -/
theorem LkX.fin {w W : World} {R : Nat} {x : Lk} (h : LkX w W R x) :
    (((((W.setCell ⟨w.heap.size, 0, none⟩ (.bool x.1)).setCell ⟨w.heap.size, 1, none⟩ (.int .i64 x.2.1)).setCell ⟨w.heap.size, 2, none⟩ (.int .i64 x.2.2.1)).setCell ⟨w.heap.size, 3, none⟩ (.int .i64 x.2.2.2.1)).setCell ⟨w.heap.size, 4, none⟩ (.int .i64 x.2.2.2.2)).heap[w.heap.size]? = some (.cells (lkA x) 48 (0, 0)) ∧
    Turned [R] w (((((W.setCell ⟨w.heap.size, 0, none⟩ (.bool x.1)).setCell ⟨w.heap.size, 1, none⟩ (.int .i64 x.2.1)).setCell ⟨w.heap.size, 2, none⟩ (.int .i64 x.2.2.1)).setCell ⟨w.heap.size, 3, none⟩ (.int .i64 x.2.2.2.1)).setCell ⟨w.heap.size, 4, none⟩ (.int .i64 x.2.2.2.2)) := by
  have hn : w.heap.size ≤ w.heap.size := Nat.le_refl _
  refine ⟨?_, ((((h.t.setCell (.inr hn) _).setCell (.inr hn) _).setCell (.inr hn) _).setCell (.inr hn) _).setCell (.inr hn) _⟩
  rw [heap_setCell_same _ _ _ _ _ _ (heap_setCell_same _ _ _ _ _ _ (heap_setCell_same _ _ _ _ _ _ (heap_setCell_same _ _ _ _ _ _ (heap_setCell_same _ _ _ _ _ _ h.res))))]
  rfl
theorem lk_res {fn : Func} {p : Tmp} (hf : fn.results = #[.cell p 48]) {tmps : Array Value} {w : World} {B : Nat} {a b c d e : Value} (hp : tmps.getD p undef = .pointer (some ⟨B, 0, none⟩)) (h : w.heap[B]? = some (.cells #[a, b, c, d, e] 48 (0, 0))) :
    (results fn tmps).run Tryz.prog w = .ok (.agg #[a, b, c, d, e]) w := by
  obtain ⟨c0, c1, c2, c3, c4, _⟩ := five_cells h
  rw [results_at hf, hp]
  simp [loadVar, go_sem, c0, c1, c2, c3, c4]
set_option maxRecDepth 100000 in
set_option maxHeartbeats 6400000 in
theorem rslock_any {w : World} {R : Nat} {ao : Option Addr} {bw off cap : Nat} {L : List Wd} {s : Rd} (h : RsI w R ao bw off cap L s) (sh : Bool) :
    Calls Tryz.prog 45 #[.pointer (some ⟨R, 0, none⟩), .bool sh] w fun r w' => r = .returned (.agg (lkA (lockS L s sh).1)) ∧ RsP R ao bw off cap L (lockS L s sh).2 w w' := by
  have hR := lt_of_block h.rd
  have hbw : 0 < L.length → bw < w.heap.size := fun h0 => (h.ws.at_ h0).2
  have HF := Lib.hid (fun V (s : Rd) (hV : RsI V R ao bw off cap L s) (name : ByteArray) (most : Int) => rsfield_any hV name most)
  have HNE := Lib.hid (fun V (s : Rd) (hV : RsI V R ao bw off cap L s) => rsneed_any hV 3 ⟨#[59]⟩)
  have HS0 := Lib.hid (LkX.start w R sh)
  have HR0 := Lib.hid (h.below (((Below.refl _ w).alloc (Nat.le_refl _) (.cells #[.bool false, .int .i64 0, .int .i64 0, .int .i64 0, .int .i64 0] 48)).alloc (by simp) (.cells #[.bool sh, .int .i64 0, .int .i64 0, .int .i64 0, .int .i64 0] 48)))
  have HBW := Lib.hid hbw
  obtain ⟨⟨a1, s1⟩, e1⟩ : ∃ x, fieldS L s sliceB 16 = x := ⟨_, rfl⟩
  obtain ⟨⟨a2, s2⟩, e2⟩ : ∃ x, fieldS L s1 critB 32 = x := ⟨_, rfl⟩
  have E1 := Lib.hid e1
  have E2 := Lib.hid e2
  clear h hbw
  cases sh with
  | true =>
    obtain ⟨⟨a3, s3⟩, e3⟩ : ∃ x, fieldS L s2 readB 16 = x := ⟨_, rfl⟩
    obtain ⟨⟨a4, s4⟩, e4⟩ : ∃ x, fieldS L s3 writeB 16 = x := ⟨_, rfl⟩
    have hl : lockS L s true = ((true, a1, a2, a3, a4), needS L s4 3 [59]) := by
      unfold lockS
      simp only [e1, e2, if_pos, e3, e4]
    rw [hl]
    have E3 := Lib.hid e3
    have E4 := Lib.hid e4
    clear e1 e2 e3 e4 hl
    go_enter Tryz.func45, Tryz.ntmps45
    go_wp2_with fail
    have h1 := HF.out _ _ HR0.out ⟨#[115, 108, 105, 99, 101]⟩ 16
    rw [show (⟨#[115, 108, 105, 99, 101]⟩ : ByteArray).data.toList = sliceB from rfl, E1.out] at h1
    refine h1.mono ?_
    rintro r w1 ⟨rfl, hr1, ht1⟩
    have HX1 := Lib.hid (HS0.out.turned hR ht1)
    have b1 := frozen_of_row _ _ 1 _ _ HX1.out.box
    obtain ⟨c0, c1, c2, c3, c4, -⟩ := five_cells HX1.out.box
    have HQ1 := Lib.hid (hr1.store (k := w.heap.size + 1) 1 (.int .i64 a1) (by omega) (fun h0 => by have := HBW.out h0; omega))
    have HZ1 := Lib.hid (HX1.out.set (k := 1) (v := .int .i64 a1) (x' := (true, a1, 0, 0, 0)) rfl)
    clear h1 hr1 ht1
    go_wp2_with fail
    have h1 := HF.out _ _ HQ1.out ⟨#[99, 114, 105, 116]⟩ 32
    rw [show (⟨#[99, 114, 105, 116]⟩ : ByteArray).data.toList = critB from rfl, E2.out] at h1
    refine h1.mono ?_
    rintro r w2 ⟨rfl, hr1, ht1⟩
    have HX2 := Lib.hid (HZ1.out.turned hR ht1)
    have b2 := frozen_of_row _ _ 2 _ _ HX2.out.box
    clear c0 c1 c2 c3 c4
    obtain ⟨c0, c1, c2, c3, c4, -⟩ := five_cells HX2.out.box
    have HQ2 := Lib.hid (hr1.store (k := w.heap.size + 1) 2 (.int .i64 a2) (by omega) (fun h0 => by have := HBW.out h0; omega))
    have HZ2 := Lib.hid (HX2.out.set (k := 2) (v := .int .i64 a2) (x' := (true, a1, a2, 0, 0)) rfl)
    clear h1 hr1 ht1
    go_wp2_with fail
    have h1 := HF.out _ _ HQ2.out ⟨#[114, 101, 97, 100]⟩ 16
    rw [show (⟨#[114, 101, 97, 100]⟩ : ByteArray).data.toList = readB from rfl, E3.out] at h1
    refine h1.mono ?_
    rintro r w3 ⟨rfl, hr1, ht1⟩
    have HX3 := Lib.hid (HZ2.out.turned hR ht1)
    have b3 := frozen_of_row _ _ 3 _ _ HX3.out.box
    clear c0 c1 c2 c3 c4
    obtain ⟨c0, c1, c2, c3, c4, -⟩ := five_cells HX3.out.box
    have HQ3 := Lib.hid (hr1.store (k := w.heap.size + 1) 3 (.int .i64 a3) (by omega) (fun h0 => by have := HBW.out h0; omega))
    have HZ3 := Lib.hid (HX3.out.set (k := 3) (v := .int .i64 a3) (x' := (true, a1, a2, a3, 0)) rfl)
    clear h1 hr1 ht1
    go_wp2_with fail
    have h1 := HF.out _ _ HQ3.out ⟨#[119, 114, 105, 116, 101]⟩ 16
    rw [show (⟨#[119, 114, 105, 116, 101]⟩ : ByteArray).data.toList = writeB from rfl, E4.out] at h1
    refine h1.mono ?_
    rintro r w4 ⟨rfl, hr1, ht1⟩
    have HX4 := Lib.hid (HZ3.out.turned hR ht1)
    have b4 := frozen_of_row _ _ 4 _ _ HX4.out.box
    clear c0 c1 c2 c3 c4
    obtain ⟨c0, c1, c2, c3, c4, -⟩ := five_cells HX4.out.box
    have HQ4 := Lib.hid (hr1.store (k := w.heap.size + 1) 4 (.int .i64 a4) (by omega) (fun h0 => by have := HBW.out h0; omega))
    have HZ4 := Lib.hid (HX4.out.set (k := 4) (v := .int .i64 a4) (x' := (true, a1, a2, a3, a4)) rfl)
    clear h1 hr1 ht1
    go_wp2_with fail
    have h1 := HNE.out _ _ HQ4.out
    refine h1.mono ?_
    rintro r w9 ⟨rfl, hr1, ht1⟩
    have HX9 := Lib.hid (HZ4.out.turned hR ht1)
    have HR9 := Lib.hid hr1
    clear c0 c1 c2 c3 c4
    obtain ⟨c0, c1, c2, c3, c4, -⟩ := five_cells HX9.out.box
    obtain ⟨d0, d1, d2, d3, d4, df⟩ := five_cells HX9.out.res
    have f0 := df 0
    have f1 := df 1
    have f2 := df 2
    have f3 := df 3
    have f4 := df 4
    have HNB : R ≠ w.heap.size := by omega
    clear h1 hr1 ht1 df
    go_wp2
    have hf := HX9.out.fin
    refine bodyPost_ret (lk_res rfl rfl hf.1) rfl ?_
    exact ⟨rfl, ((((HR9.out.store 0 _ HNB (fun h0 => by have := HBW.out h0; omega)).store 1 _ HNB (fun h0 => by have := HBW.out h0; omega)).store 2 _ HNB (fun h0 => by have := HBW.out h0; omega)).store 3 _ HNB (fun h0 => by have := HBW.out h0; omega)).store 4 _ HNB (fun h0 => by have := HBW.out h0; omega), hf.2⟩
  | false =>
    have hl : lockS L s false = ((false, a1, a2, 0, 0), needS L s2 3 [59]) := by
      unfold lockS
      simp only [e1, e2, Bool.false_eq_true, if_false]
    rw [hl]
    clear e1 e2 hl
    go_enter Tryz.func45, Tryz.ntmps45
    go_wp2_with fail
    have h1 := HF.out _ _ HR0.out ⟨#[115, 108, 105, 99, 101]⟩ 16
    rw [show (⟨#[115, 108, 105, 99, 101]⟩ : ByteArray).data.toList = sliceB from rfl, E1.out] at h1
    refine h1.mono ?_
    rintro r w1 ⟨rfl, hr1, ht1⟩
    have HX1 := Lib.hid (HS0.out.turned hR ht1)
    have b1 := frozen_of_row _ _ 1 _ _ HX1.out.box
    obtain ⟨c0, c1, c2, c3, c4, -⟩ := five_cells HX1.out.box
    have HQ1 := Lib.hid (hr1.store (k := w.heap.size + 1) 1 (.int .i64 a1) (by omega) (fun h0 => by have := HBW.out h0; omega))
    have HZ1 := Lib.hid (HX1.out.set (k := 1) (v := .int .i64 a1) (x' := (false, a1, 0, 0, 0)) rfl)
    clear h1 hr1 ht1
    go_wp2_with fail
    have h1 := HF.out _ _ HQ1.out ⟨#[99, 114, 105, 116]⟩ 32
    rw [show (⟨#[99, 114, 105, 116]⟩ : ByteArray).data.toList = critB from rfl, E2.out] at h1
    refine h1.mono ?_
    rintro r w2 ⟨rfl, hr1, ht1⟩
    have HX2 := Lib.hid (HZ1.out.turned hR ht1)
    have b2 := frozen_of_row _ _ 2 _ _ HX2.out.box
    clear c0 c1 c2 c3 c4
    obtain ⟨c0, c1, c2, c3, c4, -⟩ := five_cells HX2.out.box
    have HQ2 := Lib.hid (hr1.store (k := w.heap.size + 1) 2 (.int .i64 a2) (by omega) (fun h0 => by have := HBW.out h0; omega))
    have HZ2 := Lib.hid (HX2.out.set (k := 2) (v := .int .i64 a2) (x' := (false, a1, a2, 0, 0)) rfl)
    clear h1 hr1 ht1
    go_wp2_with fail
    have h1 := HNE.out _ _ HQ2.out
    refine h1.mono ?_
    rintro r w9 ⟨rfl, hr1, ht1⟩
    have HX9 := Lib.hid (HZ2.out.turned hR ht1)
    have HR9 := Lib.hid hr1
    clear c0 c1 c2 c3 c4
    obtain ⟨c0, c1, c2, c3, c4, -⟩ := five_cells HX9.out.box
    obtain ⟨d0, d1, d2, d3, d4, df⟩ := five_cells HX9.out.res
    have f0 := df 0
    have f1 := df 1
    have f2 := df 2
    have f3 := df 3
    have f4 := df 4
    have HNB : R ≠ w.heap.size := by omega
    clear h1 hr1 ht1 df
    go_wp2
    have hf := HX9.out.fin
    refine bodyPost_ret (lk_res rfl rfl hf.1) rfl ?_
    exact ⟨rfl, ((((HR9.out.store 0 _ HNB (fun h0 => by have := HBW.out h0; omega)).store 1 _ HNB (fun h0 => by have := HBW.out h0; omega)).store 2 _ HNB (fun h0 => by have := HBW.out h0; omega)).store 3 _ HNB (fun h0 => by have := HBW.out h0; omega)).store 4 _ HNB (fun h0 => by have := HBW.out h0; omega), hf.2⟩
end Go.Proofs.YtmcfjlkjijaflaaGreatDoor

/- The program's untold; slices.ContainsFunc over locks with it. -/
namespace Go.Proofs.YtmcfjlkjijaflaaGreatDoor
open Go.RowKit

def untR (x : Lk) : Bool := !x.1 && (!decide (x.2.2.2.1 = 0) || !decide (x.2.2.2.2 = 0))
set_option maxRecDepth 100000 in
set_option maxHeartbeats 1600000 in
theorem untold_any (x : Lk) (w : World) : Calls Tryz.prog 69 #[.agg (lkA x)] w fun e w' => e = .returned (.bool (untR x)) ∧ Below w.heap.size w w' := by
  obtain ⟨sh, sl, cr, rd, wr⟩ := x
  have HB := Lib.hid ((Below.refl w.heap.size w).alloc (Nat.le_refl _) (.cells #[.bool sh, .int .i64 sl, .int .i64 cr, .int .i64 rd, .int .i64 wr] 48))
  cases sh with
  | true =>
    go_enter Tryz.func69, Tryz.ntmps69
    go_wp2
    go_ret
    exact ⟨rfl, HB.out⟩
  | false =>
    by_cases h1 : rd = 0
    · subst h1
      by_cases h2 : wr = 0
      · subst h2
        go_enter Tryz.func69, Tryz.ntmps69
        go_wp2
        go_ret
        exact ⟨rfl, HB.out⟩
      · have e : untR (false, sl, cr, 0, wr) = true := by simp [untR, h2]
        have q : (wr != 0) = true := by simpa using h2
        rw [e]
        clear h2 e
        go_enter Tryz.func69, Tryz.ntmps69
        go_wp2
        go_ret
        exact ⟨rfl, HB.out⟩
    · have e : untR (false, sl, cr, rd, wr) = true := by simp [untR, h1]
      have q : (rd != 0) = true := by simpa using h1
      rw [e]
      clear h1 e
      go_enter Tryz.func69, Tryz.ntmps69
      go_wp2
      go_ret
      exact ⟨rfl, HB.out⟩
abbrev untV : Value := .func (.func 69) #[] #[]
set_option maxRecDepth 100000 in
set_option maxHeartbeats 1600000 in
theorem indexunt_any (ao : Option Addr) (b off cap : Nat) (L : List Lk) (w : World) (h : LArg w ao b off L) (hm : L.length ≤ 100000) :
    Calls Tryz.prog 99 #[.slice ao L.length cap, untV] w fun e w' => (∃ r : Int, e = .returned (.int .i64 r) ∧ decide (0 ≤ r) = L.any untR) ∧ Below w.heap.size w w' := by
  have HA := Lib.hid h
  have HR := Lib.hid (fun x V => untold_any x V)
  obtain ⟨n, hn⟩ : ∃ n, L.length = n := ⟨_, rfl⟩
  have HN := Lib.hid hn
  rw [hn] at hm ⊢
  clear h hn
  go_enter Tryz.func99, Tryz.ntmps99
  go_wp2
  go_loopw [8] (fun s wr => ∃ i : Nat, s = .int .i64 (i : Nat) ∧ i ≤ n ∧ Hid (Below w.heap.size w wr) ∧ Hid (∀ j (hj : j < L.length), j < i → untR L[j] = false)) (fun s _ => n - (intOf s).toNat)
  case atStart => exact ⟨0, rfl, Nat.zero_le _, Below.refl _ w, fun j _ hj => absurd hj (Nat.not_lt_zero _)⟩
  case round =>
    obtain ⟨i, rfl, hi, HB, HO⟩ := hrel
    by_cases hlt : i < n
    · have hiL : i < L.length := by rw [HN.out]; exact hlt
      have hA := HA.out.below HB.out
      obtain ⟨rfl, hbl⟩ := hA.at_ (by omega)
      have hcells := hA.cells i hiL
      obtain ⟨⟨sh, sl, cr, rd, wt⟩, hx⟩ : ∃ x, L[i] = x := ⟨_, rfl⟩
      rw [hx] at hcells
      obtain ⟨x0, x1, x2, x3, x4⟩ := hcells
      simp only at x0 x1 x2 x3 x4
      have HX := Lib.hid hx
      have i0 : (0 : Int) ≤ i := by omega
      have i1 : (i : Int) < n := by omega
      have i2 : IntKind.i64.wrap ((i : Int) + 1) = (i : Int) + 1 := by rw [IntKind.wrap_i64]; omega
      have HRK := Lib.hid (fun V => HR.out (sh, sl, cr, rd, wt) V)
      obtain ⟨q, hq⟩ : ∃ q, untR (sh, sl, cr, rd, wt) = q := ⟨_, rfl⟩
      have HQ := Lib.hid hq
      rw [hq] at HRK
      clear hx hq hA
      cases q with
      | true =>
        have HE : Hid (L.any untR = true) := Lib.hid (by
          rw [List.any_eq_true]
          exact ⟨_, List.getElem_mem hiL, by rw [HX.out]; exact HQ.out⟩)
        go_wp2_with fail
        with_reducible refine (HRK.out _).mono ?_
        rintro e w1 ⟨rfl, hb⟩
        have HB1 := Lib.hid (HB.out.trans (hb.mono HB.out.size))
        clear hb
        go_wp2
        go_ret
        exact ⟨⟨_, rfl, by rw [HE.out]; exact decide_eq_true i0⟩, HB1.out⟩
      | false =>
        have HO2 : Hid (∀ j (hj : j < L.length), j < i + 1 → untR L[j] = false) := Lib.hid (fun j hj hji => by
          rcases Nat.lt_or_ge j i with h | h
          · exact HO.out j hj h
          · obtain rfl : j = i := by omega
            rw [HX.out]
            exact HQ.out)
        go_wp2_with fail
        with_reducible refine (HRK.out _).mono ?_
        rintro e w1 ⟨rfl, hb⟩
        have HB1 := Lib.hid (HB.out.trans (hb.mono HB.out.size))
        clear hb
        go_wp2
        go_roundw
        case rel => exact ⟨i + 1, by go_num, by omega, HB1, HO2⟩
        case measure => simp [intOf]; omega
    · have HE : Hid (L.any untR = false) := Lib.hid (by
        rw [List.any_eq_false]
        intro o ho
        obtain ⟨j, hj, rfl⟩ := List.getElem_of_mem ho
        rw [HO.out j hj (by have := HN.out; omega)]
        decide)
      go_wp2
      go_ret
      exact ⟨⟨_, rfl, by rw [HE.out]; rfl⟩, HB.out⟩
set_option maxRecDepth 100000 in
theorem containsunt_any (ao : Option Addr) (b off cap : Nat) (L : List Lk) (w : World) (h : LArg w ao b off L) (hm : L.length ≤ 100000) :
    Calls Tryz.prog 68 #[.slice ao L.length cap, untV] w fun e w' => e = .returned (.bool (L.any untR)) ∧ Below w.heap.size w w' := by
  have HI := Lib.hid (indexunt_any ao b off cap L w h hm)
  obtain ⟨n, hn⟩ : ∃ n, L.length = n := ⟨_, rfl⟩
  obtain ⟨q, hq⟩ : ∃ q, L.any untR = q := ⟨_, rfl⟩
  rw [hn, hq] at HI
  rw [hn, hq]
  clear h hn hq hm
  go_enter Tryz.func68, Tryz.ntmps68
  go_wp2_with fail
  with_reducible refine HI.out.mono ?_
  rintro e w1 ⟨⟨r, rfl, hr⟩, hb⟩
  have HR := Lib.hid hr
  have HB := Lib.hid hb
  clear hr hb
  go_wp2
  go_ret
  exact ⟨by rw [← HR.out]; rfl, HB.out⟩
end Go.Proofs.YtmcfjlkjijaflaaGreatDoor

/- Rows of ints and of programs; what the document's Parse of setups holds in memory while it goes. -/
namespace Go.Proofs.YtmcfjlkjijaflaaGreatDoor
open Go.RowKit

def gC (x : Int) : List Value := [.int .i64 x]
theorem gC_len (x : Int) : (gC x).length = 1 := rfl
theorem gC_one (x : Int) : ∀ u ∈ gC x, u.oneCell' = true := by
  intro u hu
  simp only [gC, List.mem_cons, List.not_mem_nil, or_false] at hu
  subst hu
  rfl
def pgC (x : Prg × Value) : List Value := [.bool x.1.1, x.2]
theorem pgC_len (x : Prg × Value) : (pgC x).length = 2 := rfl
theorem int_info : (Tryz.prog.info? 3).map (fun i => (i.zero, i.size, i.bytes)) = some (some (.int .i64 0), 1, 8) := by kernel_rfl
theorem prog_info : (Tryz.prog.info? 51).map (fun i => (i.zero, i.size, i.bytes)) = some (some (.agg #[.bool false, .slice none 0 0]), 2, 32) := by kernel_rfl
abbrev GRow (base : Nat) (w : World) (v : Value) (L : List Int) : Prop := w.ownsRow base 3 1 v L.length (cellsOf gC L)
abbrev PRow (base : Nat) (w : World) (v : Value) (L : List (Prg × Value)) : Prop := w.ownsRow base 51 2 v L.length (cellsOf pgC L)
theorem IArg.of_row {base : Nat} {w : World} {v : Value} {L : List Int} (h : GRow base w v L) : ∃ ao b cap, v = .slice ao L.length cap ∧ IArg w ao b 0 L := by
  by_cases h0 : 0 < L.length
  · obtain ⟨g, cap, rfl, _, _⟩ := ownsRow_pos h h0
    refine ⟨_, g, cap, rfl, fun _ => ⟨rfl, (h.lt g (by simp [Value.ownBlock])).2⟩, fun i hi => ?_⟩
    have e := cellsOf_get gC_len L i 0 hi (by decide)
    rw [Nat.zero_add]
    have := h.cellAt i (by simpa using hi)
    rw [this]
    simpa [gC] using e
  · obtain ⟨ao, cap, rfl, _⟩ := ownsRow_shape h
    exact ⟨ao, 0, cap, rfl, fun h => absurd h h0, fun i hi => absurd (Nat.lt_of_le_of_lt (Nat.zero_le _) hi) h0⟩
theorem GArg.of_row {base base2 : Nat} {w : World} {v : Value} {L : List (Prg × Value)} (h : PRow base w v L) (ho : ∀ x ∈ L, ORow base2 w x.2 x.1.2) : ∃ ao b cap, v = .slice ao L.length cap ∧ GArg w ao b 0 (L.map (·.1)) := by
  by_cases h0 : 0 < L.length
  · obtain ⟨g, cap, rfl, _, _⟩ := ownsRow_pos h h0
    refine ⟨_, g, cap, rfl, fun _ => ⟨rfl, (h.lt g (by simp [Value.ownBlock])).2⟩, fun i hi => ?_⟩
    have hiL : i < L.length := by simpa using hi
    have hk : ∀ q, q < 2 → w.cell? ⟨g, 0 + i * 2 + q, none⟩ = (pgC L[i])[q]? := fun q hq => by
      rw [Nat.zero_add, h.cellAt _ (by omega)]
      exact cellsOf_get pgC_len L i q hiL hq
    obtain ⟨ai, bi, ci, hv, hoa⟩ := OArg.of_row (ho L[i] (List.getElem_mem hiL))
    refine ⟨ai, bi, 0, ci, ?_, ?_, ?_⟩
    · simpa [pgC] using hk 0 (by omega)
    · have e := hk 1 (by omega)
      simp only [List.getElem_map]
      rw [e, ← hv]
      rfl
    · simpa using hoa
  · obtain ⟨ao, cap, rfl, _⟩ := ownsRow_shape h
    exact ⟨ao, 0, cap, rfl, fun h => absurd (by simpa using h) h0, fun i hi => absurd (Nat.lt_of_le_of_lt (Nat.zero_le _) (by simpa using hi)) h0⟩
abbrev zeroSt : Array Value := #[.int .i64 0, .int .i64 0, .slice none 0 0, .slice none 0 0, .slice none 0 0]
/-- What Parse holds: its answer's box, the reader, the setup's box, the rows so far: groups, locks, programs with their ops' rows, places. -/
structure PsI (w wr : World) (ao : Option Addr) (bw off cap : Nat) (L : List Wd) (s : Rd) (c g : Int) (vg vl vp vq : Value) (gs : List Int) (ls : List Lk) (xs : List (Prg × Value)) (qs : List Int) : Prop where
  rd : RsI wr (w.heap.size + 1) ao bw off cap L s
  st : wr.heap[w.heap.size + 2]? = some (.cells #[.int .i64 c, .int .i64 g, vg, vl, vp] 26 (0, 0))
  rs : wr.heap[w.heap.size]? = some (.cells zeroSt 26 (0, 0))
  gr : GRow (w.heap.size + 3) wr vg gs
  lr : LkRow (w.heap.size + 3) wr vl ls
  pr : PRow (w.heap.size + 3) wr vp xs
  po : ∀ x ∈ xs, ORow (w.heap.size + 3) wr x.2 x.1.2
  qr : GRow (w.heap.size + 3) wr vq qs
  dq : ∀ k, vg.ownBlock = some k → vq.ownBlock ≠ some k
  bel : Below w.heap.size w wr
  bwl : 0 < L.length → bw < w.heap.size
section
variable {w wr wr' : World} {ao : Option Addr} {bw off cap : Nat} {L : List Wd} {s s' : Rd} {c g : Int} {vg vl vp vq : Value} {gs : List Int} {ls : List Lk} {xs : List (Prg × Value)} {qs : List Int}
theorem PsI.siz (h : PsI w wr ao bw off cap L s c g vg vl vp vq gs ls xs qs) : w.heap.size + 3 ≤ wr.heap.size := lt_of_block h.st
theorem PsI.below (h : PsI w wr ao bw off cap L s c g vg vl vp vq gs ls xs qs) (hb : Below wr.heap.size wr wr') : PsI w wr' ao bw off cap L s c g vg vl vp vq gs ls xs qs :=
  ⟨h.rd.below hb, (hb.block _ (lt_of_block h.st)).trans h.st, (hb.block _ (lt_of_block h.rs)).trans h.rs, row_below h.gr hb, row_below h.lr hb, row_below h.pr hb, fun x hx => row_below (h.po x hx) hb, row_below h.qr hb, h.dq, h.bel.trans (hb.mono h.bel.size), h.bwl⟩
theorem row_read {base R : Nat} {e : TypeId} {size n : Nat} {v : Value} {ys : List Value} (h : wr.ownsRow base e size v n ys) (t : Turned [R] wr wr') (hR : R < base) : wr'.ownsRow base e size v n ys :=
  ownsRow_same h fun k hk hl => t.block k hl (by
    have := (h.lt k (by simpa using hk)).1
    simp
    omega)
/-- .. behind a call that moved the reader. -/
theorem PsI.read (h : PsI w wr ao bw off cap L s c g vg vl vp vq gs ls xs qs) (t : RsP (w.heap.size + 1) ao bw off cap L s' wr wr') : PsI w wr' ao bw off cap L s' c g vg vl vp vq gs ls xs qs := by
  obtain ⟨t1, t2⟩ := t
  exact ⟨t1, t2.same h.st (by simp), t2.same h.rs (by simp), row_read h.gr t2 (by omega), row_read h.lr t2 (by omega), row_read h.pr t2 (by omega), fun x hx => row_read (h.po x hx) t2 (by omega), row_read h.qr t2 (by omega), h.dq, h.bel.trans (t2.below (by simp) h.bel.size), h.bwl⟩
theorem PsI.drawn (h : PsI w wr ao bw off cap L s c g vg vl vp vq gs ls xs qs) (n : Nat) : PsI w (wr.drewN n) ao bw off cap L s c g vg vl vp vq gs ls xs qs := h.below (below_drewN (Below.refl _ wr) n)
/-- A cell of the setup's box is stored. -/
theorem PsI.stored (h : PsI w wr ao bw off cap L s c g vg vl vp vq gs ls xs qs) {k : Nat} {v : Value} {c' g' : Int} (he : (#[.int .i64 c, .int .i64 g, vg, vl, vp] : Array Value).setIfInBounds k v = #[.int .i64 c', .int .i64 g', vg, vl, vp]) :
    PsI w (wr.setCell ⟨w.heap.size + 2, k, none⟩ v) ao bw off cap L s c' g' vg vl vp vq gs ls xs qs := by
  have hr : ∀ {e : TypeId} {size n : Nat} {u : Value} {ys : List Value}, wr.ownsRow (w.heap.size + 3) e size u n ys → (wr.setCell ⟨w.heap.size + 2, k, none⟩ v).ownsRow (w.heap.size + 3) e size u n ys := fun h => ownsRow_same h fun j hj _ => Below.heap_setCell _ _ _ _ (by
    have := (h.lt j (by simpa using hj)).1
    show j ≠ w.heap.size + 2
    omega)
  refine ⟨h.rd.store k v (by omega) (fun h0 => by have := h.bwl h0; omega), ?_, (Below.heap_setCell _ _ _ _ (by show w.heap.size ≠ w.heap.size + 2; omega)).trans h.rs, hr h.gr, hr h.lr, hr h.pr, fun x hx => hr (h.po x hx), hr h.qr, h.dq, h.bel.setCell (by show w.heap.size ≤ w.heap.size + 2; omega) _, h.bwl⟩
  rw [heap_setCell_same _ _ _ _ _ _ h.st]
  simp only [he]
/-- What lies outside of a row is as it was when that grows. -/
theorem PsI.out (h : PsI w wr ao bw off cap L s c g vg vl vp vq gs ls xs qs) {row : Option Nat} (hg : wr.grownBy wr' row) (hrow : ∀ k, row = some k → w.heap.size + 3 ≤ k) :
    RsI wr' (w.heap.size + 1) ao bw off cap L s ∧ wr'.heap[w.heap.size + 2]? = some (.cells #[.int .i64 c, .int .i64 g, vg, vl, vp] 26 (0, 0)) ∧ wr'.heap[w.heap.size]? = some (.cells zeroSt 26 (0, 0)) ∧ Below w.heap.size w wr' := by
  have hz := h.siz
  have hb : ∀ k, k < w.heap.size + 3 → wr'.heap[k]? = wr.heap[k]? := fun k hk => hg.block k (by omega) (fun e => by have := hrow k e.symm; omega)
  refine ⟨⟨(hb _ (by omega)).trans h.rd.rd, h.rd.ws.kept (fun h0 => hb _ (by have := h.bwl h0; omega)), h.rd.ne, h.rd.le, h.rd.len⟩, (hb _ (by omega)).trans h.st, (hb _ (by omega)).trans h.rs, ?_⟩
  exact h.bel.grown hg h.bel.size (fun k hk => by have := hrow k hk; omega)
theorem row_own {base : Nat} {e : TypeId} {size n : Nat} {v : Value} {ys : List Value} (h : wr.ownsRow base e size v n ys) : ∀ k, v.ownBlock = some k → base ≤ k := fun k hk => (h.lt k (by simp [hk])).1
theorem row_kept {base base' : Nat} {e e' : TypeId} {size n size' n' : Nat} {v v' : Value} {ys ys' : List Value} (h : wr.ownsRow base e size v n ys) (hr : wr.ownsRow base' e' size' v' n' ys') (hg : wr.grownBy wr' v'.ownBlock) (hne : e ≠ e') : wr'.ownsRow base e size v n ys :=
  h.kept hg (rows_off h hr hne)
theorem row_rise {base : Nat} {e : TypeId} {size n : Nat} {v : Value} {ys : List Value} (h : wr'.ownsRow 0 e size v n ys) (hb : ∀ k ∈ v.ownBlock.toList, base ≤ k) : wr'.ownsRow base e size v n ys := by
  refine ⟨h.1, ?_⟩
  rcases h.2 with h2 | ⟨q, cap, cur, rfl, _, hg, rest⟩
  · exact .inl h2
  · exact .inr ⟨q, cap, cur, rfl, hb q (by simp [Value.ownBlock]), hg, rest⟩
theorem new_rise {base : Nat} {e : TypeId} {size n m : Nat} {v v' : Value} {ys zs : List Value} (h : wr.ownsRow base e size v n ys) (hz : base ≤ wr.heap.size) (h' : wr'.ownsRow 0 e size v' m zs) (hnew : ∀ q ∈ v'.ownBlock.toList, q ∈ v.ownBlock.toList ∨ wr.heap.size ≤ q) : wr'.ownsRow base e size v' m zs :=
  row_rise h' fun k hk => by
    rcases hnew k hk with h1 | h1
    · exact row_own h k (by simpa using h1)
    · omega
theorem row_set {B k : Nat} {u : Value} {base : Nat} {e : TypeId} {size n : Nat} {v : Value} {ys : List Value} (h : wr.ownsRow base e size v n ys) (hB : B < base) : (wr.setCell ⟨B, k, none⟩ u).ownsRow base e size v n ys :=
  ownsRow_same h fun j hj _ => Below.heap_setCell _ _ _ _ (by
    have := (h.lt j (by simpa using hj)).1
    show j ≠ B
    omega)
/-- A group is appended, and the row stored. -/
theorem PsI.group (h : PsI w wr ao bw off cap L s c g vg vl vp vq gs ls xs qs) {v' : Value} {x : Int} (hown : wr'.ownsRow 0 3 1 v' (gs.length + 1) (cellsOf gC gs ++ gC x)) (hg : wr.grownBy wr' vg.ownBlock) (hnew : ∀ q ∈ v'.ownBlock.toList, q ∈ vg.ownBlock.toList ∨ wr.heap.size ≤ q) (hq : vq = .slice none 0 0) :
    PsI w (wr'.setCell ⟨w.heap.size + 2, 2, none⟩ v') ao bw off cap L s c g v' vl vp vq (gs ++ [x]) ls xs qs := by
  have hz := h.siz
  obtain ⟨o1, o2, o3, o4⟩ := h.out hg (row_own h.gr)
  have hown' : wr'.ownsRow (w.heap.size + 3) 3 1 v' (gs ++ [x]).length (cellsOf gC (gs ++ [x])) := by
    rw [cellsOf_snoc, List.length_append, List.length_singleton]
    exact new_rise h.gr hz hown hnew
  subst hq
  refine ⟨o1.store 2 v' (by omega) (fun h0 => by have := h.bwl h0; omega), ?_, (Below.heap_setCell _ _ _ _ (by show w.heap.size ≠ w.heap.size + 2; omega)).trans o3, row_set hown' (by omega), row_set (row_kept h.lr h.gr hg (by decide)) (by omega), row_set (row_kept h.pr h.gr hg (by decide)) (by omega), fun y hy => row_set (row_kept (h.po y hy) h.gr hg (by decide)) (by omega), row_set (h.qr.kept hg (.inl rfl)) (by omega), fun k _ => by simp [Value.ownBlock], o4.setCell (by show w.heap.size ≤ w.heap.size + 2; omega) _, h.bwl⟩
  rw [heap_setCell_same _ _ _ _ _ _ o2]
  rfl
/-- A lock. -/
theorem PsI.lock (h : PsI w wr ao bw off cap L s c g vg vl vp vq gs ls xs qs) {v' : Value} {x : Lk} (hown : wr'.ownsRow 0 48 5 v' (ls.length + 1) (cellsOf lkC ls ++ lkC x)) (hg : wr.grownBy wr' vl.ownBlock) (hnew : ∀ q ∈ v'.ownBlock.toList, q ∈ vl.ownBlock.toList ∨ wr.heap.size ≤ q) :
    PsI w (wr'.setCell ⟨w.heap.size + 2, 3, none⟩ v') ao bw off cap L s c g vg v' vp vq gs (ls ++ [x]) xs qs := by
  have hz := h.siz
  obtain ⟨o1, o2, o3, o4⟩ := h.out hg (row_own h.lr)
  have hown' : wr'.ownsRow (w.heap.size + 3) 48 5 v' (ls ++ [x]).length (cellsOf lkC (ls ++ [x])) := by
    rw [cellsOf_snoc, List.length_append, List.length_singleton]
    exact new_rise h.lr hz hown hnew
  refine ⟨o1.store 3 v' (by omega) (fun h0 => by have := h.bwl h0; omega), ?_, (Below.heap_setCell _ _ _ _ (by show w.heap.size ≠ w.heap.size + 2; omega)).trans o3, row_set (row_kept h.gr h.lr hg (by decide)) (by omega), row_set hown' (by omega), row_set (row_kept h.pr h.lr hg (by decide)) (by omega), fun y hy => row_set (row_kept (h.po y hy) h.lr hg (by decide)) (by omega), row_set (row_kept h.qr h.lr hg (by decide)) (by omega), h.dq, o4.setCell (by show w.heap.size ≤ w.heap.size + 2; omega) _, h.bwl⟩
  rw [heap_setCell_same _ _ _ _ _ _ o2]
  rfl
/-- A program, whose ops lie in a row of their own. -/
theorem PsI.prog (h : PsI w wr ao bw off cap L s c g vg vl vp vq gs ls xs qs) {v' : Value} {x : Prg × Value} (hx : ORow (w.heap.size + 3) wr x.2 x.1.2) (hown : wr'.ownsRow 0 51 2 v' (xs.length + 1) (cellsOf pgC xs ++ pgC x)) (hg : wr.grownBy wr' vp.ownBlock) (hnew : ∀ q ∈ v'.ownBlock.toList, q ∈ vp.ownBlock.toList ∨ wr.heap.size ≤ q) :
    PsI w (wr'.setCell ⟨w.heap.size + 2, 4, none⟩ v') ao bw off cap L s c g vg vl v' vq gs ls (xs ++ [x]) qs := by
  have hz := h.siz
  obtain ⟨o1, o2, o3, o4⟩ := h.out hg (row_own h.pr)
  have hown' : wr'.ownsRow (w.heap.size + 3) 51 2 v' (xs ++ [x]).length (cellsOf pgC (xs ++ [x])) := by
    rw [cellsOf_snoc, List.length_append, List.length_singleton]
    exact new_rise h.pr hz hown hnew
  refine ⟨o1.store 4 v' (by omega) (fun h0 => by have := h.bwl h0; omega), ?_, (Below.heap_setCell _ _ _ _ (by show w.heap.size ≠ w.heap.size + 2; omega)).trans o3, row_set (row_kept h.gr h.pr hg (by decide)) (by omega), row_set (row_kept h.lr h.pr hg (by decide)) (by omega), row_set hown' (by omega), fun y hy => ?_, row_set (row_kept h.qr h.pr hg (by decide)) (by omega), h.dq, o4.setCell (by show w.heap.size ≤ w.heap.size + 2; omega) _, h.bwl⟩
  · rw [heap_setCell_same _ _ _ _ _ _ o2]
    rfl
  · rcases List.mem_append.1 hy with hy | hy
    · exact row_set (row_kept (h.po y hy) h.pr hg (by decide)) (by omega)
    · simp only [List.mem_singleton] at hy
      subst hy
      exact row_set (row_kept hx h.pr hg (by decide)) (by omega)
/-- A place. -/
theorem PsI.place (h : PsI w wr ao bw off cap L s c g vg vl vp vq gs ls xs qs) {v' : Value} {x : Int} (hown : wr'.ownsRow 0 3 1 v' (qs.length + 1) (cellsOf gC qs ++ gC x)) (hg : wr.grownBy wr' vq.ownBlock) (hnew : ∀ q ∈ v'.ownBlock.toList, q ∈ vq.ownBlock.toList ∨ wr.heap.size ≤ q) :
    PsI w wr' ao bw off cap L s c g vg vl vp v' gs ls xs (qs ++ [x]) := by
  have hz := h.siz
  obtain ⟨o1, o2, o3, o4⟩ := h.out hg (row_own h.qr)
  have hown' : wr'.ownsRow (w.heap.size + 3) 3 1 v' (qs ++ [x]).length (cellsOf gC (qs ++ [x])) := by
    rw [cellsOf_snoc, List.length_append, List.length_singleton]
    exact new_rise h.qr hz hown hnew
  have hgq : vg.ownBlock = none ∨ vg.ownBlock ≠ vq.ownBlock := by
    cases hv : vg.ownBlock with
    | none => exact .inl rfl
    | some k => exact .inr (fun e => h.dq k hv e.symm)
  refine ⟨o1, o2, o3, h.gr.kept hg hgq, row_kept h.lr h.qr hg (by decide), row_kept h.pr h.qr hg (by decide), fun y hy => row_kept (h.po y hy) h.qr hg (by decide), hown', fun k hk e => ?_, o4, h.bwl⟩
  rcases hnew k (by simp [e]) with h1 | h1
  · exact h.dq k hk (by simpa using h1)
  · have := ownsRow_lt h.gr k (by simp [hk])
    omega
end
end Go.Proofs.YtmcfjlkjijaflaaGreatDoor

/- What a Parse of setups answers. -/
namespace Go.Proofs.YtmcfjlkjijaflaaGreatDoor
open Go.RowKit

/-- What a Parse answers. -/
def ParseSP (R : Stp × Int × Int) (w : World) (e : Ending) (w' : World) : Prop :=
  ∃ (ag : Option Addr) (bg og cg : Nat) (al : Option Addr) (bl ol cl : Nat) (ap : Option Addr) (bp op cp : Nat), e = .returned (.tuple #[.agg (stC R.1.1 R.1.2.1 ag R.1.2.2.1.length cg al R.1.2.2.2.1.length cl ap R.1.2.2.2.2.length cp), .int .i64 R.2.1, .int .i64 R.2.2]) ∧ SArg w' R.1 ag bg og al bl ol ap bp op ∧ Below w.heap.size w w'
theorem sarg_none (w : World) : SArg w noneS none 0 0 none 0 0 none 0 0 :=
  ⟨⟨fun h => absurd h (by decide), fun i hi => absurd hi (Nat.not_lt_zero _)⟩, ⟨fun h => absurd h (by decide), fun i hi => absurd hi (Nat.not_lt_zero _)⟩, ⟨fun h => absurd h (by decide), fun i hi => absurd hi (Nat.not_lt_zero _)⟩⟩
theorem parse_badS {R : Stp × Int × Int} {x y : Int} (h : R = (noneS, x, y)) {w w' : World} (hb : Below w.heap.size w w') : ParseSP R w (.returned (.tuple #[.agg zeroSt, .int .i64 x, .int .i64 y])) w' := by
  subst h
  exact ⟨none, 0, 0, 0, none, 0, 0, 0, none, 0, 0, 0, rfl, sarg_none w', hb⟩
theorem st_res {fn : Func} {p q r : Tmp} (hf : fn.results = #[.cell p 26, .tmp q, .tmp r]) {tmps : Array Value} {W : World} {B : Nat} {a b c d e x y : Value} (hp : tmps.getD p undef = .pointer (some ⟨B, 0, none⟩)) (hq : tmps.getD q undef = x) (hr : tmps.getD r undef = y) (h : W.heap[B]? = some (.cells #[a, b, c, d, e] 26 (0, 0))) :
    (results fn tmps).run Tryz.prog W = .ok (.tuple #[.agg #[a, b, c, d, e], x, y]) W := by
  obtain ⟨c0, c1, c2, c3, c4, _⟩ := five_cells h
  rw [results_cell_tmp2 hf, hp]
  simp [loadVar, go_sem, c0, c1, c2, c3, c4, ← hq, ← hr]
end Go.Proofs.YtmcfjlkjijaflaaGreatDoor
