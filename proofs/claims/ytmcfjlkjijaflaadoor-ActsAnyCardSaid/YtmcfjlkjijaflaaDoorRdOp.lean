/-
  The program's reader: op. (Made by gen_op.py.)
-/
import Derived.Test.YtmcfjlkjijaflaaDoorRdNum
import Derived.Test.YtmcfjlkjijaflaaDoorPgKind
namespace Go.Proofs.YtmcfjlkjijaflaaDoor
open Go.RowKit

/-- Where need leaves it: the place, the error. -/
def needQ (L : List Wd) (c : Nat) (e : Int) (x : Wd) : Nat × Int := if e = 0 ∧ nextR L c = x then (c + 1, 0) else (c, failE e 5)
theorem needQ_le {L : List Wd} {c : Nat} {e : Int} {x : Wd} (h : c ≤ L.length) (hx : x.1 ≠ 0) : (needQ L c e x).1 ≤ L.length := by
  unfold needQ
  split
  · next hh =>
    have := next_lt (L := L) (c := c) (by rw [hh.2]; exact hx)
    exact this
  · exact h
theorem rdnR_le {L : List Wd} {c : Nat} {lo hi e : Int} (h : c ≤ L.length) : (rdnR L c lo hi e).2.1 ≤ L.length := by
  unfold rdnR
  split
  · exact h
  · split
    · next n a ha => exact arg_le ha
    · next a k ha =>
      simp only
      unfold argR at ha
      split at ha
      · split at ha
        · split at ha
          · simp only [Except.error.injEq, Prod.mk.injEq] at ha; omega
          · cases ha
        · simp only [Except.error.injEq, Prod.mk.injEq] at ha; omega
      · simp only [Except.error.injEq, Prod.mk.injEq] at ha; omega
theorem need_any {w : World} {b : Nat} {ao : Option Addr} {bw off cap : Nat} {L : List Wd} {c : Nat} {e : Int} (h : RdI w b ao bw off cap L c e) (x : Wd) (hx0 : x.1 ≠ 0 := by simp) :
    Calls Tryd.prog 68 #[.pointer (some ⟨b, 0, none⟩), wdV x] w (StepP (.tuple #[]) w b ao L.length cap (needQ L c e x).1 (needQ L c e x).2) := by
  unfold needQ
  by_cases hh : e = 0 ∧ nextR L c = x
  · rw [if_pos hh]
    obtain ⟨rfl, hx⟩ := hh
    exact need_yes h (next_lt (by rw [hx]; exact hx0)) hx
  · rw [if_neg hh]
    exact need_no h (by
      by_cases he : e = 0
      · exact .inr fun hx => hh ⟨he, hx⟩
      · exact .inl he)
theorem op_res {fn : Func} {p : Tmp} (hf : fn.results = #[.cell p 39]) {tmps : Array Value} {w : World} {B : Nat} {a b c : Value} (hp : tmps.getD p undef = .pointer (some ⟨B, 0, none⟩)) (h : w.heap[B]? = some (.cells #[a, b, c] 39 (0, 0))) :
    (results fn tmps).run Tryd.prog w = .ok (.agg #[a, b, c]) w := by
  obtain ⟨h0, h1, h2⟩ := op_cells h
  rw [results_one hf, hp]
  simp [loadVar, go_sem, h0, h1, h2]
theorem op_set {w : World} {B : Nat} {a b c a' b' c' : Value} {t : TypeId} (h : w.heap[B]? = some (.cells #[a, b, c] t (0, 0))) :
    (((w.setCell ⟨B, 0, none⟩ a').setCell ⟨B, 1, none⟩ b').setCell ⟨B, 2, none⟩ c').heap[B]? = some (.cells #[a', b', c'] t (0, 0)) := by
  rw [heap_setCell_same _ _ _ _ _ _ (heap_setCell_same _ _ _ _ _ _ (heap_setCell_same _ _ _ _ _ _ h))]
  rfl
abbrev zeroO : Obj := .cells #[.int .i64 0, .int .i64 0, .int .i64 0] 39
/-- The boxes of op: its answer's, the shape's, the op's; the reader's. -/
structure OpF (w V : World) (b S : Nat) (sh : Array Value) (k x y : Int) (rc : Array Value) : Prop where
  res : V.heap[w.heap.size]? = some zeroO
  shp : V.heap[S]? = some (.cells sh 83 (0, 0))
  opb : V.heap[S + 1]? = some (.cells #[.int .i64 k, .int .i64 x, .int .i64 y] 39 (0, 0))
  rd : V.heap[b]? = some (.cells rc 115 (0, 0))
  tur : Turned [b] w V
  bw : b < w.heap.size
  sw : w.heap.size < S
theorem OpF.step {w V V' : World} {b S : Nat} {sh : Array Value} {k x y : Int} {rc rc' : Array Value} (h : OpF w V b S sh k x y rc) (t : Turned [b] V V') (hr : V'.heap[b]? = some (.cells rc' 115 (0, 0))) : OpF w V' b S sh k x y rc' := by
  have h1 := h.bw
  have h2 := h.sw
  exact ⟨t.same h.res (by simp; omega), t.same h.shp (by simp; omega), t.same h.opb (by simp; omega), hr, h.tur.trans t (Newer.refl _ _), h1, h2⟩
theorem OpF.below {w V V' : World} {b S : Nat} {sh : Array Value} {k x y : Int} {rc : Array Value} (h : OpF w V b S sh k x y rc) (hb : Below V.heap.size V V') : OpF w V' b S sh k x y rc :=
  h.step (turned_below hb [b]) ((hb.block _ (lt_of_block h.rd)).trans h.rd)
theorem OpF.setA {w V : World} {b S : Nat} {sh : Array Value} {k x y : Int} {rc : Array Value} (h : OpF w V b S sh k x y rc) (x' : Int) : OpF w (V.setCell ⟨S + 1, 1, none⟩ (.int .i64 x')) b S sh k x' y rc := by
  have h1 := h.bw
  have h2 := h.sw
  refine ⟨(Below.heap_setCell _ _ _ _ (by show w.heap.size ≠ S + 1; omega)).trans h.res, (Below.heap_setCell _ _ _ _ (by show S ≠ S + 1; omega)).trans h.shp, ?_, (Below.heap_setCell _ _ _ _ (by show b ≠ S + 1; omega)).trans h.rd, h.tur.setCell (.inr (by show w.heap.size ≤ S + 1; omega)) _, h1, h2⟩
  rw [heap_setCell_same _ _ _ _ _ _ h.opb]
  rfl
theorem OpF.setB {w V : World} {b S : Nat} {sh : Array Value} {k x y : Int} {rc : Array Value} (h : OpF w V b S sh k x y rc) (y' : Int) : OpF w (V.setCell ⟨S + 1, 2, none⟩ (.int .i64 y')) b S sh k x y' rc := by
  have h1 := h.bw
  have h2 := h.sw
  refine ⟨(Below.heap_setCell _ _ _ _ (by show w.heap.size ≠ S + 1; omega)).trans h.res, (Below.heap_setCell _ _ _ _ (by show S ≠ S + 1; omega)).trans h.shp, ?_, (Below.heap_setCell _ _ _ _ (by show b ≠ S + 1; omega)).trans h.rd, h.tur.setCell (.inr (by show w.heap.size ≤ S + 1; omega)) _, h1, h2⟩
  rw [heap_setCell_same _ _ _ _ _ _ h.opb]
  rfl
theorem OpF.start {w w3 : World} {b : Nat} {sh : Array Value} {k : Int} {rc : Array Value} (hr : w.heap[b]? = some (.cells rc 115 (0, 0))) (h : Below (w.alloc zeroO).heap.size (w.alloc zeroO) w3) :
    OpF w ((w3.alloc (.cells sh 83)).alloc (.cells #[.int .i64 k, .int .i64 0, .int .i64 0] 39)) b w3.heap.size sh k 0 0 rc := by
  obtain ⟨h1, h2⟩ := box_kept h
  have hb := lt_of_block hr
  have hl := lt_of_block h1
  have hz := heap_alloc_new (w3.alloc (.cells sh 83)) (.cells #[.int .i64 k, .int .i64 0, .int .i64 0] 39)
  rw [World.size_alloc] at hz
  exact ⟨(Below.heap_alloc _ _ _ (by simp; omega)).trans ((Below.heap_alloc _ _ _ hl).trans h1), (Below.heap_alloc _ _ _ (by simp)).trans (heap_alloc_new _ _), hz,
    (Below.heap_alloc _ _ _ (by simp; omega)).trans ((Below.heap_alloc _ _ _ (by omega)).trans ((h2.block _ hb).trans hr)), ((turned_below h2 [b]).alloc _).alloc _, hb, hl⟩
theorem OpF.fin {w V : World} {b S : Nat} {sh : Array Value} {k x y : Int} {rc : Array Value} (h : OpF w V b S sh k x y rc) (a' b' c' : Value) :
    (((V.setCell ⟨w.heap.size, 0, none⟩ a').setCell ⟨w.heap.size, 1, none⟩ b').setCell ⟨w.heap.size, 2, none⟩ c').heap[w.heap.size]? = some (.cells #[a', b', c'] 39 (0, 0)) ∧
    (((V.setCell ⟨w.heap.size, 0, none⟩ a').setCell ⟨w.heap.size, 1, none⟩ b').setCell ⟨w.heap.size, 2, none⟩ c').heap[b]? = some (.cells rc 115 (0, 0)) ∧
    Turned [b] w (((V.setCell ⟨w.heap.size, 0, none⟩ a').setCell ⟨w.heap.size, 1, none⟩ b').setCell ⟨w.heap.size, 2, none⟩ c') := by
  have hne : b ≠ w.heap.size := by have := h.bw; omega
  refine ⟨op_set h.res, ?_, ((h.tur.setCell (.inr (Nat.le_refl _)) _).setCell (.inr (Nat.le_refl _)) _).setCell (.inr (Nat.le_refl _)) _⟩
  rw [Below.heap_setCell _ _ _ _ hne, Below.heap_setCell _ _ _ _ hne, Below.heap_setCell _ _ _ _ hne]
  exact h.rd
/-- No op begins there. -/
theorem op_none {w : World} {b : Nat} {ao : Option Addr} {bw off cap : Nat} {L : List Wd} {c : Nat} {e : Int} (h : RdI w b ao bw off cap L c e) (hk : kindQ (nextR L c) = 0) :
    Calls Tryd.prog 88 #[.pointer (some ⟨b, 0, none⟩)] w (StepP (opV (0, 0, 0)) w b ao L.length cap c (failE e 5)) := by
  have h0 := h.below ((Below.refl _ w).alloc (Nat.le_refl _) zeroO)
  have HNX := Lib.hid (next_any h0)
  have HRD := Lib.hid (fun V (hV : Below (w.alloc zeroO).heap.size (w.alloc zeroO) V) => h0.below hV)
  have HKD := Lib.hid (fun W => kindof_any (nextR L c) W)
  rw [hk] at HKD
  obtain ⟨y, hy⟩ : ∃ y, nextR L c = y := ⟨_, rfl⟩
  simp only [hy] at HNX HKD
  obtain ⟨e5, he5⟩ : ∃ e5, failE e 5 = e5 := ⟨_, rfl⟩
  have HFL := Lib.hid (fun V (hV : RdI V b ao bw off cap L c e) => fail_any hV.rd 5)
  simp only [he5] at HFL ⊢
  have HBW := Lib.hid (lt_of_block h.rd)
  obtain ⟨yv, hyv⟩ : ∃ yv, wdV y = yv := ⟨_, rfl⟩
  simp only [hyv] at HNX HKD
  clear hy hyv hk he5 h h0
  go_enter Tryd.func88, Tryd.ntmps88
  go_wp2_with fail
  with_reducible refine HNX.out.mono ?_
  rintro r w1 ⟨rfl, hb1⟩
  have HB1 := Lib.hid hb1
  clear hb1
  go_wp2_with fail
  with_reducible refine (HKD.out _).mono ?_
  rintro r w2 ⟨rfl, hb2⟩
  have HB2 := Lib.hid (HB1.out.trans (hb2.mono HB1.out.size))
  clear hb2
  go_wp2_with fail
  with_reducible refine (HFL.out _ (HRD.out _ HB2.out)).mono ?_
  rintro r w3 ⟨rfl, hr, ht⟩
  obtain ⟨hx, hb2⟩ := box_kept HB2.out
  have hne : w.heap.size ∉ [b] := by have := HBW.out; simp; omega
  have HX3 := Lib.hid (ht.same hx hne)
  have HR3 := Lib.hid hr
  have HT3 := Lib.hid ((turned_below hb2 [b]).trans ht (Newer.refl _ _))
  have hnb : b ≠ w.heap.size := by have := HBW.out; omega
  have HNB := Lib.hid hnb
  clear hr ht hx hb2 hne hnb
  obtain ⟨c0, c1, c2⟩ := op_cells HX3.out
  have f0 := not_frozen HX3.out 0
  have f1 := not_frozen HX3.out 1
  have f2 := not_frozen HX3.out 2
  go_wp2
  refine bodyPost_ret (op_res rfl rfl (op_set HX3.out)) rfl ?_
  refine ⟨rfl, ?_, ((HT3.out.setCell (.inr (Nat.le_refl _)) _).setCell (.inr (Nat.le_refl _)) _).setCell (.inr (Nat.le_refl _)) _⟩
  rw [Below.heap_setCell _ _ _ _ HNB.out, Below.heap_setCell _ _ _ _ HNB.out, Below.heap_setCell _ _ _ _ HNB.out]
  exact HR3.out
set_option maxRecDepth 100000 in
set_option maxHeartbeats 6400000 in
theorem op_n0 {w : World} {b : Nat} {ao : Option Addr} {bw off cap : Nat} {L : List Wd} {c : Nat} {e : Int} (h : RdI w b ao bw off cap L c e) {k : Nat} (hk : kindQ (nextR L c) = k) (hk0 : k ≠ 0) (hn : shN (k : Int) = 0)
    {c1 : Nat} {e1 : Int} (h1 : needQ L c e (1, nameR (k : Int), 0, 0) = (c1, e1)) {c4 : Nat} {e4 : Int} (h4 : needQ L c1 e1 (3, [59], 0, 0) = (c4, e4)) :
    Calls Tryd.prog 88 #[.pointer (some ⟨b, 0, none⟩)] w (StepP (opV ((k : Int), 0, 0)) w b ao L.length cap c4 e4) := by
  have h0 := h.below ((Below.refl _ w).alloc (Nat.le_refl _) zeroO)
  have HNX := Lib.hid (next_any h0)
  have HRT := Lib.hid (fun V c' e' (t : Turned [b] w V) hr hc => h.turned (c' := c') (e' := e') t hr hc)
  have HKD := Lib.hid (fun W => kindof_any (nextR L c) W)
  rw [hk] at HKD
  have hsh := fun W => shape_any (k : Int) W
  obtain ⟨s, n, lo, hi, lo2, hi2, es, hs, hsn, hsa, hsb⟩ := shape_let (k : Int)
  rw [hn] at hsn
  subst hsn
  simp only [es] at hsh
  have HSH := Lib.hid hsh
  have HNM := Lib.hid (fun s W => pname_any s W)
  have HMK := Lib.hid (fun s W => pmark_any s W)
  have hN1 := fun V (hV : RdI V b ao bw off cap L c e) => need_any hV (1, nameR (k : Int), 0, 0)
  have hN4 := fun V (hV : RdI V b ao bw off cap L c1 e1) => need_any hV (3, [59], 0, 0)
  have hl1 : c1 ≤ L.length := by
    have := needQ_le (e := e) (x := (1, nameR (k : Int), 0, 0)) h.le (by show (1 : Int) ≠ 0; decide)
    rw [h1] at this
    exact this
  have et : (⟨(nameR (k : Int)).toArray⟩ : ByteArray) = s := by rw [← hs, Lib.mk_data]
  unfold wdV at hN1 hN4
  simp only [h1, h4, et] at hN1 hN4
  have HN1 := Lib.hid hN1
  have HN4 := Lib.hid hN4
  obtain ⟨y, hy⟩ : ∃ y, nextR L c = y := ⟨_, rfl⟩
  simp only [hy] at HNX HKD
  obtain ⟨yv, hyv⟩ : ∃ yv, wdV y = yv := ⟨_, rfl⟩
  simp only [hyv] at HNX HKD
  have HRD := Lib.hid h.rd
  have HLE := Lib.hid h.le
  have HL1 := Lib.hid hl1
  have hkb : ((k : Int) == 0) = false := by simp; omega
  clear hy hyv hk h h0 hN1 hN4 hsh hsa hsb es hs hn h1 h4 hk0 hl1 et
  go_enter Tryd.func88, Tryd.ntmps88
  go_wp2_with fail
  with_reducible refine HNX.out.mono ?_
  rintro r w1 ⟨rfl, hb1⟩
  have HB1 := Lib.hid hb1
  clear hb1
  go_wp2_with fail
  with_reducible refine (HKD.out _).mono ?_
  rintro r w2 ⟨rfl, hb2⟩
  have HB2 := Lib.hid (HB1.out.trans (hb2.mono HB1.out.size))
  clear hb2
  go_wp2_with fail
  with_reducible refine (HSH.out _).mono ?_
  rintro r w3 ⟨rfl, hb3⟩
  have HB3 := Lib.hid (HB2.out.trans (hb3.mono HB2.out.size))
  clear hb3
  have HF := Lib.hid (OpF.start (sh := #[.string s, .int .i64 0, .int .i64 lo, .int .i64 hi, .int .i64 lo2, .int .i64 hi2]) (k := (k : Int)) HRD.out HB3.out)
  have HW5 : Hid (∃ W5, (w3.alloc (.cells #[.string s, .int .i64 0, .int .i64 lo, .int .i64 hi, .int .i64 lo2, .int .i64 hi2] 83)).alloc (.cells #[.int .i64 (k : Int), .int .i64 0, .int .i64 0] 39) = W5) := ⟨_, rfl⟩
  go_wp2_with fail
  obtain ⟨W5, hW5⟩ := HW5.out
  rw [hW5] at HF ⊢
  clear hW5 HW5
  obtain ⟨S, hS⟩ : ∃ S, w3.heap.size = S := ⟨_, rfl⟩
  rw [hS] at HF ⊢
  clear hS
  with_reducible refine (HNM.out _ _).mono ?_
  rintro r w6 ⟨rfl, hb⟩
  have HF6 := Lib.hid (HF.out.below hb)
  clear hb
  go_wp2_with fail
  with_reducible refine (HN1.out _ (HRT.out _ _ _ HF6.out.tur HF6.out.rd HLE.out)).mono ?_
  rintro r w7 ⟨rfl, hr, ht⟩
  have HF7 := Lib.hid (HF6.out.step ht hr)
  clear hr ht
  obtain ⟨d0, d1, d2, d3, d4, d5⟩ := six_cells HF7.out.shp
  obtain ⟨o0, o1, o2⟩ := op_cells HF7.out.opb
  go_wp2_with fail
  with_reducible refine (HMK.out _ _).mono ?_
  rintro r w10 ⟨rfl, hb⟩
  have HF10 := Lib.hid (HF7.out.below hb)
  clear hb d0 d1 d2 d3 d4 d5 o0 o1 o2
  go_wp2_with fail
  with_reducible refine (HN4.out _ (HRT.out _ _ _ HF10.out.tur HF10.out.rd HL1.out)).mono ?_
  rintro r w11 ⟨rfl, hr, ht⟩
  have HF11 := Lib.hid (HF10.out.step ht hr)
  clear hr ht
  obtain ⟨o0, o1, o2⟩ := op_cells HF11.out.opb
  obtain ⟨r0, r1, r2⟩ := op_cells HF11.out.res
  have f0 := not_frozen HF11.out.res 0
  have f1 := not_frozen HF11.out.res 1
  have f2 := not_frozen HF11.out.res 2
  go_wp2
  refine bodyPost_ret (op_res rfl rfl (HF11.out.fin _ _ _).1) rfl ?_
  exact ⟨rfl, (HF11.out.fin _ _ _).2.1, (HF11.out.fin _ _ _).2.2⟩
set_option maxRecDepth 100000 in
set_option maxHeartbeats 6400000 in
theorem op_n1 {w : World} {b : Nat} {ao : Option Addr} {bw off cap : Nat} {L : List Wd} {c : Nat} {e : Int} (h : RdI w b ao bw off cap L c e) (hL : Clean L) {k : Nat} (hk : kindQ (nextR L c) = k) (hk0 : k ≠ 0) (hn : shN (k : Int) = 1)
    {c1 : Nat} {e1 : Int} (h1 : needQ L c e (1, nameR (k : Int), 0, 0) = (c1, e1)) {x : Int} {c2 : Nat} {e2 : Int} (h2 : rdnR L c1 (shA (k : Int)).1 (shA (k : Int)).2 e1 = (x, c2, e2)) {c4 : Nat} {e4 : Int} (h4 : needQ L c2 e2 (3, [59], 0, 0) = (c4, e4)) :
    Calls Tryd.prog 88 #[.pointer (some ⟨b, 0, none⟩)] w (StepP (opV ((k : Int), x, 0)) w b ao L.length cap c4 e4) := by
  have h0 := h.below ((Below.refl _ w).alloc (Nat.le_refl _) zeroO)
  have HNX := Lib.hid (next_any h0)
  have HRT := Lib.hid (fun V c' e' (t : Turned [b] w V) hr hc => h.turned (c' := c') (e' := e') t hr hc)
  have HKD := Lib.hid (fun W => kindof_any (nextR L c) W)
  rw [hk] at HKD
  have hsh := fun W => shape_any (k : Int) W
  obtain ⟨s, n, lo, hi, lo2, hi2, es, hs, hsn, hsa, hsb⟩ := shape_let (k : Int)
  rw [hn] at hsn
  subst hsn
  simp only [es] at hsh
  have HSH := Lib.hid hsh
  have HNM := Lib.hid (fun s W => pname_any s W)
  have HMK := Lib.hid (fun s W => pmark_any s W)
  have hN1 := fun V (hV : RdI V b ao bw off cap L c e) => need_any hV (1, nameR (k : Int), 0, 0)
  have hN4 := fun V (hV : RdI V b ao bw off cap L c2 e2) => need_any hV (3, [59], 0, 0)
  have hl1 : c1 ≤ L.length := by
    have := needQ_le (e := e) (x := (1, nameR (k : Int), 0, 0)) h.le (by show (1 : Int) ≠ 0; decide)
    rw [h1] at this
    exact this
  have hl8 : c2 ≤ L.length := by
    have := rdnR_le (lo := (shA (k : Int)).1) (hi := (shA (k : Int)).2) (e := e1) hl1
    rw [h2] at this
    exact this
  have HL8 := Lib.hid hl8
  have et : (⟨(nameR (k : Int)).toArray⟩ : ByteArray) = s := by rw [← hs, Lib.mk_data]
  unfold wdV at hN1 hN4
  simp only [h1, h4, et] at hN1 hN4
  have HN1 := Lib.hid hN1
  have HN4 := Lib.hid hN4
  have hNA := fun V (hV : RdI V b ao bw off cap L c1 e1) => number_any hV hL (shA (k : Int)).1 (shA (k : Int)).2
  simp only [hsa] at h2 hNA
  simp only [h2] at hNA
  have HNA := Lib.hid hNA
  clear hNA
  obtain ⟨y, hy⟩ : ∃ y, nextR L c = y := ⟨_, rfl⟩
  simp only [hy] at HNX HKD
  obtain ⟨yv, hyv⟩ : ∃ yv, wdV y = yv := ⟨_, rfl⟩
  simp only [hyv] at HNX HKD
  have HRD := Lib.hid h.rd
  have HLE := Lib.hid h.le
  have HL1 := Lib.hid hl1
  have hkb : ((k : Int) == 0) = false := by simp; omega
  clear hy hyv hk h h0 hN1 hN4 hsh hsa hsb es hs hn h1 h4 hL hk0 hl1 et h2 hl8
  go_enter Tryd.func88, Tryd.ntmps88
  go_wp2_with fail
  with_reducible refine HNX.out.mono ?_
  rintro r w1 ⟨rfl, hb1⟩
  have HB1 := Lib.hid hb1
  clear hb1
  go_wp2_with fail
  with_reducible refine (HKD.out _).mono ?_
  rintro r w2 ⟨rfl, hb2⟩
  have HB2 := Lib.hid (HB1.out.trans (hb2.mono HB1.out.size))
  clear hb2
  go_wp2_with fail
  with_reducible refine (HSH.out _).mono ?_
  rintro r w3 ⟨rfl, hb3⟩
  have HB3 := Lib.hid (HB2.out.trans (hb3.mono HB2.out.size))
  clear hb3
  have HF := Lib.hid (OpF.start (sh := #[.string s, .int .i64 1, .int .i64 lo, .int .i64 hi, .int .i64 lo2, .int .i64 hi2]) (k := (k : Int)) HRD.out HB3.out)
  have HW5 : Hid (∃ W5, (w3.alloc (.cells #[.string s, .int .i64 1, .int .i64 lo, .int .i64 hi, .int .i64 lo2, .int .i64 hi2] 83)).alloc (.cells #[.int .i64 (k : Int), .int .i64 0, .int .i64 0] 39) = W5) := ⟨_, rfl⟩
  go_wp2_with fail
  obtain ⟨W5, hW5⟩ := HW5.out
  rw [hW5] at HF ⊢
  clear hW5 HW5
  obtain ⟨S, hS⟩ : ∃ S, w3.heap.size = S := ⟨_, rfl⟩
  rw [hS] at HF ⊢
  clear hS
  with_reducible refine (HNM.out _ _).mono ?_
  rintro r w6 ⟨rfl, hb⟩
  have HF6 := Lib.hid (HF.out.below hb)
  clear hb
  go_wp2_with fail
  with_reducible refine (HN1.out _ (HRT.out _ _ _ HF6.out.tur HF6.out.rd HLE.out)).mono ?_
  rintro r w7 ⟨rfl, hr, ht⟩
  have HF7 := Lib.hid (HF6.out.step ht hr)
  clear hr ht
  obtain ⟨d0, d1, d2, d3, d4, d5⟩ := six_cells HF7.out.shp
  obtain ⟨o0, o1, o2⟩ := op_cells HF7.out.opb
  have fo1 := not_frozen HF7.out.opb 1
  go_wp2_with fail
  with_reducible refine (HNA.out _ (HRT.out _ _ _ HF7.out.tur HF7.out.rd HL1.out)).mono ?_
  rintro r w8 ⟨rfl, hr, ht⟩
  have hf := HF7.out.step ht hr
  have HF8 := Lib.hid (hf.setA x)
  clear hr ht d0 d1 d2 d3 d4 d5 o0 o1 o2 fo1
  obtain ⟨d0, d1, d2, d3, d4, d5⟩ := six_cells hf.shp
  obtain ⟨o0, o1, o2⟩ := op_cells hf.opb
  have fo1 := not_frozen hf.opb 1
  have HW9 : Hid (∃ W9, w8.setCell ⟨S + 1, 1, none⟩ (.int .i64 x) = W9) := ⟨_, rfl⟩
  clear hf
  go_wp2_with fail
  obtain ⟨W9, hW9⟩ := HW9.out
  rw [hW9] at HF8 ⊢
  clear hW9 HW9 d0 d1 d2 d3 d4 d5 o0 o1 o2 fo1
  obtain ⟨d0, d1, d2, d3, d4, d5⟩ := six_cells HF8.out.shp
  obtain ⟨o0, o1, o2⟩ := op_cells HF8.out.opb
  go_wp2_with fail
  with_reducible refine (HMK.out _ _).mono ?_
  rintro r w10 ⟨rfl, hb⟩
  have HF10 := Lib.hid (HF8.out.below hb)
  clear hb d0 d1 d2 d3 d4 d5 o0 o1 o2
  go_wp2_with fail
  with_reducible refine (HN4.out _ (HRT.out _ _ _ HF10.out.tur HF10.out.rd HL8.out)).mono ?_
  rintro r w11 ⟨rfl, hr, ht⟩
  have HF11 := Lib.hid (HF10.out.step ht hr)
  clear hr ht
  obtain ⟨o0, o1, o2⟩ := op_cells HF11.out.opb
  obtain ⟨r0, r1, r2⟩ := op_cells HF11.out.res
  have f0 := not_frozen HF11.out.res 0
  have f1 := not_frozen HF11.out.res 1
  have f2 := not_frozen HF11.out.res 2
  go_wp2
  refine bodyPost_ret (op_res rfl rfl (HF11.out.fin _ _ _).1) rfl ?_
  exact ⟨rfl, (HF11.out.fin _ _ _).2.1, (HF11.out.fin _ _ _).2.2⟩
set_option maxRecDepth 100000 in
set_option maxHeartbeats 6400000 in
theorem op_n2 {w : World} {b : Nat} {ao : Option Addr} {bw off cap : Nat} {L : List Wd} {c : Nat} {e : Int} (h : RdI w b ao bw off cap L c e) (hL : Clean L) {k : Nat} (hk : kindQ (nextR L c) = k) (hk0 : k ≠ 0) (hn : shN (k : Int) = 2)
    {c1 : Nat} {e1 : Int} (h1 : needQ L c e (1, nameR (k : Int), 0, 0) = (c1, e1)) {x : Int} {c2 : Nat} {e2 : Int} (h2 : rdnR L c1 (shA (k : Int)).1 (shA (k : Int)).2 e1 = (x, c2, e2)) {yy : Int} {c3 : Nat} {e3 : Int} (h3 : rdnR L c2 (shB (k : Int)).1 (shB (k : Int)).2 e2 = (yy, c3, e3)) {c4 : Nat} {e4 : Int} (h4 : needQ L c3 e3 (3, [59], 0, 0) = (c4, e4)) :
    Calls Tryd.prog 88 #[.pointer (some ⟨b, 0, none⟩)] w (StepP (opV ((k : Int), x, yy)) w b ao L.length cap c4 e4) := by
  have h0 := h.below ((Below.refl _ w).alloc (Nat.le_refl _) zeroO)
  have HNX := Lib.hid (next_any h0)
  have HRT := Lib.hid (fun V c' e' (t : Turned [b] w V) hr hc => h.turned (c' := c') (e' := e') t hr hc)
  have HKD := Lib.hid (fun W => kindof_any (nextR L c) W)
  rw [hk] at HKD
  have hsh := fun W => shape_any (k : Int) W
  obtain ⟨s, n, lo, hi, lo2, hi2, es, hs, hsn, hsa, hsb⟩ := shape_let (k : Int)
  rw [hn] at hsn
  subst hsn
  simp only [es] at hsh
  have HSH := Lib.hid hsh
  have HNM := Lib.hid (fun s W => pname_any s W)
  have HMK := Lib.hid (fun s W => pmark_any s W)
  have hN1 := fun V (hV : RdI V b ao bw off cap L c e) => need_any hV (1, nameR (k : Int), 0, 0)
  have hN4 := fun V (hV : RdI V b ao bw off cap L c3 e3) => need_any hV (3, [59], 0, 0)
  have hl1 : c1 ≤ L.length := by
    have := needQ_le (e := e) (x := (1, nameR (k : Int), 0, 0)) h.le (by show (1 : Int) ≠ 0; decide)
    rw [h1] at this
    exact this
  have hl8 : c2 ≤ L.length := by
    have := rdnR_le (lo := (shA (k : Int)).1) (hi := (shA (k : Int)).2) (e := e1) hl1
    rw [h2] at this
    exact this
  have HL8 := Lib.hid hl8
  have hl9 : c3 ≤ L.length := by
    have := rdnR_le (lo := (shB (k : Int)).1) (hi := (shB (k : Int)).2) (e := e2) hl8
    rw [h3] at this
    exact this
  have HL9 := Lib.hid hl9
  have et : (⟨(nameR (k : Int)).toArray⟩ : ByteArray) = s := by rw [← hs, Lib.mk_data]
  unfold wdV at hN1 hN4
  simp only [h1, h4, et] at hN1 hN4
  have HN1 := Lib.hid hN1
  have HN4 := Lib.hid hN4
  have hNA := fun V (hV : RdI V b ao bw off cap L c1 e1) => number_any hV hL (shA (k : Int)).1 (shA (k : Int)).2
  simp only [hsa] at h2 hNA
  simp only [h2] at hNA
  have HNA := Lib.hid hNA
  clear hNA
  have hNB := fun V (hV : RdI V b ao bw off cap L c2 e2) => number_any hV hL (shB (k : Int)).1 (shB (k : Int)).2
  simp only [hsb] at h3 hNB
  simp only [h3] at hNB
  have HNB := Lib.hid hNB
  clear hNB
  obtain ⟨y, hy⟩ : ∃ y, nextR L c = y := ⟨_, rfl⟩
  simp only [hy] at HNX HKD
  obtain ⟨yv, hyv⟩ : ∃ yv, wdV y = yv := ⟨_, rfl⟩
  simp only [hyv] at HNX HKD
  have HRD := Lib.hid h.rd
  have HLE := Lib.hid h.le
  have HL1 := Lib.hid hl1
  have hkb : ((k : Int) == 0) = false := by simp; omega
  clear hy hyv hk h h0 hN1 hN4 hsh hsa hsb es hs hn h1 h4 hL hk0 hl1 et h2 h3 hl8 hl9
  go_enter Tryd.func88, Tryd.ntmps88
  go_wp2_with fail
  with_reducible refine HNX.out.mono ?_
  rintro r w1 ⟨rfl, hb1⟩
  have HB1 := Lib.hid hb1
  clear hb1
  go_wp2_with fail
  with_reducible refine (HKD.out _).mono ?_
  rintro r w2 ⟨rfl, hb2⟩
  have HB2 := Lib.hid (HB1.out.trans (hb2.mono HB1.out.size))
  clear hb2
  go_wp2_with fail
  with_reducible refine (HSH.out _).mono ?_
  rintro r w3 ⟨rfl, hb3⟩
  have HB3 := Lib.hid (HB2.out.trans (hb3.mono HB2.out.size))
  clear hb3
  have HF := Lib.hid (OpF.start (sh := #[.string s, .int .i64 2, .int .i64 lo, .int .i64 hi, .int .i64 lo2, .int .i64 hi2]) (k := (k : Int)) HRD.out HB3.out)
  have HW5 : Hid (∃ W5, (w3.alloc (.cells #[.string s, .int .i64 2, .int .i64 lo, .int .i64 hi, .int .i64 lo2, .int .i64 hi2] 83)).alloc (.cells #[.int .i64 (k : Int), .int .i64 0, .int .i64 0] 39) = W5) := ⟨_, rfl⟩
  go_wp2_with fail
  obtain ⟨W5, hW5⟩ := HW5.out
  rw [hW5] at HF ⊢
  clear hW5 HW5
  obtain ⟨S, hS⟩ : ∃ S, w3.heap.size = S := ⟨_, rfl⟩
  rw [hS] at HF ⊢
  clear hS
  with_reducible refine (HNM.out _ _).mono ?_
  rintro r w6 ⟨rfl, hb⟩
  have HF6 := Lib.hid (HF.out.below hb)
  clear hb
  go_wp2_with fail
  with_reducible refine (HN1.out _ (HRT.out _ _ _ HF6.out.tur HF6.out.rd HLE.out)).mono ?_
  rintro r w7 ⟨rfl, hr, ht⟩
  have HF7 := Lib.hid (HF6.out.step ht hr)
  clear hr ht
  obtain ⟨d0, d1, d2, d3, d4, d5⟩ := six_cells HF7.out.shp
  obtain ⟨o0, o1, o2⟩ := op_cells HF7.out.opb
  have fo1 := not_frozen HF7.out.opb 1
  go_wp2_with fail
  with_reducible refine (HNA.out _ (HRT.out _ _ _ HF7.out.tur HF7.out.rd HL1.out)).mono ?_
  rintro r w8 ⟨rfl, hr, ht⟩
  have hf := HF7.out.step ht hr
  have HF8 := Lib.hid (hf.setA x)
  clear hr ht d0 d1 d2 d3 d4 d5 o0 o1 o2 fo1
  obtain ⟨d0, d1, d2, d3, d4, d5⟩ := six_cells hf.shp
  obtain ⟨o0, o1, o2⟩ := op_cells hf.opb
  have fo1 := not_frozen hf.opb 1
  have HW9 : Hid (∃ W9, w8.setCell ⟨S + 1, 1, none⟩ (.int .i64 x) = W9) := ⟨_, rfl⟩
  clear hf
  go_wp2_with fail
  obtain ⟨W9, hW9⟩ := HW9.out
  rw [hW9] at HF8 ⊢
  clear hW9 HW9 d0 d1 d2 d3 d4 d5 o0 o1 o2 fo1
  obtain ⟨d0, d1, d2, d3, d4, d5⟩ := six_cells HF8.out.shp
  obtain ⟨o0, o1, o2⟩ := op_cells HF8.out.opb
  have fo2 := not_frozen HF8.out.opb 2
  go_wp2_with fail
  with_reducible refine (HNB.out _ (HRT.out _ _ _ HF8.out.tur HF8.out.rd HL8.out)).mono ?_
  rintro r w9 ⟨rfl, hr, ht⟩
  have hf := HF8.out.step ht hr
  have HF9 := Lib.hid (hf.setB yy)
  clear hr ht d0 d1 d2 d3 d4 d5 o0 o1 o2 fo2
  obtain ⟨d0, d1, d2, d3, d4, d5⟩ := six_cells hf.shp
  obtain ⟨o0, o1, o2⟩ := op_cells hf.opb
  have fo2 := not_frozen hf.opb 2
  have HW9 : Hid (∃ W9, w9.setCell ⟨S + 1, 2, none⟩ (.int .i64 yy) = W9) := ⟨_, rfl⟩
  clear hf
  go_wp2_with fail
  obtain ⟨W10, hW10⟩ := HW9.out
  rw [hW10] at HF9 ⊢
  clear hW10 HW9 d0 d1 d2 d3 d4 d5 o0 o1 o2 fo2
  obtain ⟨d0, d1, d2, d3, d4, d5⟩ := six_cells HF9.out.shp
  obtain ⟨o0, o1, o2⟩ := op_cells HF9.out.opb
  go_wp2_with fail
  with_reducible refine (HMK.out _ _).mono ?_
  rintro r w10 ⟨rfl, hb⟩
  have HF10 := Lib.hid (HF9.out.below hb)
  clear hb d0 d1 d2 d3 d4 d5 o0 o1 o2
  go_wp2_with fail
  with_reducible refine (HN4.out _ (HRT.out _ _ _ HF10.out.tur HF10.out.rd HL9.out)).mono ?_
  rintro r w11 ⟨rfl, hr, ht⟩
  have HF11 := Lib.hid (HF10.out.step ht hr)
  clear hr ht
  obtain ⟨o0, o1, o2⟩ := op_cells HF11.out.opb
  obtain ⟨r0, r1, r2⟩ := op_cells HF11.out.res
  have f0 := not_frozen HF11.out.res 0
  have f1 := not_frozen HF11.out.res 1
  have f2 := not_frozen HF11.out.res 2
  go_wp2
  refine bodyPost_ret (op_res rfl rfl (HF11.out.fin _ _ _).1) rfl ?_
  exact ⟨rfl, (HF11.out.fin _ _ _).2.1, (HF11.out.fin _ _ _).2.2⟩
end Go.Proofs.YtmcfjlkjijaflaaDoor
