/-
  The program's Parse.
-/
import Derived.Test.YtmcfjlkjijaflaaDoorRdProg
namespace Go.Proofs.YtmcfjlkjijaflaaDoor
open Go.RowKit

/-- What the reader's prog answers. -/
def ProgG (Q : Bool → List Opn → Nat → Int → Prop) (L : List Wd) (w : World) (b : Nat) (ao : Option Addr) (cap : Nat) (r : Ending) (w' : World) : Prop :=
  ∃ (f : Bool) (v : Value) (ops : List Opn) (c : Nat) (e : Int), r = .returned (.agg #[.bool f, v]) ∧ w'.heap[b]? = some (.cells (rdC ao L.length cap c e) 115 (0, 0)) ∧ Turned [b] w w' ∧ ORow w.heap.size w' v ops ∧ c ≤ L.length ∧ Q f ops c e
set_option maxRecDepth 100000 in
set_option maxHeartbeats 6400000 in
theorem prog_gen {Q : Bool → List Opn → Nat → Int → Prop} {w : World} {b : Nat} {ao : Option Addr} {bw off cap : Nat} {L : List Wd} {a : Nat} {e0 : Int} (h : RdI w b ao bw off cap L a e0) (hL : Clean L)
    (hQ : ∀ c1 e1 f c2 e2 c3 e3 ops c4 e4, needQ L a e0 (1, progB, 0, 0) = (c1, e1) → tkQ L c1 e1 (1, foreverB, 0, 0) = (f, c2, e2) → needQ L c2 e2 (3, [123], 0, 0) = (c3, e3) → OpsQ L c3 e3 ops c4 e4 → Q f ops (needQ L c4 e4 (3, [125], 0, 0)).1 (needQ L c4 e4 (3, [125], 0, 0)).2) :
    Calls Tryd.prog 46 #[.pointer (some ⟨b, 0, none⟩)] w (ProgG Q L w b ao cap) := by
  have HRT := Lib.hid (fun V c' e' (t : Turned [b] w V) hr hc => h.turned (c' := c') (e' := e') t hr hc)
  have HCL := Lib.hid hL
  have HLE := Lib.hid h.le
  have HNM := Lib.hid (fun s W => pname_any s W)
  have HMK := Lib.hid (fun s W => pmark_any s W)
  have HF0 := Lib.hid (PF.start h.rd)
  obtain ⟨c1, e1, q1⟩ : ∃ c1 e1, needQ L a e0 (1, progB, 0, 0) = (c1, e1) := ⟨_, _, rfl⟩
  obtain ⟨f, c2, e2, q2⟩ : ∃ f c2 e2, tkQ L c1 e1 (1, foreverB, 0, 0) = (f, c2, e2) := ⟨_, _, _, rfl⟩
  obtain ⟨c3, e3, q3⟩ : ∃ c3 e3, needQ L c2 e2 (3, [123], 0, 0) = (c3, e3) := ⟨_, _, rfl⟩
  have HPL := Lib.hid (fun ops c4 e4 (h4 : OpsQ L c3 e3 ops c4 e4) => hQ c1 e1 f c2 e2 c3 e3 ops c4 e4 q1 q2 q3 h4)
  have HLN := Lib.hid (fun c4 e4 (h4 : c4 ≤ L.length) => needQ_le (L := L) (c := c4) (e := e4) (x := (3, [125], 0, 0)) h4 (by show (3 : Int) ≠ 0; decide))
  have l1 : c1 ≤ L.length := by
    have := needQ_le (e := e0) (x := (1, progB, 0, 0)) h.le (by show (1 : Int) ≠ 0; decide)
    rw [q1] at this
    exact this
  have l2 : c2 ≤ L.length := by
    have := tkQ_le (e := e1) (x := (1, foreverB, 0, 0)) l1 (by show (1 : Int) ≠ 0; decide)
    rw [q2] at this
    exact this
  have l3 : c3 ≤ L.length := by
    have := needQ_le (e := e2) (x := (3, [123], 0, 0)) l2 (by show (3 : Int) ≠ 0; decide)
    rw [q3] at this
    exact this
  have hN1 := fun V (hV : RdI V b ao bw off cap L a e0) => need_any hV (1, progB, 0, 0)
  have hN2 := fun V (hV : RdI V b ao bw off cap L c1 e1) => take_any hV (1, foreverB, 0, 0)
  have hN3 := fun V (hV : RdI V b ao bw off cap L c2 e2) => need_any hV (3, [123], 0, 0)
  have hN4 := fun V (hV : RdI V b ao bw off cap L c3 e3) => ops_both hV hL
  have hN5 := fun V c4 e4 (hV : RdI V b ao bw off cap L c4 e4) => need_any hV (3, [125], 0, 0)
  unfold wdV at hN1 hN2 hN3 hN5
  simp only [q1, q2, q3] at hN1 hN2 hN3
  simp only at hN5
  have HN1 := Lib.hid hN1
  have HN2 := Lib.hid hN2
  have HN3 := Lib.hid hN3
  have HN4 := Lib.hid hN4
  have HN5 := Lib.hid hN5
  have HL1 := Lib.hid l1
  have HL2 := Lib.hid l2
  have HL3 := Lib.hid l3
  clear hN1 hN2 hN3 hN4 hN5 q1 q2 q3 l1 l2 l3 h hL
  go_enter Tryd.func46, Tryd.ntmps46
  have HW0 : Hid (∃ W0, (w.alloc zeroP).alloc zeroP = W0) := ⟨_, rfl⟩
  go_wp2_with fail
  obtain ⟨W0, hW0⟩ := HW0.out
  rw [hW0] at HF0
  simp only [hW0]
  clear hW0 HW0
  with_reducible refine (HNM.out _ _).mono ?_
  rintro r w1 ⟨rfl, hb⟩
  have HF1 := Lib.hid (HF0.out.below hb)
  clear hb
  go_wp2_with fail
  with_reducible refine (HN1.out _ (HRT.out _ _ _ HF1.out.tur HF1.out.rd HLE.out)).mono ?_
  rintro r w2 ⟨rfl, hr, ht⟩
  have HF2 := Lib.hid (HF1.out.step ht hr)
  clear hr ht
  go_wp2_with fail
  with_reducible refine (HNM.out _ _).mono ?_
  rintro r w3 ⟨rfl, hb⟩
  have HF3 := Lib.hid (HF2.out.below hb)
  clear hb
  go_wp2_with fail
  with_reducible refine (HN2.out _ (HRT.out _ _ _ HF3.out.tur HF3.out.rd HL1.out)).mono ?_
  rintro r w4 ⟨rfl, hr, ht⟩
  have hf := HF3.out.step ht hr
  have HF4 := Lib.hid (hf.setF f)
  clear hr ht
  obtain ⟨p0, p1⟩ := two_cells hf.prg
  have fp0 := not_frozen hf.prg 0
  have HW5 : Hid (∃ W5, w4.setCell ⟨w.heap.size + 1, 0, none⟩ (.bool f) = W5) := ⟨_, rfl⟩
  clear hf
  go_wp2_with fail
  obtain ⟨W5, hW5⟩ := HW5.out
  rw [hW5] at HF4 ⊢
  clear hW5 HW5 p0 p1 fp0
  with_reducible refine (HMK.out _ _).mono ?_
  rintro r w6 ⟨rfl, hb⟩
  have HF6 := Lib.hid (HF4.out.below hb)
  clear hb
  go_wp2_with fail
  with_reducible refine (HN3.out _ (HRT.out _ _ _ HF6.out.tur HF6.out.rd HL2.out)).mono ?_
  rintro r w7 ⟨rfl, hr, ht⟩
  have HF7 := Lib.hid (HF6.out.step ht hr)
  clear hr ht
  go_wp2_with fail
  refine (HN4.out _ (HRT.out _ _ _ HF7.out.tur HF7.out.rd HL3.out)).mono ?_
  rintro r w8 ⟨v, ops, c4, e4, rfl, hr, ht, hrow, hle4, hq4⟩
  have hf := HF7.out.step ht hr
  have HRW := Lib.hid (row_base hrow HF7.out.siz)
  have HF8 := Lib.hid (hf.setO v)
  have HPQ := Lib.hid (HPL.out ops c4 e4 hq4)
  have HL4 := Lib.hid hle4
  obtain ⟨aov, capv, hv, _⟩ := ownsRow_shape hrow
  obtain ⟨m, hm⟩ : ∃ m, ops.length = m := ⟨_, rfl⟩
  have HM := Lib.hid hm
  subst hv
  rw [hm] at HRW HF8 ⊢
  clear hr ht hrow hle4 hq4 hm
  obtain ⟨p0, p1⟩ := two_cells hf.prg
  have fp1 := not_frozen hf.prg 1
  have HW9 : Hid (∃ W9, w8.setCell ⟨w.heap.size + 1, 1, none⟩ (.slice aov m capv) = W9) := ⟨_, rfl⟩
  clear hf
  go_wp2_with fail
  have HRW2 := Lib.hid (row_same (w' := w8.setCell ⟨w.heap.size + 1, 1, none⟩ (.slice aov m capv)) HRW.out (fun k hk hl => Below.heap_setCell _ _ _ _ (by show k ≠ w.heap.size + 1; omega)))
  obtain ⟨W9, hW9⟩ := HW9.out
  rw [hW9] at HF8 HRW2 ⊢
  clear hW9 HW9 p0 p1 fp1
  with_reducible refine (HMK.out _ _).mono ?_
  rintro r w10 ⟨rfl, hb⟩
  have HF10 := Lib.hid (HF8.out.below hb)
  have HRW3 := Lib.hid (row_below HRW2.out hb)
  clear hb
  go_wp2_with fail
  with_reducible refine (HN5.out _ _ _ (HRT.out _ _ _ HF10.out.tur HF10.out.rd HL4.out)).mono ?_
  rintro r w11 ⟨rfl, hr, ht⟩
  have HF11 := Lib.hid (HF10.out.step ht hr)
  have HRW4 := Lib.hid (row_turned HRW3.out ht (by have := HF10.out.bw; omega))
  clear hr ht
  obtain ⟨p0, p1⟩ := two_cells HF11.out.prg
  obtain ⟨r0, r1⟩ := two_cells HF11.out.res
  have f0 := not_frozen HF11.out.res 0
  have f1 := not_frozen HF11.out.res 1
  have hrw : ORow (w.heap.size + 2) w11 (.slice aov m capv) ops := by
    unfold ORow
    rw [HM.out]
    exact HRW4.out
  have HFIN := Lib.hid (fun x y => HF11.out.fin hrw x y)
  clear hrw
  go_wp2
  refine bodyPost_ret (prog_res rfl rfl (HFIN.out _ _).1) rfl ?_
  exact ⟨f, _, ops, _, _, rfl, (HFIN.out _ _).2.1, (HFIN.out _ _).2.2.1, (HFIN.out _ _).2.2.2, HLN.out _ _ HL4.out, HPQ.out⟩
theorem prog_any {w : World} {b : Nat} {ao : Option Addr} {bw off cap : Nat} {L : List Wd} {a : Nat} (h : RdI w b ao bw off cap L a 0) (hL : Clean L) :
    Calls Tryd.prog 46 #[.pointer (some ⟨b, 0, none⟩)] w (ProgG (ProgQ L a) L w b ao cap) :=
  prog_gen h hL fun _ _ _ _ _ _ _ _ _ _ q1 q2 q3 h4 => prog_plain hL h.le q1 q2 q3 h4 rfl
/-- .. of a reader that can't go on. -/
theorem prog_stuck {w : World} {b : Nat} {ao : Option Addr} {bw off cap : Nat} {L : List Wd} {a : Nat} {e0 : Int} (h : RdI w b ao bw off cap L a e0) (hL : Clean L) (he : e0 ≠ 0) :
    Calls Tryd.prog 46 #[.pointer (some ⟨b, 0, none⟩)] w (ProgG (fun _ _ c e => c = a ∧ e = e0) L w b ao cap) :=
  prog_gen h hL fun c1 e1 f c2 e2 c3 e3 ops c4 e4 q1 q2 q3 h4 => by
    rw [need_dead he] at q1
    simp only [Prod.mk.injEq] at q1
    obtain ⟨rfl, rfl⟩ := q1
    unfold tkQ at q2
    rw [if_neg (fun h => he h.1)] at q2
    simp only [Prod.mk.injEq] at q2
    obtain ⟨_, rfl, rfl⟩ := q2
    rw [need_dead he] at q3
    simp only [Prod.mk.injEq] at q3
    obtain ⟨rfl, rfl⟩ := q3
    rcases h4 with ⟨_, _, rfl, rfl⟩ | ⟨h0, _⟩
    · rw [need_dead he]
      exact ⟨rfl, rfl⟩
    · exact absurd h0 he
theorem parse_start {w : World} {ao : Option Addr} {bw off cap : Nat} {L : List Wd} {a : Nat} {e0 : Int} (h : WArg w ao bw off L) (hl : L.length ≤ 100000) (ha : a ≤ L.length) :
    RdI ((w.alloc zeroP).alloc (.cells (rdC ao L.length cap a e0) 115)) (w.heap.size + 1) ao bw off cap L a e0 ∧
    ((w.alloc zeroP).alloc (.cells (rdC ao L.length cap a e0) 115)).heap[w.heap.size]? = some zeroP ∧
    Below w.heap.size w ((w.alloc zeroP).alloc (.cells (rdC ao L.length cap a e0) 115)) ∧ ((w.alloc zeroP).alloc (.cells (rdC ao L.length cap a e0) 115)).heap.size = w.heap.size + 2 := by
  have hb : Below w.heap.size w ((w.alloc zeroP).alloc (.cells (rdC ao L.length cap a e0) 115)) := ((Below.refl _ w).alloc (Nat.le_refl _) _).alloc (by simp) _
  have hr := heap_alloc_new (w.alloc zeroP) (.cells (rdC ao L.length cap a e0) 115)
  rw [show (w.alloc zeroP).heap.size = w.heap.size + 1 by simp] at hr
  refine ⟨⟨hr, h.below hb, fun h0 => ?_, ha, hl⟩, (Below.heap_alloc _ _ _ (by simp)).trans (heap_alloc_new w _), hb, by simp⟩
  have := (h.at_ h0).2
  omega
/-- Behind prog: the answer's box, the reader's, the program's. -/
theorem parse_behind {w W1 w2 : World} {rc : Array Value} {f : Bool} {v : Value} (h0 : W1.heap[w.heap.size]? = some zeroP) (hb : Below w.heap.size w W1) (ht : Turned [w.heap.size + 1] W1 w2) (hr : w2.heap[w.heap.size + 1]? = some (.cells rc 115 (0, 0))) :
    ∀ V, Below (w2.alloc (.cells #[.bool f, v] 24)).heap.size (w2.alloc (.cells #[.bool f, v] 24)) V →
      V.heap[w.heap.size]? = some zeroP ∧ V.heap[w.heap.size + 1]? = some (.cells rc 115 (0, 0)) ∧ V.heap[w2.heap.size]? = some (.cells #[.bool f, v] 24 (0, 0)) ∧ Below w.heap.size w V ∧ Below w2.heap.size w2 V ∧ w.heap.size + 2 ≤ w2.heap.size := by
  intro V hV
  obtain ⟨h1, h2⟩ := box_kept hV
  have hl := lt_of_block hr
  have ht2 : Below w.heap.size w w2 := hb.trans (ht.below (by simp) hb.size)
  exact ⟨(h2.block _ (by omega)).trans (ht.same h0 (by simp)), (h2.block _ hl).trans hr, h1, ht2.trans (h2.mono ht2.size), h2, hl⟩
theorem row_same2 {w w' : World} {base : Nat} {e : TypeId} {size : Nat} {v : Value} {n : Nat} {xs : List Value} (h : w.ownsRow base e size v n xs) (hs : ∀ k, v.ownBlock = some k → w'.heap[k]? = w.heap[k]?) : w'.ownsRow base e size v n xs :=
  ownsRow_same h fun k hk _ => hs k (by simpa using hk)
theorem ret_store {w V : World} {f : Bool} {v : Value} (h : V.heap[w.heap.size]? = some zeroP) (hb : Below w.heap.size w V) :
    ((V.setCell ⟨w.heap.size, 0, none⟩ (.bool f)).setCell ⟨w.heap.size, 1, none⟩ v).heap[w.heap.size]? = some (.cells #[.bool f, v] 24 (0, 0)) ∧ Below w.heap.size w ((V.setCell ⟨w.heap.size, 0, none⟩ (.bool f)).setCell ⟨w.heap.size, 1, none⟩ v) :=
  ⟨two_stored h, (hb.setCell (Nat.le_refl _) _).setCell (Nat.le_refl _) _⟩
theorem pread_in (ao : Option Addr) (n cap a : Nat) (w : World) (ha : a ≤ n) :
    Calls Tryd.prog 45 #[.slice ao n cap, .int .i64 a] w fun r w' => r = .returned (.pointer (some ⟨w.heap.size, 0, none⟩)) ∧ w' = w.alloc (.cells (rdC ao n cap a 0) 115) := by
  have hgn : ¬ (n : Int) < (a : Int) := by omega
  have hg0 : ¬ (a : Int) < 0 := by omega
  go_enter Tryd.func45, Tryd.ntmps45
  go_wp2
  go_ret
  exact ⟨rfl, rfl⟩
theorem pread_out (ao : Option Addr) (n cap : Nat) (a : Int) (w : World) (ha : a < 0 ∨ (n : Int) < a) :
    Calls Tryd.prog 45 #[.slice ao n cap, .int .i64 a] w fun r w' => r = .returned (.pointer (some ⟨w.heap.size, 0, none⟩)) ∧ w' = w.alloc (.cells (rdC none 0 0 0 5) 115) := by
  by_cases hg0 : a < 0
  · clear ha
    go_enter Tryd.func45, Tryd.ntmps45
    go_wp2
    go_ret
    exact ⟨rfl, rfl⟩
  · have hgn : (n : Int) < a := by omega
    clear ha
    go_enter Tryd.func45, Tryd.ntmps45
    go_wp2
    go_ret
    exact ⟨rfl, rfl⟩
theorem met_any {w : World} {b : Nat} {ao : Option Addr} {n cap c : Nat} {e : Int} (h : w.heap[b]? = some (.cells (rdC ao n cap c e) 115 (0, 0))) :
    Calls Tryd.prog 47 #[.pointer (some ⟨b, 0, none⟩)] w fun r w' => r = .returned (.tuple #[.int .i64 c, .int .i64 e]) ∧ ∃ q, w' = w.drewN q := by
  obtain ⟨d0, d1, d2⟩ := three_cells h
  clear h
  go_enter Tryd.func47, Tryd.ntmps47
  go_wp2_with fail
  go_quiet (fail)
  go_wp2
  go_ret2
  exact ⟨rfl, _, rfl⟩
set_option maxRecDepth 100000 in
set_option maxHeartbeats 6400000 in
theorem pparse_gen {Q : Bool → List Opn → Nat → Int → Prop} (ao : Option Addr) (b off cap : Nat) (L : List Wd) (a : Nat) (e0 : Int) (vs : Value) (iat : Value) (w : World) (h : WArg w ao b off L) (hm : L.length ≤ 100000) (ha : a ≤ L.length)
    (hread : ∀ w, Calls Tryd.prog 45 #[vs, iat] w fun r w' => r = .returned (.pointer (some ⟨w.heap.size, 0, none⟩)) ∧ w' = w.alloc (.cells (rdC ao L.length cap a e0) 115))
    (hp : ∀ W B, RdI W B ao b off cap L a e0 → Calls Tryd.prog 46 #[.pointer (some ⟨B, 0, none⟩)] W (ProgG Q L W B ao cap))
    (R : Prg × Int × Int) (hR : ∀ f ops c e, Q f ops c e → (e = 0 ∧ R = ((f, ops), (c : Int), 0)) ∨ (e ≠ 0 ∧ R = ((false, []), (c : Int), e))) :
    Calls Tryd.prog 16 #[vs, iat] w (ParseP R w) := by
  obtain ⟨s1, s2, s3, s4⟩ := parse_start (cap := cap) (e0 := e0) h hm ha
  have hp := hp _ _ s1
  have HR := Lib.hid hR
  obtain ⟨n, hn⟩ : ∃ n, L.length = n := ⟨_, rfl⟩
  unfold ProgG at hp
  rw [hn] at hp s2 s3 s4 hread
  have HP := Lib.hid hp
  have HS2 := Lib.hid s2
  have HS3 := Lib.hid s3
  have HS4 := Lib.hid s4
  have HRD := Lib.hid (hread (w.alloc zeroP))
  clear s1 s2 s3 s4 hp hR hn h ha hm hread
  go_enter Tryd.func16, Tryd.ntmps16
  go_wp2_with fail
  with_reducible refine HRD.out.mono ?_
  rintro r w1 ⟨rfl, rfl⟩
  go_wp2_with fail
  refine HP.out.mono ?_
  rintro r w2 ⟨f, v, ops, c, e, rfl, hr, ht, hrow, -, hq⟩
  have HX := Lib.hid (parse_behind (f := f) (v := v) HS2.out HS3.out ht hr)
  have HROW := Lib.hid (row_base hrow (by rw [HS4.out]; omega : w.heap.size ≤ _))
  obtain ⟨aov, capv, hv, _⟩ := ownsRow_shape hrow
  subst hv
  obtain ⟨m, hm⟩ : ∃ m, ops.length = m := ⟨_, rfl⟩
  have HM := Lib.hid hm
  have HQ := Lib.hid (HR.out _ _ _ _ hq)
  rw [hm] at HX HROW ⊢
  have hl2 : w.heap.size + 1 < w2.heap.size := lt_of_block hr
  clear hr ht hrow hq hm
  have HW3 : Hid (∃ W3, w2.alloc (.cells #[.bool f, .slice aov m capv] 24) = W3) := ⟨_, rfl⟩
  go_wp2_with fail
  obtain ⟨W3, hW3⟩ := HW3.out
  rw [hW3] at HX
  simp only [hW3]
  clear hW3 HW3
  with_reducible refine (met_any (HX.out W3 (Below.refl _ _)).2.1).mono ?_
  rintro r V ⟨rfl, q, rfl⟩
  have HH := Lib.hid (HX.out (W3.drewN q) (below_drewN (Below.refl _ _) q))
  obtain ⟨V, hV⟩ : ∃ V, W3.drewN q = V := ⟨_, rfl⟩
  rw [hV] at HH ⊢
  clear hV
  have n1 : w.heap.size + 1 ≠ w.heap.size := by omega
  have n2 : w2.heap.size ≠ w.heap.size := by omega
  obtain ⟨z0, z1⟩ := two_cells HH.out.1
  have f0 := not_frozen HH.out.1 0
  have f1 := not_frozen HH.out.1 1
  obtain ⟨p0, p1⟩ := two_cells HH.out.2.2.1
  by_cases he : e = 0
  · subst he
    have hR : R = ((f, ops), (c : Int), 0) := by
      rcases HQ.out with ⟨_, h⟩ | ⟨h, _⟩
      · exact h
      · exact absurd rfl h
    have HRR := Lib.hid hR
    clear hR
    go_wp2
    have hst := ret_store (f := f) (v := .slice aov m capv) HH.out.1 HH.out.2.2.2.1
    refine bodyPost_ret (prg_result2 rfl rfl rfl rfl hst.1) rfl ?_
    have hrow : ORow w.heap.size w2 (.slice aov m capv) ops := by
      unfold ORow
      rw [HM.out]
      exact HROW.out
    have hrow3 : ORow w.heap.size V (.slice aov m capv) ops := row_below hrow HH.out.2.2.2.2.1
    have hoff := block_off HH.out.1 hrow3 (by decide)
    refine parse_good HRR.out (row_same2 hrow3 fun k hk => ?_) hst.2
    have hne : k ≠ w.heap.size := by
      rintro rfl
      exact hoff (by simpa using hk.symm)
    exact (Below.heap_setCell (V.setCell ⟨w.heap.size, 0, none⟩ (.bool f)) ⟨w.heap.size, 1, none⟩ (.slice aov m capv) k hne).trans (Below.heap_setCell V ⟨w.heap.size, 0, none⟩ (.bool f) k hne)
  · have hR : R = ((false, []), (c : Int), e) := by
      rcases HQ.out with ⟨h, _⟩ | ⟨_, h⟩
      · exact absurd h he
      · exact h
    have HRR := Lib.hid hR
    have he1 : (e != 0) = true := by simpa using he
    clear hR he p0 p1
    go_wp2
    have hst := ret_store (f := false) (v := .slice none 0 0) HH.out.1 HH.out.2.2.2.1
    refine bodyPost_ret (prg_result2 rfl rfl rfl rfl hst.1) rfl ?_
    exact parse_bad HRR.out hst.2
theorem clean_nil : Clean [] := fun x hx => by cases hx
theorem WArg.nil (w : World) (b off : Nat) : WArg w none b off [] := ⟨fun h => absurd h (Nat.lt_irrefl 0), fun i hi => absurd hi (Nat.not_lt_zero i)⟩
theorem pparse_out (ao : Option Addr) (cap : Nat) (L : List Wd) (at_ : Int) (w : World) (h : at_ < 0 ∨ (L.length : Int) < at_) :
    Calls Tryd.prog 16 #[.slice ao L.length cap, .int .i64 at_] w (ParseP (parseR L at_) w) := by
  rw [parse_out h]
  refine pparse_gen (Q := fun _ _ c e => c = 0 ∧ e = 5) none 0 0 0 [] 0 5 _ _ w (WArg.nil w 0 0) (by simp) (by simp) (fun W => pread_out ao L.length cap at_ W h) (fun _ _ hB => prog_stuck hB clean_nil (by decide)) _ ?_
  rintro f ops c e ⟨rfl, rfl⟩
  exact .inr ⟨by decide, rfl⟩
theorem pparse_in (ao : Option Addr) (b off cap : Nat) (L : List Wd) (a : Nat) (w : World) (h : WArg w ao b off L) (hm : L.length ≤ 100000) (ha : a ≤ L.length) (hL : Clean L) :
    Calls Tryd.prog 16 #[.slice ao L.length cap, .int .i64 a] w (ParseP (parseR L a) w) :=
  pparse_gen ao b off cap L a 0 _ _ w h hm ha (fun W => pread_in ao L.length cap a W ha) (fun _ _ hB => prog_any hB hL) _ (fun _ _ _ _ hq => hq)
/-- The program's Parse, of words that have no field that they haven't. -/
theorem pparse_any (ao : Option Addr) (b off cap : Nat) (L : List Wd) (at_ : Int) (w : World) (h : WArg w ao b off L) (hm : L.length ≤ 100000) (hL : Clean L) :
    Calls Tryd.prog 16 #[.slice ao L.length cap, .int .i64 at_] w (ParseP (parseR L at_) w) := by
  by_cases hout : at_ < 0 ∨ (L.length : Int) < at_
  · exact pparse_out ao cap L at_ w hout
  · obtain ⟨a, rfl⟩ : ∃ a : Nat, at_ = a := ⟨at_.toNat, by omega⟩
    exact pparse_in ao b off cap L a w h hm (by omega) hL
end Go.Proofs.YtmcfjlkjijaflaaDoor
