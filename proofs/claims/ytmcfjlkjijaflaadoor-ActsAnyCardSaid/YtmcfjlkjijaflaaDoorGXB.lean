/-
  The program's kindOf of acts. (Made by gen_ackind.py out of prog's.)
  The program's reader of acts: a number, an act.
  The program's reader of acts: an act, at any word.
-/
import Derived.Test.YtmcfjlkjijaflaaDoorRdTake
import Derived.Test.YtmcfjlkjijaflaaDoorAcShape
import Derived.Test.YtmcfjlkjijaflaaDoorRdPlain

/- The program's kindOf of acts. (Made by gen_ackind.py out of prog's.) -/
namespace Go.Proofs.YtmcfjlkjijaflaaDoor
open Go.RowKit

set_option maxRecDepth 100000 in
set_option maxHeartbeats 3200000 in
theorem akindof_any (x : Wd) (w : World) :
    Calls Tryd.prog 78 #[wdV x] w fun e w' => e = .returned (.int .i64 (kindA x : Nat)) ∧ Below w.heap.size w w' := by
  have HHIT := Lib.hid (fun (n : Nat) (h1 : 1 ≤ n) (h2 : n ≤ 8) (hx : x = (1, acName (n : Int), 0, 0)) => kindA_hit h1 h2 hx)
  have HMISS := Lib.hid (fun h => kindA_miss (x := x) h)
  have HNM := Lib.hid (fun k W => anm_any k W)
  have HW := Lib.hid (fun s W => pname_any s W)
  have HQ := Lib.hid (fun (n : Nat) W => eq_words x (1, acName (n : Int), 0, 0) W)
  obtain ⟨q, hq⟩ : ∃ q, kindA x = q := ⟨_, rfl⟩
  rw [hq] at HHIT HMISS ⊢
  clear hq
  unfold wdV at HQ ⊢
  simp only at HQ
  have HX : Hid (∃ tx : ByteArray, ⟨x.2.1.toArray⟩ = tx) := ⟨_, rfl⟩
  obtain ⟨tx, htx⟩ := HX.out
  simp only [htx] at HQ ⊢
  obtain ⟨x0, hx0⟩ : ∃ x0, x.1 = x0 := ⟨_, rfl⟩
  obtain ⟨x2, hx2⟩ : ∃ x0, x.2.2.1 = x0 := ⟨_, rfl⟩
  obtain ⟨x3, hx3⟩ : ∃ x0, x.2.2.2 = x0 := ⟨_, rfl⟩
  simp only [hx0, hx2, hx3] at HQ ⊢
  clear hx0 hx2 hx3 htx HX
  go_enter Tryd.func78, Tryd.ntmps78
  go_wp2_with fail
  go_loopw [3] (fun k' wr => ∃ k : Nat, k' = .int .i64 k ∧ 1 ≤ k ∧ k ≤ 9 ∧ Hid (wr.heap[w.heap.size]? = some (.cells #[.int .i64 x0, .string tx, .int .i64 x2, .int .i64 x3] 74 (0, 0)) ∧ Below w.heap.size w wr) ∧ Hid (∀ j : Nat, 1 ≤ j → j < k → x ≠ (1, acName (j : Int), 0, 0))) (fun k' _ => 9 - (intOf k').toNat)
  case atStart => exact ⟨1, rfl, by omega, by omega, ⟨heap_alloc_new w _, (Below.refl _ w).alloc (Nat.le_refl _) _⟩, fun j h1 h2 => by omega⟩
  case round =>
    obtain ⟨k, rfl, hk1, hk9, HB, HO⟩ := hrel
    by_cases hk : k ≤ 8
    · have hnm := fun W => HNM.out (k : Int) W
      obtain ⟨tn, htn⟩ : ∃ tn : ByteArray, ⟨(acName (k : Int)).toArray⟩ = tn := ⟨_, rfl⟩
      have hqk := fun W => HQ.out k W
      simp only [htn] at hnm hqk
      have HNK := Lib.hid hnm
      have HWK := Lib.hid (fun W => HW.out tn W)
      have HS : Hid (∀ V, Below wr.heap.size wr V → V.cell? ⟨w.heap.size, 0, none⟩ = some (.int .i64 x0) ∧ V.cell? ⟨w.heap.size, 1, none⟩ = some (.string tx) ∧ V.cell? ⟨w.heap.size, 2, none⟩ = some (.int .i64 x2) ∧ V.cell? ⟨w.heap.size, 3, none⟩ = some (.int .i64 x3)) :=
        Lib.hid fun V hV => word_cells ((hV.block _ (lt_of_block HB.out.1)).trans HB.out.1)
      have HB0 := Lib.hid ((Below.refl wr.heap.size wr).drew)
      have s0 := HS.out _ HB0.out
      have hkw : IntKind.i64.wrap ((k : Int) + 1) = (k : Int) + 1 := IntWalk.i64_in _ (by omega)
      cases hd : decide (x = ((1, acName (k : Int), 0, 0) : Wd)) with
      | true =>
        rw [hd] at hqk
        have HE := Lib.hid (HHIT.out k hk1 hk (of_decide_eq_true hd))
        clear hnm hd htn
        go_wp2_with fail
        go_region_held3 (fun V => V.cell? ⟨w.heap.size, 0, none⟩ = some (.int .i64 x0) ∧ V.cell? ⟨w.heap.size, 1, none⟩ = some (.string tx) ∧ V.cell? ⟨w.heap.size, 2, none⟩ = some (.int .i64 x2) ∧ V.cell? ⟨w.heap.size, 3, none⟩ = some (.int .i64 x3))
          (first | exact s0 | exact s1 | exact s2)
          (first
            | (go_at_call 32
               with_reducible refine (HNK.out _).mono ?_
               rintro r V1 ⟨rfl, hb⟩
               have HV1 := Lib.hid (HB0.out.trans (hb.mono HB0.out.size))
               have s1 := HS.out _ HV1.out
               clear hb)
            | (go_at_call 38
               with_reducible refine (HWK.out _).mono ?_
               rintro r V2 ⟨rfl, hb⟩
               have HV2 := Lib.hid (HV1.out.trans (hb.mono HV1.out.size))
               have s2 := HS.out _ HV2.out
               clear hb))
        clear s0 s1 s2
        go_wp2
        go_ret
        rw [HE.out]
        exact ⟨rfl, HB.out.2.trans (HV2.out.mono HB.out.2.size)⟩
      | false =>
        rw [hd] at hqk
        have hne := of_decide_eq_false hd
        have HO2 : Hid (∀ j : Nat, 1 ≤ j → j < k + 1 → x ≠ (1, acName (j : Int), 0, 0)) := Lib.hid (fun j h1 h2 => by
          rcases Nat.lt_or_ge j k with h | h
          · exact HO.out j h1 h
          · have : j = k := by omega
            subst this
            exact hne)
        clear hnm hd htn hne
        go_wp2_with fail
        go_region_held3 (fun V => V.cell? ⟨w.heap.size, 0, none⟩ = some (.int .i64 x0) ∧ V.cell? ⟨w.heap.size, 1, none⟩ = some (.string tx) ∧ V.cell? ⟨w.heap.size, 2, none⟩ = some (.int .i64 x2) ∧ V.cell? ⟨w.heap.size, 3, none⟩ = some (.int .i64 x3))
          (first | exact s0 | exact s1 | exact s2)
          (first
            | (go_at_call 32
               with_reducible refine (HNK.out _).mono ?_
               rintro r V1 ⟨rfl, hb⟩
               have HV1 := Lib.hid (HB0.out.trans (hb.mono HB0.out.size))
               have s1 := HS.out _ HV1.out
               clear hb)
            | (go_at_call 38
               with_reducible refine (HWK.out _).mono ?_
               rintro r V2 ⟨rfl, hb⟩
               have HV2 := Lib.hid (HV1.out.trans (hb.mono HV1.out.size))
               have s2 := HS.out _ HV2.out
               clear hb))
        clear s0 s1 s2
        go_wp2
        go_roundw
        case rel => exact ⟨k + 1, by go_num, by omega, by omega, ⟨(HV2.out.block _ (lt_of_block HB.out.1)).trans HB.out.1, HB.out.2.trans (HV2.out.mono HB.out.2.size)⟩, HO2⟩
        case measure => simp [intOf]; omega
    · have hk2 : k = 9 := by omega
      have HE := Lib.hid (HMISS.out (fun j h1 h2 => HO.out j h1 (by omega)))
      subst hk2
      go_wp2
      go_ret
      rw [HE.out]
      exact ⟨rfl, HB.out.2⟩
end Go.Proofs.YtmcfjlkjijaflaaDoor

/- The program's reader of acts: a number, an act. -/
namespace Go.Proofs.YtmcfjlkjijaflaaDoor
open Go.RowKit

theorem word_field2 (a : Int) (t : ByteArray) (n p : Int) (w : World) : (Instr.field 74 (.agg #[.int .i64 a, .string t, .int .i64 n, .int .i64 p]) 2).run Tryd.prog w = .ok (.int .i64 n) w := by kernel_rfl
set_option maxRecDepth 100000 in
set_option maxHeartbeats 3200000 in
/-- A number of an act. -/
theorem anum_any {w : World} {b : Nat} {ao : Option Addr} {bw off cap : Nat} {L : List Wd} {c : Nat} {e : Int} (h : RdI w b ao bw off cap L c e) (hL : Clean L) (hN : In9 L) :
    Calls Tryd.prog 90 #[.pointer (some ⟨b, 0, none⟩), .agg #[.int .i64 0, .int .i64 999999999]] w (NumP (rdnR L c 0 999999999 e).1 w b ao L.length cap (rdnR L c 0 999999999 e).2.1 (rdnR L c 0 999999999 e).2.2) := by
  have h0 := h.below ((Below.refl _ w).alloc (Nat.le_refl _) (.cells #[.int .i64 0, .int .i64 999999999] 81))
  have hnx := fun V hV => next_any (h0.below (w' := V) hV)
  obtain ⟨k, t, m, hy⟩ := next_form L c
  have hin := next_in9 hL hN c
  rw [hy] at hin
  simp only at hin
  simp only [hy] at hnx
  unfold wdV at hnx
  simp only at hnx
  obtain ⟨tb, htb⟩ : ∃ tb : ByteArray, ⟨t.toArray⟩ = tb := ⟨_, rfl⟩
  simp only [htb] at hnx
  have hha := fun W => has_any 0 999999999 m W
  rw [decide_eq_true hin.1, decide_eq_true hin.2] at hha
  have hnu := fun V (hV : RdI V b ao bw off cap L c e) => number_any hV hL 0 999999999
  obtain ⟨⟨v, c', e'⟩, hr⟩ : ∃ r, rdnR L c 0 999999999 e = r := ⟨_, rfl⟩
  rw [hr]
  simp only [hr] at hnu
  have HNX := Lib.hid hnx
  have HHA := Lib.hid hha
  have HNU := Lib.hid hnu
  have hf := fun W => word_field2 k tb m 0 W
  have HR0 := Lib.hid h0
  have HB0 := Lib.hid (heap_alloc_new w (.cells #[.int .i64 0, .int .i64 999999999] 81))
  have HBW := Lib.hid ((Below.refl _ w).alloc (Nat.le_refl _) (.cells #[.int .i64 0, .int .i64 999999999] 81))
  clear h h0 hnx hha hnu hy hin htb hr
  obtain ⟨W0, hW0⟩ : ∃ W0, w.alloc (.cells #[.int .i64 0, .int .i64 999999999] 81) = W0 := ⟨_, rfl⟩
  rw [hW0] at HNX HR0 HB0 HBW
  have HW0 := Lib.hid hW0
  clear hW0
  have s0 := two_cells (show W0.drew.heap[w.heap.size]? = some (.cells #[.int .i64 0, .int .i64 999999999] 81 (0, 0)) from HB0.out)
  have HS := Lib.hid (fun V (hV : Below W0.heap.size W0 V) => two_cells ((hV.block _ (lt_of_block HB0.out)).trans HB0.out))
  have HBD : Hid (Below W0.heap.size W0 W0.drew) := Lib.hid (Below.refl _ W0).drew
  go_enter Tryd.func90, Tryd.ntmps90
  go_wp2_with fail
  rw [HW0.out]
  go_region_held3 (fun V => V.cell? ⟨w.heap.size, 0, none⟩ = some (.int .i64 0) ∧ V.cell? ⟨w.heap.size, 1, none⟩ = some (.int .i64 999999999))
    (first | exact s0 | exact s1 | exact s2)
    (first
      | (go_at_call 79
         with_reducible refine (HNX.out _ HBD.out).mono ?_
         rintro r V1 ⟨rfl, hb⟩
         have hbe := HBD.out.trans (hb.mono HBD.out.size)
         have HBE := Lib.hid hbe
         have s1 := HS.out _ hbe
         clear hb hbe)
      | (go_at_call 67
         with_reducible refine (HHA.out _).mono ?_
         rintro r V2 ⟨rfl, hb⟩
         have hbf := HBE.out.trans (hb.mono HBE.out.size)
         have HBF := Lib.hid hbf
         have s2 := HS.out _ hbf
         clear hb hbf))
  have HR2 := Lib.hid (HR0.out.below HBF.out)
  obtain ⟨q0, q1⟩ := s2
  clear s0 s1
  go_wp2_with fail
  with_reducible refine (HNU.out _ HR2.out).mono ?_
  rintro r w3 ⟨rfl, hr, ht⟩
  have HR3 := Lib.hid hr
  have HT3 := Lib.hid ((turned_below (HBW.out.trans (HBF.out.mono HBW.out.size)) [b]).trans ht (Newer.refl _ _))
  clear hr ht
  go_wp2
  go_ret
  exact ⟨rfl, HR3.out, HT3.out⟩
/-- What readAct holds: the reader, the boxes of the answer, of the shape, of the numbers. -/
structure AcF (w V : World) (b S : Nat) (sh nm : Array Value) (rc : Array Value) : Prop where
  rd : V.heap[b]? = some (.cells rc 115 (0, 0))
  res : V.heap[w.heap.size]? = some (.cells #[.int .i64 0, .int .i64 0, .int .i64 0, .int .i64 0, .int .i64 0] 69 (0, 0))
  shp : V.heap[S]? = some (.cells sh 104 (0, 0))
  num : V.heap[S + 1]? = some (.cells nm 120 (0, 0))
  tur : Turned [b] w V
  bw : b < w.heap.size
  sw : w.heap.size < S
theorem AcF.step {w V V' : World} {b S : Nat} {sh nm rc rc' : Array Value} (h : AcF w V b S sh nm rc) (t : Turned [b] V V') (hr : V'.heap[b]? = some (.cells rc' 115 (0, 0))) : AcF w V' b S sh nm rc' := by
  have := h.bw
  have := h.sw
  exact ⟨hr, t.same h.res (by simp; omega), t.same h.shp (by simp; omega), t.same h.num (by simp; omega), h.tur.trans t (Newer.refl _ _), h.bw, h.sw⟩
theorem AcF.below {w V V' : World} {b S : Nat} {sh nm rc : Array Value} (h : AcF w V b S sh nm rc) (hb : Below V.heap.size V V') : AcF w V' b S sh nm rc :=
  h.step (turned_below hb [b]) ((hb.block _ (lt_of_block h.rd)).trans h.rd)
theorem AcF.put {w V : World} {b S : Nat} {sh nm rc : Array Value} (h : AcF w V b S sh nm rc) (o : Nat) (v : Value) : AcF w (V.setCell ⟨S + 1, o, none⟩ v) b S sh (nm.setIfInBounds o v) rc := by
  have h1 := h.bw
  have h2 := h.sw
  refine ⟨(Below.heap_setCell _ _ _ _ (by show b ≠ S + 1; omega)).trans h.rd, (Below.heap_setCell _ _ _ _ (by show w.heap.size ≠ S + 1; omega)).trans h.res, (Below.heap_setCell _ _ _ _ (by show S ≠ S + 1; omega)).trans h.shp, heap_setCell_same _ _ _ _ _ _ h.num, h.tur.setCell (.inr (by show w.heap.size ≤ S + 1; omega)) _, h.bw, h.sw⟩
theorem AcF.start {w w3 : World} {b : Nat} {sh nm rc : Array Value} (hr : w.heap[b]? = some (.cells rc 115 (0, 0))) (h : Below (w.alloc (.cells #[.int .i64 0, .int .i64 0, .int .i64 0, .int .i64 0, .int .i64 0] 69)).heap.size (w.alloc (.cells #[.int .i64 0, .int .i64 0, .int .i64 0, .int .i64 0, .int .i64 0] 69)) w3) :
    AcF w ((w3.alloc (.cells sh 104)).alloc (.cells nm 120)) b w3.heap.size sh nm rc := by
  obtain ⟨h1, h2⟩ := box_kept h
  have hl := lt_of_block h1
  have hbl := lt_of_block hr
  have h3 : Below w.heap.size w ((w3.alloc (.cells sh 104)).alloc (.cells nm 120)) := (h2.alloc h2.size _).alloc (by have := h2.size; simp; omega) _
  have h4 := heap_alloc_new (w3.alloc (.cells sh 104)) (.cells nm 120)
  rw [World.size_alloc] at h4
  refine ⟨(h3.block _ hbl).trans hr, ?_, ?_, h4, turned_below h3 _, hbl, hl⟩
  · exact (Below.heap_alloc _ _ _ (by simp; omega)).trans ((Below.heap_alloc _ _ _ hl).trans h1)
  · exact (Below.heap_alloc _ _ _ (by simp)).trans (heap_alloc_new _ _)
theorem act_res {fn : Func} {p : Tmp} (hf : fn.results = #[.cell p 69]) {tmps : Array Value} {w : World} {B : Nat} {a b c d e : Value} (hp : tmps.getD p undef = .pointer (some ⟨B, 0, none⟩)) (h : w.heap[B]? = some (.cells #[a, b, c, d, e] 69 (0, 0))) :
    (results fn tmps).run Tryd.prog w = .ok (.agg #[a, b, c, d, e]) w := by
  obtain ⟨h0, h1, h2, h3, h4⟩ := act_cells h
  rw [results_one hf, hp]
  simp [loadVar, go_sem, h0, h1, h2, h3, h4]
end Go.Proofs.YtmcfjlkjijaflaaDoor

/- The program's reader of acts: an act, at any word. -/
namespace Go.Proofs.YtmcfjlkjijaflaaDoor
open Go.RowKit

theorem act_set {w : World} {B : Nat} {a b c d e a' b' c' d' e' : Value} {t : TypeId} (h : w.heap[B]? = some (.cells #[a, b, c, d, e] t (0, 0))) :
    (((((w.setCell ⟨B, 0, none⟩ a').setCell ⟨B, 1, none⟩ b').setCell ⟨B, 2, none⟩ c').setCell ⟨B, 3, none⟩ d').setCell ⟨B, 4, none⟩ e').heap[B]? = some (.cells #[a', b', c', d', e'] t (0, 0)) := by
  rw [heap_setCell_same _ _ _ _ _ _ (heap_setCell_same _ _ _ _ _ _ (heap_setCell_same _ _ _ _ _ _ (heap_setCell_same _ _ _ _ _ _ (heap_setCell_same _ _ _ _ _ _ h))))]
  rfl
abbrev zeroA : Obj := .cells #[.int .i64 0, .int .i64 0, .int .i64 0, .int .i64 0, .int .i64 0] 69
theorem five_stored {w V : World} {b : Nat} {rc : Array Value} (hr : V.heap[b]? = some (.cells rc 115 (0, 0))) (hres : ∃ p q r s u, V.heap[w.heap.size]? = some (.cells #[p, q, r, s, u] 69 (0, 0))) (t : Turned [b] w V) (hb : b < w.heap.size) (a' b' c' d' e' : Value) :
    (((((V.setCell ⟨w.heap.size, 0, none⟩ a').setCell ⟨w.heap.size, 1, none⟩ b').setCell ⟨w.heap.size, 2, none⟩ c').setCell ⟨w.heap.size, 3, none⟩ d').setCell ⟨w.heap.size, 4, none⟩ e').heap[w.heap.size]? = some (.cells #[a', b', c', d', e'] 69 (0, 0)) ∧
    (((((V.setCell ⟨w.heap.size, 0, none⟩ a').setCell ⟨w.heap.size, 1, none⟩ b').setCell ⟨w.heap.size, 2, none⟩ c').setCell ⟨w.heap.size, 3, none⟩ d').setCell ⟨w.heap.size, 4, none⟩ e').heap[b]? = some (.cells rc 115 (0, 0)) ∧
    Turned [b] w (((((V.setCell ⟨w.heap.size, 0, none⟩ a').setCell ⟨w.heap.size, 1, none⟩ b').setCell ⟨w.heap.size, 2, none⟩ c').setCell ⟨w.heap.size, 3, none⟩ d').setCell ⟨w.heap.size, 4, none⟩ e') := by
  obtain ⟨p, q, r, s, u, hres⟩ := hres
  have hne : b ≠ w.heap.size := by omega
  refine ⟨act_set hres, ?_, ((((t.setCell (.inr (Nat.le_refl _)) _).setCell (.inr (Nat.le_refl _)) _).setCell (.inr (Nat.le_refl _)) _).setCell (.inr (Nat.le_refl _)) _).setCell (.inr (Nat.le_refl _)) _⟩
  rw [Below.heap_setCell _ _ _ _ hne, Below.heap_setCell _ _ _ _ hne, Below.heap_setCell _ _ _ _ hne, Below.heap_setCell _ _ _ _ hne, Below.heap_setCell _ _ _ _ hne]
  exact hr
set_option maxRecDepth 100000 in
set_option maxHeartbeats 3200000 in
/-- No act begins there. -/
theorem act_none {w : World} {b : Nat} {ao : Option Addr} {bw off cap : Nat} {L : List Wd} {c : Nat} {e : Int} (h : RdI w b ao bw off cap L c e) (hk : kindA (nextR L c) = 0) :
    Calls Tryd.prog 81 #[.pointer (some ⟨b, 0, none⟩)] w (StepP (acV (0, 0, 0, 0, 0)) w b ao L.length cap c (failE e 5)) := by
  have h0 := h.below ((Below.refl _ w).alloc (Nat.le_refl _) zeroA)
  have HNX := Lib.hid (next_any h0)
  have HRD := Lib.hid (fun V (hV : Below (w.alloc zeroA).heap.size (w.alloc zeroA) V) => h0.below hV)
  have HKD := Lib.hid (fun W => akindof_any (nextR L c) W)
  rw [hk] at HKD
  obtain ⟨y, hy⟩ : ∃ y, nextR L c = y := ⟨_, rfl⟩
  simp only [hy] at HNX HKD
  obtain ⟨e5, he5⟩ : ∃ e5, failE e 5 = e5 := ⟨_, rfl⟩
  have HFL := Lib.hid (fun V (hV : RdI V b ao bw off cap L c e) => fail_any hV.rd 5)
  simp only [he5] at HFL ⊢
  have HBW := Lib.hid (lt_of_block h.rd)
  obtain ⟨yv, hyv⟩ : ∃ yv, wdV y = yv := ⟨_, rfl⟩
  simp only [hyv] at HNX HKD
  clear hy hyv hk he5 h h0
  go_enter Tryd.func81, Tryd.ntmps81
  go_wp2_with fail
  with_reducible refine HNX.out.mono ?_
  rintro r w1 ⟨rfl, hb1⟩
  have HB1 := Lib.hid hb1
  clear hb1
  go_wp2_with fail
  with_reducible refine (HKD.out _).mono ?_
  rintro r w2 ⟨rfl, hb2⟩
  have HB2 := Lib.hid (HB1.out.trans (hb2.mono HB1.out.size))
  clear hb2
  go_wp2_with fail
  with_reducible refine (HFL.out _ (HRD.out _ HB2.out)).mono ?_
  rintro r w3 ⟨rfl, hr, ht⟩
  obtain ⟨hx, hb2⟩ := box_kept HB2.out
  have hne : w.heap.size ∉ [b] := by have := HBW.out; simp; omega
  have HX3 := Lib.hid (ht.same hx hne)
  have HFIN := Lib.hid (fun a b' c' d' e' => five_stored hr ⟨_, _, _, _, _, ht.same hx hne⟩ ((turned_below hb2 [b]).trans ht (Newer.refl _ _)) HBW.out a b' c' d' e')
  clear hr ht hx hb2 hne
  obtain ⟨c0, c1, c2, c3, c4⟩ := act_cells HX3.out
  have f0 := not_frozen HX3.out 0
  have f1 := not_frozen HX3.out 1
  have f2 := not_frozen HX3.out 2
  have f3 := not_frozen HX3.out 3
  have f4 := not_frozen HX3.out 4
  go_wp2
  refine bodyPost_ret (act_res rfl rfl (HFIN.out _ _ _ _ _).1) rfl ?_
  exact ⟨rfl, (HFIN.out _ _ _ _ _).2.1, (HFIN.out _ _ _ _ _).2.2⟩
/-- The numbers read so far, as they lie. -/
abbrev padN (out : List Int) : Array Value := #[.int .i64 (out.getD 0 0), .int .i64 (out.getD 1 0), .int .i64 (out.getD 2 0), .int .i64 (out.getD 3 0)]
theorem pad_put {out : List Int} {i : Nat} (h : out.length = i) (hi : i < 4) (v : Int) : (padN out).setIfInBounds i (.int .i64 v) = padN (out ++ [v]) := by
  have hg : ∀ j, (out ++ [v]).getD j 0 = if j = i then v else out.getD j 0 := by
    intro j
    rw [List.getD_eq_getElem?_getD, List.getD_eq_getElem?_getD]
    by_cases hj : j = i
    · subst hj
      rw [if_pos rfl, List.getElem?_append_right (by omega)]
      simp [h]
    · rw [if_neg hj]
      rcases Nat.lt_or_ge j i with h2 | h2
      · rw [List.getElem?_append_left (by omega)]
      · rw [List.getElem?_append_right (by omega), List.getElem?_eq_none (by simp; omega), List.getElem?_eq_none (by omega)]
  unfold padN
  simp only [hg]
  have : i = 0 ∨ i = 1 ∨ i = 2 ∨ i = 3 := by omega
  rcases this with rfl | rfl | rfl | rfl <;> rfl
theorem acell_at {w : World} {B k : Nat} {X : Array Value} {t : TypeId} {f : Nat × Nat} (h : w.heap[B]? = some (.cells X t f)) (hk : k < X.size) : w.cell? ⟨B, k, none⟩ = some X[k] := by
  simp [World.cell?, h, hk]
set_option maxRecDepth 100000 in
set_option maxHeartbeats 12800000 in
theorem act_some {w : World} {b : Nat} {ao : Option Addr} {bw off cap : Nat} {L : List Wd} {c : Nat} {e : Int} (h : RdI w b ao bw off cap L c e) (hL : Clean L) (hN : In9 L) {k : Nat} (hk : kindA (nextR L c) = k) (hk0 : k ≠ 0)
    {c1 : Nat} {e1 : Int} (h1 : needQ L c e (1, acName (k : Int), 0, 0) = (c1, e1)) {ns : List Int} {c2 : Nat} {e2 : Int} (h2 : numsQ L (acMany (k : Int)) c1 e1 [] = (ns, c2, e2)) {c3 : Nat} {e3 : Int} (h3 : needQ L c2 e2 (3, [59], 0, 0) = (c3, e3)) :
    Calls Tryd.prog 81 #[.pointer (some ⟨b, 0, none⟩)] w (StepP (acV (mkAc (k : Int) ns)) w b ao L.length cap c3 e3) := by
  have h0 := h.below ((Below.refl _ w).alloc (Nat.le_refl _) zeroA)
  have HNX := Lib.hid (next_any h0)
  have HRT := Lib.hid (fun V c' e' (t : Turned [b] w V) hr hc => h.turned (c' := c') (e' := e') t hr hc)
  have HKD := Lib.hid (fun W => akindof_any (nextR L c) W)
  rw [hk] at HKD
  have hsh := fun W => ashape_any (k : Int) W
  obtain ⟨s, n, es, hs, hn⟩ := ashape_let (k : Int)
  subst hn
  simp only [es] at hsh
  have HSH := Lib.hid hsh
  have HNM := Lib.hid (fun s W => pname_any s W)
  have HMK := Lib.hid (fun s W => pmark_any s W)
  have hN1 := fun V (hV : RdI V b ao bw off cap L c e) => need_any hV (1, acName (k : Int), 0, 0)
  have hN4 := fun V (hV : RdI V b ao bw off cap L c2 e2) => need_any hV (3, [59], 0, 0)
  have hl1 : c1 ≤ L.length := by
    have := needQ_le (e := e) (x := (1, acName (k : Int), 0, 0)) h.le (by show (1 : Int) ≠ 0; decide)
    rw [h1] at this
    exact this
  have hl2 : c2 ≤ L.length := by
    have := numsQ_le (acMany (k : Int)) c1 e1 [] hl1
    rw [h2] at this
    exact this
  have hm4 := many_four (k : Int)
  obtain ⟨m, hm⟩ : ∃ m, acMany (k : Int) = m := ⟨_, rfl⟩
  rw [hm] at h2 hm4 HSH
  have et : (⟨(acName (k : Int)).toArray⟩ : ByteArray) = s := by rw [← hs, Lib.mk_data]
  unfold wdV at hN1 hN4
  simp only [h1, h3, et] at hN1 hN4
  have HN1 := Lib.hid hN1
  have HN4 := Lib.hid hN4
  have HNU := Lib.hid (fun V c' e' (hV : RdI V b ao bw off cap L c' e') => anum_any hV hL hN)
  have HMY := Lib.hid (fun (p : Int) W => amay_any s (m : Int) p W)
  obtain ⟨y, hy⟩ : ∃ y, nextR L c = y := ⟨_, rfl⟩
  simp only [hy] at HNX HKD
  obtain ⟨yv, hyv⟩ : ∃ yv, wdV y = yv := ⟨_, rfl⟩
  simp only [hyv] at HNX HKD
  have HRD := Lib.hid h.rd
  have HLE := Lib.hid h.le
  have HL1 := Lib.hid hl1
  have HL2 := Lib.hid hl2
  have HNS := Lib.hid h2
  have hkb : ((k : Int) == 0) = false := by simp; omega
  clear hy hyv hk h h0 hN1 hN4 hsh es hs h1 h3 hL hN hk0 hl1 et h2 hl2 hm
  go_enter Tryd.func81, Tryd.ntmps81
  go_wp2_with fail
  with_reducible refine HNX.out.mono ?_
  rintro r w1 ⟨rfl, hb1⟩
  have HB1 := Lib.hid hb1
  clear hb1
  go_wp2_with fail
  with_reducible refine (HKD.out _).mono ?_
  rintro r w2 ⟨rfl, hb2⟩
  have HB2 := Lib.hid (HB1.out.trans (hb2.mono HB1.out.size))
  clear hb2
  go_wp2_with fail
  with_reducible refine (HSH.out _).mono ?_
  rintro r w3 ⟨rfl, hb3⟩
  have HB3 := Lib.hid (HB2.out.trans (hb3.mono HB2.out.size))
  clear hb3
  have HF := Lib.hid (AcF.start (sh := #[.string s, .int .i64 (m : Nat)]) (nm := padN []) HRD.out HB3.out)
  have HW5 : Hid (∃ W5, (w3.alloc (.cells #[.string s, .int .i64 (m : Nat)] 104)).alloc (.cells (padN []) 120) = W5) := ⟨_, rfl⟩
  go_wp2_with fail
  obtain ⟨W5, hW5⟩ := HW5.out
  have hW5' : (w3.alloc (.cells #[.string s, .int .i64 (m : Nat)] 104)).alloc (.cells #[.int .i64 0, .int .i64 0, .int .i64 0, .int .i64 0] 120) = W5 := hW5
  rw [hW5] at HF
  rw [hW5']
  clear hW5 hW5' HW5
  obtain ⟨S, hS⟩ : ∃ S, w3.heap.size = S := ⟨_, rfl⟩
  rw [hS] at HF ⊢
  clear hS
  with_reducible refine (HNM.out _ _).mono ?_
  rintro r w6 ⟨rfl, hb⟩
  have HF6 := Lib.hid (HF.out.below hb)
  clear hb
  go_wp2_with fail
  with_reducible refine (HN1.out _ (HRT.out _ _ _ HF6.out.tur HF6.out.rd HLE.out)).mono ?_
  rintro r w7 ⟨rfl, hr, ht⟩
  have HF7 := Lib.hid (HF6.out.step ht hr)
  clear hr ht
  obtain ⟨d0, d1⟩ := two_cells HF7.out.shp
  go_wp2_with fail
  clear d0 d1
  go_loopw [24] (fun i' wr => ∃ (i : Nat) (cc : Nat) (ee : Int) (out : List Int), i' = .int .i64 i ∧ i ≤ m ∧ Hid (AcF w wr b S #[.string s, .int .i64 (m : Nat)] (padN out) (rdC ao L.length cap cc ee)) ∧ Hid (out.length = i) ∧ Hid (cc ≤ L.length) ∧ Hid (numsQ L (m - i) cc ee out = (ns, c2, e2))) (fun i' _ => m - (intOf i').toNat)
  case atStart => exact ⟨0, c1, e1, [], rfl, Nat.zero_le _, HF7, Lib.hid rfl, HL1, HNS⟩
  case round =>
    obtain ⟨i, cc, ee, out, rfl, hi, HF, HO, HC, HG⟩ := hrel
    by_cases hlt : i < m
    · have i0 : (0 : Int) ≤ i := by omega
      have i1 : (i : Int) < m := by omega
      have i4 : (i : Int) < 4 := by omega
      have i2 : IntKind.i64.wrap ((i : Int) + 1) = (i : Int) + 1 := by rw [IntKind.wrap_i64]; omega
      have hg := HG.out
      rw [show m - i = (m - (i + 1)) + 1 by omega, numsQ] at hg
      have hnu := HNU.out
      obtain ⟨⟨v, cn, en⟩, hr⟩ : ∃ r, rdnR L cc 0 999999999 ee = r := ⟨_, rfl⟩
      have hcl := rdnR_le (L := L) (c := cc) (lo := 0) (hi := 999999999) (e := ee) HC.out
      rw [hr] at hg hcl
      have hnu2 := fun V (hV : RdI V b ao bw off cap L cc ee) => hnu V cc ee hV
      simp only [hr] at hnu2 hg hcl
      have hmy := fun W => HMY.out (i : Int) W
      rw [show mostA (m : Int) (i : Int) = 999999999 from if_neg (by omega)] at hmy
      have HMI := Lib.hid hmy
      have HNI := Lib.hid hnu2
      have HG2 := Lib.hid hg
      have HCL := Lib.hid hcl
      clear hg hnu hr hcl hnu2 hmy
      obtain ⟨d0, d1⟩ := two_cells HF.out.shp
      go_wp2_with fail
      with_reducible refine (HMI.out _).mono ?_
      rintro r w8 ⟨rfl, hb⟩
      have HF8 := Lib.hid (HF.out.below hb)
      clear hb d0 d1
      go_wp2_with fail
      with_reducible refine (HNI.out _ (HRT.out _ _ _ HF8.out.tur HF8.out.rd HC.out)).mono ?_
      rintro r w9 ⟨rfl, hr, ht⟩
      have hf9 := HF8.out.step ht hr
      have hp := hf9.put i (.int .i64 v)
      rw [pad_put HO.out (by omega) v] at hp
      have HP := Lib.hid hp
      have q0 := acell_at hf9.num (k := i) (by show i < 4; omega)
      have f0 := not_frozen hf9.num i
      obtain ⟨q, hq⟩ : ∃ q, (padN out)[i]'(by show i < 4; omega) = q := ⟨_, rfl⟩
      rw [hq] at q0
      have HOL : Hid ((out ++ [v]).length = i + 1) := Lib.hid (by rw [List.length_append, List.length_singleton, HO.out])
      clear hr ht hf9 hp hq
      go_wp2
      go_roundw
      case rel => exact ⟨i + 1, cn, en, out ++ [v], by go_num, by omega, HP, HOL, HCL, HG2⟩
      case measure => simp [intOf]; omega
    · have hg := HG.out
      rw [show m - i = 0 by omega] at hg
      simp only [numsQ, Prod.mk.injEq] at hg
      obtain ⟨rfl, rfl, rfl⟩ := hg
      have ni : ¬ (i : Int) < m := by omega
      clear HG HO
      go_wp2_with fail
      with_reducible refine (HMK.out _ _).mono ?_
      rintro r w10 ⟨rfl, hb⟩
      have HF10 := Lib.hid (HF.out.below hb)
      clear hb
      go_wp2_with fail
      with_reducible refine (HN4.out _ (HRT.out _ _ _ HF10.out.tur HF10.out.rd HL2.out)).mono ?_
      rintro r w11 ⟨rfl, hr, ht⟩
      have HF11 := Lib.hid (HF10.out.step ht hr)
      have HFIN := Lib.hid (fun a b' c' d' e' => five_stored HF11.out.rd ⟨_, _, _, _, _, HF11.out.res⟩ HF11.out.tur HF11.out.bw a b' c' d' e')
      clear hr ht
      obtain ⟨n0, n1, n2, n3⟩ := word_cells HF11.out.num
      obtain ⟨r0, r1, r2, r3, r4⟩ := act_cells HF11.out.res
      have f0 := not_frozen HF11.out.res 0
      have f1 := not_frozen HF11.out.res 1
      have f2 := not_frozen HF11.out.res 2
      have f3 := not_frozen HF11.out.res 3
      have f4 := not_frozen HF11.out.res 4
      go_wp2
      refine bodyPost_ret (act_res rfl rfl (HFIN.out _ _ _ _ _).1) rfl ?_
      exact ⟨rfl, (HFIN.out _ _ _ _ _).2.1, (HFIN.out _ _ _ _ _).2.2⟩
/-- The reader's act, at any word. -/
theorem act_any {w : World} {b : Nat} {ao : Option Addr} {bw off cap : Nat} {L : List Wd} {c : Nat} {e : Int} (h : RdI w b ao bw off cap L c e) (hL : Clean L) (hN : In9 L) :
    Calls Tryd.prog 81 #[.pointer (some ⟨b, 0, none⟩)] w (StepP (acV (acQ L c e).1) w b ao L.length cap (acQ L c e).2.1 (acQ L c e).2.2) := by
  unfold acQ
  by_cases hk : kindA (nextR L c) = 0
  · rw [if_pos hk]
    exact act_none h hk
  · rw [if_neg hk]
    exact act_some h hL hN rfl hk rfl rfl rfl
end Go.Proofs.YtmcfjlkjijaflaaDoor
