/-
  The program reads one group, one lock.
-/
import Derived.Test.YtmcfjlkjijaflaaGreatDoorSpLock
import Derived.Test.YtmcfjlkjijaflaaGreatDoorGAR
namespace Go.Proofs.YtmcfjlkjijaflaaGreatDoor
open Go.RowKit

theorem turned_in {w V w' : World} {b T : Nat} (h1 : Turned [b] w V) (hT : w.heap.size ≤ T) (h2 : Turned [b, T] V w') : Turned [b] w w' := by
  refine ⟨h2.os.trans h1.os, h2.tape.trans h1.tape, h2.output.trans h1.output, Nat.le_trans h1.size h2.size, fun k hk hx => ?_⟩
  have h3 := h1.size
  exact (h2.block k (by omega) (by simp at hx ⊢; exact ⟨hx, by omega⟩)).trans (h1.block k hk hx)
theorem lineR_group (L : List Wd) (s : Rd) (o : Nat) (X : Array Value) :
    lineR L ⟨#[103, 114, 111, 117, 112]⟩ [(⟨#[]⟩, 16, o)] s X = (needS L (fieldS L s groupB 16).2 3 [59], X.setIfInBounds o (.int .i64 (fieldS L s groupB 16).1)) := rfl
theorem lineR_cores (L : List Wd) (s : Rd) (o : Nat) (X : Array Value) :
    lineR L ⟨#[99, 111, 114, 101, 115]⟩ [(⟨#[]⟩, 4, o)] s X = (needS L (fieldS L s coresB 4).2 3 [59], X.setIfInBounds o (.int .i64 (fieldS L s coresB 4).1)) := rfl
theorem lineR_grain (L : List Wd) (s : Rd) (o : Nat) (X : Array Value) :
    lineR L ⟨#[103, 114, 97, 105, 110]⟩ [(⟨#[]⟩, 8, o)] s X = (needS L (fieldS L s grainB 8).2 3 [59], X.setIfInBounds o (.int .i64 (fieldS L s grainB 8).1)) := rfl
/-- A lock, from its first word on. -/
def lockQ (L : List Wd) (s : Rd) : Lk × Rd := lockS L (needS L s 1 (if isR L s.1 1 sharedB then sharedB else lockB)) (isR L s.1 1 sharedB)
theorem lineR_lock (L : List Wd) (s : Rd) (sh : Bool) :
    lineR L (lkF sh) (lkN sh) s #[.bool sh, .int .i64 0, .int .i64 0, .int .i64 0, .int .i64 0] = ((lockS L (needS L s 1 (if sh then sharedB else lockB)) sh).2, lkA (lockS L (needS L s 1 (if sh then sharedB else lockB)) sh).1) := by
  cases sh <;> rfl
theorem needS_dead {L : List Wd} {s : Rd} (h : s.2 ≠ 0) (k : Int) (t : List By) : needS L s k t = s := by
  unfold needS isS
  rw [decide_eq_false h, Bool.false_and, if_neg (by decide), if_neg h]
theorem numS_dead {L : List Wd} {s : Rd} (h : s.2 ≠ 0) (most : Int) : numS L s most = (0, s) := by
  unfold numS
  rw [if_pos h]
theorem fieldS_dead {L : List Wd} {s : Rd} (h : s.2 ≠ 0) (t : List By) (most : Int) : fieldS L s t most = (0, s) := by
  unfold fieldS
  rw [needS_dead h, numS_dead h]
theorem lockS_dead {L : List Wd} {s : Rd} (h : s.2 ≠ 0) (sh : Bool) : (lockS L s sh).2 = s := by
  unfold lockS
  cases sh <;> simp only [fieldS_dead h, needS_dead h, if_true, if_false, Bool.false_eq_true]
theorem lockQ_dead {L : List Wd} {s : Rd} (h : s.2 ≠ 0) : (lockQ L s).2 = s := by
  unfold lockQ
  rw [needS_dead h, lockS_dead h]
/-- .. where a lock begins. -/
theorem lockQ_live {L : List Wd} {s : Rd} (h : isS L s 1 lockB = true ∨ isS L s 1 sharedB = true) : lockQ L s = lockS L (s.1 + 1, s.2) (isS L s 1 sharedB) := by
  have h0 : s.2 = 0 := by
    rcases h with h | h <;> · unfold isS at h; simp only [Bool.and_eq_true, decide_eq_true_eq] at h; exact h.1
  have e : ∀ t, isS L s 1 t = isR L s.1 1 t := fun t => by
    unfold isS
    rw [decide_eq_true h0, Bool.true_and]
  unfold lockQ
  rw [← e]
  cases hs : isS L s 1 sharedB with
  | true =>
    rw [if_pos rfl]
    have : needS L s 1 sharedB = (s.1 + 1, s.2) := by unfold needS; rw [if_pos hs]
    rw [this]
  | false =>
    rw [hs] at h
    have hl : isS L s 1 lockB = true := by
      rcases h with h | h
      · exact h
      · cases h
    rw [if_neg (by decide)]
    have : needS L s 1 lockB = (s.1 + 1, s.2) := by unfold needS; rw [if_pos hl]
    rw [this]
theorem RwI.store {w : World} {b : Nat} {ao : Option Addr} {bw off cap : Nat} {L : List Wd} {s : Rd} (h : RwI w b ao bw off cap L s) {k : Nat} (o : Nat) (v : Value) (h1 : b ≠ k) (h2 : 0 < L.length → bw ≠ k) : RwI (w.setCell ⟨k, o, none⟩ v) b ao bw off cap L s :=
  ⟨(Below.heap_setCell _ _ _ _ h1).trans h.rd, h.ws.same (fun h0 => Below.heap_setCell _ _ _ _ (h2 h0)), h.ne, h.le, h.len⟩
theorem five_stored {w V : World} {b : Nat} {ao : Option Addr} {bw off cap : Nat} {L : List Wd} {s : Rd} (hz : V.heap[w.heap.size]? = some (.cells #[.bool false, .int .i64 0, .int .i64 0, .int .i64 0, .int .i64 0] 48 (0, 0))) (x : Lk) (ht : Turned [b] w V) (hr : RwI V b ao bw off cap L s) (h1 : b ≠ w.heap.size) (h2 : 0 < L.length → bw ≠ w.heap.size) :
    (((((V.setCell ⟨w.heap.size, 0, none⟩ (.bool x.1)).setCell ⟨w.heap.size, 1, none⟩ (.int .i64 x.2.1)).setCell ⟨w.heap.size, 2, none⟩ (.int .i64 x.2.2.1)).setCell ⟨w.heap.size, 3, none⟩ (.int .i64 x.2.2.2.1)).setCell ⟨w.heap.size, 4, none⟩ (.int .i64 x.2.2.2.2)).heap[w.heap.size]? = some (.cells (lkA x) 48 (0, 0)) ∧
    RwP b ao bw off cap L s w (((((V.setCell ⟨w.heap.size, 0, none⟩ (.bool x.1)).setCell ⟨w.heap.size, 1, none⟩ (.int .i64 x.2.1)).setCell ⟨w.heap.size, 2, none⟩ (.int .i64 x.2.2.1)).setCell ⟨w.heap.size, 3, none⟩ (.int .i64 x.2.2.2.1)).setCell ⟨w.heap.size, 4, none⟩ (.int .i64 x.2.2.2.2)) := by
  have hn : w.heap.size ≤ w.heap.size := Nat.le_refl _
  refine ⟨?_, ((((RwI.store hr _ _ h1 h2).store _ _ h1 h2).store _ _ h1 h2).store _ _ h1 h2).store _ _ h1 h2, ((((ht.setCell (.inr hn) _).setCell (.inr hn) _).setCell (.inr hn) _).setCell (.inr hn) _).setCell (.inr hn) _⟩
  rw [heap_setCell_same _ _ _ _ _ _ (heap_setCell_same _ _ _ _ _ _ (heap_setCell_same _ _ _ _ _ _ (heap_setCell_same _ _ _ _ _ _ (heap_setCell_same _ _ _ _ _ _ hz))))]
  rfl
set_option maxRecDepth 100000 in
set_option maxHeartbeats 1600000 in
theorem readgroup_any {w : World} {b : Nat} {ao : Option Addr} {bw off cap : Nat} {L : List Wd} {s : Rd} (h : RwI w b ao bw off cap L s) (hL : Clean L) :
    Calls Tryz.prog 73 #[.pointer (some ⟨b, 0, none⟩)] w fun r w' => r = .returned (.int .i64 (fieldS L s groupB 16).1) ∧ RwP b ao bw off cap L (needS L (fieldS L s groupB 16).2 3 [59]) w w' := by
  have hb0 := lt_of_block h.rd
  have hbw : 0 < L.length → bw < w.heap.size := fun h0 => (h.ws.at_ h0).2
  have HB := Lib.hid (Below.refl w.heap.size w |>.alloc (Nat.le_refl _) (.cells #[.int .i64 0] 3))
  have HG := Lib.hid (groupline_any w.heap.size 0 (w.alloc (.cells #[.int .i64 0] 3)))
  have HRD := Lib.hid (fun (V : World) (hV : Below (w.alloc (.cells #[.int .i64 0] 3)).heap.size (w.alloc (.cells #[.int .i64 0] 3)) V) (nb nc : Nat) (hN : NArg V nb 0 w.heap.size [(⟨#[]⟩, 16, 0)]) (hnb : w.heap.size + 1 ≤ nb) => (by
    have k := box_kept hV
    exact lread_any ⟨#[103, 114, 111, 117, 112]⟩ nb 0 nc [(⟨#[]⟩, 16, 0)] (RdI.below h k.2) hL k.1 hN (by omega) (by omega) (by omega) (fun h0 => by have := hbw h0; omega) (by simp) (by simp) :
      Calls Tryz.prog 71 #[.agg #[.string ⟨#[103, 114, 111, 117, 112]⟩, .slice (some ⟨nb, 0, none⟩) [((⟨#[]⟩, 16, 0) : Nm)].length nc], .pointer (some ⟨b, 0, none⟩)] V _))
  have HT := Lib.hid (fun (V : World) (hV : Below (w.alloc (.cells #[.int .i64 0] 3)).heap.size (w.alloc (.cells #[.int .i64 0] 3)) V) => turned_below (box_kept hV).2 [b])
  simp only [lineR_group] at HRD
  obtain ⟨⟨v, s1⟩, hs1⟩ : ∃ x, fieldS L s groupB 16 = x := ⟨_, rfl⟩
  rw [hs1]
  simp only [hs1] at HRD
  simp only [List.length_singleton] at HRD
  clear h hL hs1 hb0 hbw
  go_enter Tryz.func73, Tryz.ntmps73
  go_wp2_with fail
  refine HG.out.mono ?_
  rintro r w1 ⟨nb, nc, rfl, hN, hnb, hb1⟩
  have HC := Lib.hid (HRD.out w1 hb1 nb nc hN (by simpa using hnb))
  have HT1 := Lib.hid (HT.out w1 hb1)
  clear hN hnb hb1
  go_wp2_with fail
  with_reducible refine HC.out.mono ?_
  rintro r w2 ⟨rfl, h1, h2, h3⟩
  have HR := Lib.hid h1
  have HT2 := Lib.hid (turned_in HT1.out (Nat.le_refl _) h3)
  have c0 := cell_at (k := 0) h2 (by simp)
  simp at c0
  clear h1 h2 h3
  go_wp2
  go_ret
  exact ⟨rfl, HR.out, HT2.out⟩
set_option maxRecDepth 100000 in
set_option maxHeartbeats 3200000 in
theorem readlock_any {w : World} {b : Nat} {ao : Option Addr} {bw off cap : Nat} {L : List Wd} {s : Rd} (h : RwI w b ao bw off cap L s) (hL : Clean L) :
    Calls Tryz.prog 75 #[.pointer (some ⟨b, 0, none⟩)] w fun r w' => r = .returned (.agg (lkA (lockQ L s).1)) ∧ RwP b ao bw off cap L (lockQ L s).2 w w' := by
  have hb0 := lt_of_block h.rd
  have hbw : 0 < L.length → bw < w.heap.size := fun h0 => (h.ws.at_ h0).2
  unfold lockQ
  have hsh : isR L s.1 1 sharedB = decide (nextR L s.1 = (1, sharedB, 0, 0)) := is_next hL (.inl rfl)
  obtain ⟨sh, hshe⟩ : ∃ sh, isR L s.1 1 sharedB = sh := ⟨_, rfl⟩
  have hq := fun W => eq_words (nextR L s.1) (1, sharedB, 0, 0) W
  rw [← hsh, hshe] at hq
  rw [hshe]
  have hnx := fun V (hV : RdI V b ao bw off cap L s.1 s.2) => next_any hV
  obtain ⟨y, hy⟩ : ∃ y, nextR L s.1 = y := ⟨_, rfl⟩
  rw [hy] at hq
  simp only [hy] at hnx
  unfold wdV at hq hnx
  obtain ⟨ty, hty⟩ : ∃ t : ByteArray, ⟨y.2.1.toArray⟩ = t := ⟨_, rfl⟩
  simp only [hty] at hq hnx
  obtain ⟨y0, _, y2, y3⟩ := y
  simp only at hq hnx
  obtain ⟨Z, hZ⟩ : ∃ Z, Z = Obj.cells #[.bool false, .int .i64 0, .int .i64 0, .int .i64 0, .int .i64 0] 48 := ⟨_, rfl⟩
  have HNX := Lib.hid (hnx (w.alloc Z) (RdI.below h ((Below.refl _ w).alloc (Nat.le_refl _) _)))
  rw [hZ] at HNX
  have HNM := Lib.hid (fun s W => pname_any s W)
  have HLL := Lib.hid (fun (V : World) (hV : Below (w.alloc (.cells #[.bool false, .int .i64 0, .int .i64 0, .int .i64 0, .int .i64 0] 48)).heap.size (w.alloc (.cells #[.bool false, .int .i64 0, .int .i64 0, .int .i64 0, .int .i64 0] 48)) V) => (by
    have h1 := heap_alloc_new V (.cells #[.bool sh, .int .i64 0, .int .i64 0, .int .i64 0, .int .i64 0] 48)
    have k := box_kept hV
    have hs := k.2.size
    have hz := lt_of_block k.1
    refine ⟨lockline_any V.heap.size _ sh (by simp) ?_, fun V2 hV2 nb nc hN hnb => ?_, fun V2 hV2 => ⟨?_, ?_⟩⟩
    · exact (five_cells h1).1
    · have k2 := box_kept hV2
      have hr := lread_any (lkF sh) nb 0 nc (lkN sh) (RdI.below (RdI.below h k.2) k2.2) hL k2.1 hN (by omega) (by omega) (by omega) (fun h0 => by have := hbw h0; omega) (by cases sh <;> simp [lkN]) (by cases sh <;> simp [lkN])
      rw [lineR_lock] at hr
      exact hr
    · exact turned_below (k.2.trans ((box_kept hV2).2.mono hs)) [b]
    · exact ((box_kept hV2).2.block _ hz).trans k.1 :
      Calls Tryz.prog 53 #[.pointer (some ⟨V.heap.size, 0, none⟩)] (V.alloc (.cells #[.bool sh, .int .i64 0, .int .i64 0, .int .i64 0, .int .i64 0] 48)) (LineP (lkF sh) (lkN sh) V.heap.size (V.alloc (.cells #[.bool sh, .int .i64 0, .int .i64 0, .int .i64 0, .int .i64 0] 48))) ∧
      (∀ (V2 : World) (hV2 : Below (V.alloc (.cells #[.bool sh, .int .i64 0, .int .i64 0, .int .i64 0, .int .i64 0] 48)).heap.size (V.alloc (.cells #[.bool sh, .int .i64 0, .int .i64 0, .int .i64 0, .int .i64 0] 48)) V2) (nb nc : Nat) (hN : NArg V2 nb 0 V.heap.size (lkN sh)) (hnb : V.heap.size + 1 ≤ nb),
        Calls Tryz.prog 71 #[.agg #[.string (lkF sh), .slice (some ⟨nb, 0, none⟩) (lkN sh).length nc], .pointer (some ⟨b, 0, none⟩)] V2 fun r w' => r = .returned (.tuple #[]) ∧ RwI w' b ao bw off cap L (lockS L (needS L s 1 (if sh then sharedB else lockB)) sh).2 ∧ w'.heap[V.heap.size]? = some (.cells (lkA (lockS L (needS L s 1 (if sh then sharedB else lockB)) sh).1) 48 (0, 0)) ∧ Turned [b, V.heap.size] V2 w') ∧
      (∀ (V2 : World) (hV2 : Below (V.alloc (.cells #[.bool sh, .int .i64 0, .int .i64 0, .int .i64 0, .int .i64 0] 48)).heap.size (V.alloc (.cells #[.bool sh, .int .i64 0, .int .i64 0, .int .i64 0, .int .i64 0] 48)) V2), Turned [b] w V2 ∧ V2.heap[w.heap.size]? = some (.cells #[.bool false, .int .i64 0, .int .i64 0, .int .i64 0, .int .i64 0] 48 (0, 0)))))
  have HSZ := Lib.hid hb0
  have HBW := Lib.hid (fun h0 => (by have := hbw h0; omega : bw ≠ w.heap.size))
  obtain ⟨⟨x, s'⟩, hs1⟩ : ∃ x, lockS L (needS L s 1 (if sh then sharedB else lockB)) sh = x := ⟨_, rfl⟩
  rw [hs1]
  simp only [hs1] at HLL
  clear h hL hs1 hb0 hbw hsh hshe hy hty hZ hnx
  go_enter Tryz.func75, Tryz.ntmps75
  go_wp2_with fail
  with_reducible refine HNX.out.mono ?_
  rintro r w1 ⟨rfl, hb1⟩
  have HB1 := Lib.hid hb1
  clear hb1
  go_wp2_with fail
  with_reducible refine (HNM.out _ _).mono ?_
  rintro r w2 ⟨rfl, hb2⟩
  have HB2 := Lib.hid (HB1.out.trans (hb2.mono HB1.out.size))
  clear hb2
  have HL := Lib.hid (HLL.out w2 HB2.out)
  go_wp2_with fail
  refine HL.out.1.mono ?_
  rintro r w3 ⟨nb, nc, rfl, hN, hnb, hb3⟩
  have HC := Lib.hid (HL.out.2.1 w3 hb3 nb nc hN (by simpa using hnb))
  have HT1 := Lib.hid (HL.out.2.2 w3 hb3)
  clear hN hnb hb3
  obtain ⟨n, hn⟩ : ∃ n, (lkN sh).length = n := ⟨_, rfl⟩
  rw [hn] at HC ⊢
  clear hn
  obtain ⟨lf, hlf⟩ : ∃ n, lkF sh = n := ⟨_, rfl⟩
  rw [hlf] at HC ⊢
  clear hlf
  go_wp2_with fail
  with_reducible refine HC.out.mono ?_
  rintro r w4 ⟨rfl, h1, h2, h3⟩
  have HR := Lib.hid h1
  have hsz : w.heap.size ≤ w2.heap.size := by have := HB2.out.size; simp at this; omega
  have hlt : w.heap.size < w2.heap.size := by have := HB2.out.size; simp at this; omega
  have HT2 := Lib.hid (turned_in HT1.out.1 hsz h3)
  have hz := (h3.block _ (lt_of_block HT1.out.2) (by have := HSZ.out; simp; omega)).trans HT1.out.2
  obtain ⟨c0, c1, c2, c3, c4, _⟩ := five_cells h2
  obtain ⟨z0, z1, z2, z3, z4, _⟩ := five_cells hz
  have f0 := not_frozen hz 0
  have f1 := not_frozen hz 1
  have f2 := not_frozen hz 2
  have f3 := not_frozen hz 3
  have f4 := not_frozen hz 4
  have HF := Lib.hid (five_stored hz x HT2.out HR.out (by have := HSZ.out; omega) HBW.out)
  clear h1 h2 h3 hz hlt hsz
  go_wp2
  refine bodyPost_ret (lk_res rfl rfl HF.out.1) rfl ?_
  exact ⟨rfl, HF.out.2⟩
end Go.Proofs.YtmcfjlkjijaflaaGreatDoor
