/-
  The program's Len, bucket, queue, seat.
-/
import Derived.Test.YtiffgkmmibhklaaWlTab
import Derived.Test.YtiffgkmmibhklaaGX
namespace Go.Proofs.Ytiffgkmmibhklaa
open Go.RowKit Go.Maps

/-- The bucket of a key. -/
def bI (nB : Nat) (a : Int) : Nat := (bucI a nB).toNat
theorem bI_eq (nB : Nat) (a : Int) : bucI a nB = (bI nB a : Int) := by
  have := (bucI_range a nB).1
  unfold bI
  omega
theorem bI_lt {nB : Nat} (h : 1 ≤ nB) (a : Int) : bI nB a < nB := by
  obtain ⟨h0, h1, h2⟩ := bucI_range a nB
  unfold bI
  by_cases h3 : (2 : Int) ≤ nB
  · have := h1 h3; omega
  · have := h2 (by omega); omega
theorem cellsB {w : World} {b : Nat} {x y z u v : Value} {t : TypeId} (h : w.heap[b]? = some (.cells #[x, y, z, u, v] t (0, 0))) :
    w.cell? ⟨b, 0, none⟩ = some x ∧ w.cell? ⟨b, 1, none⟩ = some y ∧ w.cell? ⟨b, 2, none⟩ = some z ∧ w.cell? ⟨b, 3, none⟩ = some u ∧ w.cell? ⟨b, 4, none⟩ = some v := by
  obtain ⟨h0, h1, h2, h3, h4, _⟩ := cells5 h
  exact ⟨h0, h1, h2, h3, h4⟩
/-- A bucket's slice, as it lies. -/
theorem WlP.slot {w : World} {b : Nat} {X : List Nat} {m e : Int} {nB : Nat} {R : Nat → List Ln} {f : Int → Option (Nat × Int)} {s g0 cap gm hb : Nat} {Xh : List Nat} {sv : Nat → Value} {DD : DataW Value} {col : Nat → Co} (h : WlP w b X m e nB R f s g0 cap gm hb Xh sv DD col) {i : Nat} (hi : i < nB) :
    w.cell? ⟨g0, i, none⟩ = some (sv i) ∧ ∀ j, w.frozen? ⟨g0, j, none⟩ = false := by
  refine ⟨?_, fun j => h.row.frozenAt _⟩
  rw [h.row.cellAt _ (by omega)]
  simp [hi]
theorem line_cells {w : World} {g n cap : Nat} {L : List Ln} (h : w.ownsRow 0 tLn 2 (.slice (some ⟨g, 0, none⟩) n cap) L.length (cellsOf encL L)) {j : Nat} (hj : j < L.length) :
    w.cell? ⟨g, j * 2, none⟩ = some (.int .i64 L[j].key) ∧ w.cell? ⟨g, j * 2 + 1, none⟩ = some (.pointer (some ⟨L[j].qb, 0, none⟩)) ∧ ∀ i, w.frozen? ⟨g, i, none⟩ = false := by
  have hn : n = L.length := by
    obtain ⟨_, _, h1, _⟩ := ownsRow_shape h
    simp at h1
    exact h1.2.1
  subst hn
  have r := row_cells encL_len h hj
  exact ⟨(r 0 (by omega)).1, (r 1 (by omega)).1, fun i => h.frozenAt _⟩

section
variable {w w' : World} {b : Nat} {X Y : List Nat} {m e : Int} {nB : Nat} {R : Nat → List Ln} {f : Int → Option (Nat × Int)} {s g0 cap gm hb : Nat} {Xh : List Nat} {sv : Nat → Value} {DD : DataW Value} {col : Nat → Co}
set_option maxHeartbeats 400000 in
theorem wlLen (h : WlP w b X m e nB R f s g0 cap gm hb Xh sv DD col) : Calls Try.prog 23 #[.pointer (some ⟨b, 0, none⟩)] w fun r w' => r = .returned (.int .i64 (s : Nat)) ∧ w = w' := by
  obtain ⟨_, _, _, c3, _⟩ := cellsB h.tab
  have hlen := fun ty => h.map.len (t := tMs) Try.underlying58 ty
  rw [h.siz] at hlen
  clear h
  go_enter Try.func23, Try.ntmps23
  go_wp2
  go_ret
  exact ⟨rfl, rfl⟩
set_option maxHeartbeats 400000 in
theorem wlLen_nil (w : World) : Calls Try.prog 23 #[.pointer none] w fun r w' => r = .returned (.int .i64 0) ∧ w = w' := by
  go_enter Try.func23, Try.ntmps23
  go_wp2
  go_ret
  exact ⟨rfl, rfl⟩

set_option maxHeartbeats 800000 in
theorem wlBucket (h : WlP w b X m e nB R f s g0 cap gm hb Xh sv DD col) (h1 : 1 ≤ nB ∧ nB ≤ 4096) (a : Int) :
    Calls Try.prog 58 #[.pointer (some ⟨b, 0, none⟩), .int .i64 a] w fun r w' => r = .returned (.pointer (some ⟨g0, bI nB a, none⟩)) ∧ ∃ n, w' = w.drewN n := by
  obtain ⟨_, _, c2, _, _⟩ := cellsB h.tab
  have hi := bI_lt h1.1 a
  have HB := Lib.hid (fun q : Nat => (buc_any a nB (w.drewN q) (by omega)).mono fun e w' (hh : e = .returned (.int .i64 (bucI a nB)) ∧ w.drewN q = w') => (⟨hh.1, 0, hh.2.symm⟩ : e = .returned (.int .i64 (bucI a nB)) ∧ ∃ n, w' = (w.drewN q).drewN n))
  rw [bI_eq] at HB
  obtain ⟨i, hii⟩ : ∃ i, bI nB a = i := ⟨_, rfl⟩
  rw [hii] at HB hi ⊢
  have i0 : (0 : Int) ≤ i := by omega
  have i1 : (i : Int) < nB := by omega
  clear h h1 hii
  go_enter Try.func58, Try.ntmps58
  go_wp2
  go_quiet ((go_at_call 74; exact Calls.quiet_of (HB.out _)))
  go_wp2
  go_ret
  exact ⟨rfl, _, rfl⟩

/-- The line of a key. -/
def lineOf (L : List Ln) (a : Int) : Option Ln := L.find? fun x => decide (x.key = a)
abbrev quePtr (o : Option Ln) : Value := .pointer (o.map fun x => (⟨x.qb, 0, none⟩ : Addr))

set_option maxHeartbeats 1600000 in
theorem wlQueue (h : WlP w b X m e nB R f s g0 cap gm hb Xh sv DD col) (h1 : 1 ≤ nB ∧ nB ≤ 4096) (h0 : s = 0 → ∀ i, i < nB → R i = []) (a : Int) :
    Calls Try.prog 41 #[.pointer (some ⟨b, 0, none⟩), .int .i64 a] w fun r w' => r = .returned (quePtr (lineOf (R (bI nB a)) a)) ∧ Turned [] w w' := by
  have hi := bI_lt h1.1 a
  have HL := Lib.hid (wlLen h)
  have HB := Lib.hid (wlBucket h h1 a)
  obtain ⟨i, hii⟩ : ∃ i, bI nB a = i := ⟨_, rfl⟩
  rw [hii] at HB hi ⊢
  obtain ⟨x0, _⟩ := h.slot hi
  have hbu := h.buc i hi
  have h0i := fun hs => h0 hs i hi
  obtain ⟨L, hL⟩ : ∃ L, R i = L := ⟨_, rfl⟩
  rw [hL] at hbu h0i ⊢
  obtain ⟨av, vcap, hv, hc1, hc2⟩ := ownsRow_shape hbu
  rw [hv] at x0 hbu
  have hlen : L.length ≤ 9223372036854775807 := by unfold maxLen at hc2; omega
  have HBU := Lib.hid hbu
  clear h hii hbu h0 hL hv hc1 hc2
  by_cases hs : s = 0
  · subst hs
    have hn := h0i rfl
    subst hn
    go_enter Try.func41, Try.ntmps41
    go_wp2_with fail
    refine HL.out.mono ?_
    rintro r w1 ⟨rfl, rfl⟩
    go_wp2
    go_ret
    exact ⟨rfl, Turned.refl _ _⟩
  · have hs1 : ((s : Int) == 0) = false := by simpa using hs
    have hs2 : ¬ (s : Int) = 0 := by simpa using hs
    go_enter Try.func41, Try.ntmps41
    go_wp2_with fail
    refine HL.out.mono ?_
    rintro r w1 ⟨rfl, rfl⟩
    go_wp2_with fail
    refine HB.out.mono ?_
    rintro r w1 ⟨rfl, n, rfl⟩
    have x1 : (w.drewN n).cell? ⟨g0, i, none⟩ = _ := x0
    have HT0 := Lib.hid ((Turned.refl [] w).drewN n)
    go_wp2
    go_loopw [16] (fun j wr => ∃ k : Nat, k ≤ L.length ∧ j = .int .i64 k ∧ Hid (∀ q (hq : q < L.length), q < k → decide (L[q].key = a) = false) ∧ Hid (Turned [] w wr)) (fun j _ => L.length - (intOf j).toNat)
    case atStart => exact ⟨0, Nat.zero_le _, rfl, Lib.hid fun q hq h => by omega, HT0⟩
    case round =>
      obtain ⟨k, hk, rfl, HP, HT⟩ := hrel
      by_cases hlt : k < L.length
      · have hr := ownsRow_same (w' := wr) HBU.out (fun j _ hl => HT.out.block j hl (by simp))
        obtain ⟨g, cap', hv, _, _⟩ := ownsRow_pos hr (by omega)
        simp only [Value.slice.injEq] at hv
        obtain ⟨rfl, _, rfl⟩ := hv
        obtain ⟨r0, r1, _⟩ := line_cells hr hlt
        obtain ⟨y, hy⟩ : ∃ y, L[k] = y := ⟨_, rfl⟩
        rw [hy] at r0 r1
        have HY := Lib.hid hy
        have i0 : (0 : Int) ≤ k := by omega
        have i1 : (k : Int) < L.length := by omega
        have TA := Lib.hid (HT.out.alloc (.cells #[.int .i64 y.key, .pointer (some ⟨y.qb, 0, none⟩)] tLn))
        clear hr hy
        by_cases hp : y.key = a
        · have z1 : (y.key == a) = true := by simpa using hp
          rw [hp] at TA
          go_wp2
          go_ret
          have hf : lineOf L a = some y := by
            unfold lineOf
            rw [List.find?_eq_some_iff_getElem]
            exact ⟨by simpa using hp, k, hlt, HY.out, fun q hq => by simpa using HP.out q (by omega) hq⟩
          rw [hf]
          exact ⟨rfl, TA.out⟩
        · have z1 : (y.key == a) = false := by simpa using hp
          go_wp2
          go_roundw
          case rel =>
            refine ⟨k + 1, by omega, by simp, Lib.hid fun q hq hqk => ?_, TA⟩
            by_cases e2 : q = k
            · subst e2
              rw [HY.out]
              simpa using hp
            · exact HP.out q hq (by omega)
          case measure => simp [intOf]; omega
      · obtain rfl : k = L.length := by omega
        go_wp2
        go_ret
        have hf : lineOf L a = none := by
          unfold lineOf
          rw [List.find?_eq_none]
          intro x hx
          obtain ⟨q, hq, rfl⟩ := List.getElem_of_mem hx
          simpa using HP.out q hq hq
        rw [hf]
        exact ⟨rfl, HT.out⟩
set_option maxHeartbeats 400000 in
theorem wlQueue_nil (a : Int) (w : World) : Calls Try.prog 41 #[.pointer none, .int .i64 a] w fun r w' => r = .returned (.pointer none) ∧ w = w' := by
  have HL := Lib.hid (wlLen_nil w)
  go_enter Try.func41, Try.ntmps41
  go_wp2_with fail
  refine HL.out.mono ?_
  rintro r w1 ⟨rfl, rfl⟩
  go_wp2
  go_ret
  exact ⟨rfl, rfl⟩

theorem st_result {fn : Func} {p : Tmp} (hf : fn.results = #[.cell p tSt]) {tmps : Array Value} {w : World} {B : Nat} {x y : Value} (hp : tmps.getD p undef = .pointer (some ⟨B, 0, none⟩))
    (h : w.heap[B]? = some (.cells #[x, y] tSt (0, 0))) : (results fn tmps).run Try.prog w = .ok (.agg #[x, y]) w := by
  obtain ⟨h0, h1, _⟩ := two_cells h
  rw [results_c hf, hp]
  simp [loadVar, go_sem, h0, h1]
theorem st_stored {w : World} {B : Nat} {x y x' y' : Value} {t : TypeId} (h : w.heap[B]? = some (.cells #[x, y] t (0, 0))) :
    ((w.setCell ⟨B, 0, none⟩ x').setCell ⟨B, 1, none⟩ y').heap[B]? = some (.cells #[x', y'] t (0, 0)) := by
  rw [heap_setCell_same _ _ _ _ _ _ (heap_setCell_same _ _ _ _ _ _ h)]
  rfl
theorem zeroSt (w : World) : (zeroValue tSt).run Try.prog w = .ok seat0 w := by kernel_rfl
set_option maxHeartbeats 800000 in
theorem wlSeat_some (h : WlP w b X m e nB R f s g0 cap gm hb Xh sv DD col) {a : Int} (ha : (litN a).wf = true) {q : Nat} {t : Int} (hf : f a = some (q, t)) :
    Calls Try.prog 35 #[.pointer (some ⟨b, 0, none⟩), .int .i64 a] w fun r w' => r = .returned (seatV (q, t)) ∧ Turned [] w w' := by
  obtain ⟨W, hW⟩ : ∃ W, w.alloc (.cells #[.pointer none, .int .i64 0] tSt) = W := ⟨_, rfl⟩
  have TW : Turned [] w W := hW ▸ (Turned.refl [] w).alloc _
  have KW : W.heap[w.heap.size]? = some (.cells #[.pointer none, .int .i64 0] tSt (0, 0)) := hW ▸ heap_alloc_new w _
  have h' := h.keep0 TW
  obtain ⟨_, _, _, c3, _⟩ := cellsB h'.tab
  have hlook := lookV_one (z := seat0) Try.underlying58 (zeroSt W) h'.map h'.red ha
  simp only [hf, Option.map_some, Option.getD_some] at hlook
  obtain ⟨k0, k1, kf⟩ := two_cells KW
  have kf0 := kf 0
  have kf1 := kf 1
  have MM := Lib.hid KW
  have HT := Lib.hid TW
  clear h h' KW TW kf hf
  go_enter Try.func35, Try.ntmps35
  go_wp2_with fail
  (try simp only [Exit.inBlock, Exit.then])
  (try simp only [hW])
  refine bodyPost_ret (st_result rfl rfl (st_stored MM.out)) rfl ?_
  exact ⟨rfl, (HT.out.setCell (.inr (Nat.le_refl _)) _).setCell (.inr (Nat.le_refl _)) _⟩
set_option maxHeartbeats 800000 in
theorem wlSeat_none (h : WlP w b X m e nB R f s g0 cap gm hb Xh sv DD col) {a : Int} (ha : (litN a).wf = true) (hf : f a = none) :
    Calls Try.prog 35 #[.pointer (some ⟨b, 0, none⟩), .int .i64 a] w fun r w' => r = .returned seat0 ∧ Turned [] w w' := by
  obtain ⟨W, hW⟩ : ∃ W, w.alloc (.cells #[.pointer none, .int .i64 0] tSt) = W := ⟨_, rfl⟩
  have TW : Turned [] w W := hW ▸ (Turned.refl [] w).alloc _
  have KW : W.heap[w.heap.size]? = some (.cells #[.pointer none, .int .i64 0] tSt (0, 0)) := hW ▸ heap_alloc_new w _
  have h' := h.keep0 TW
  obtain ⟨_, _, _, c3, _⟩ := cellsB h'.tab
  have hlook := lookV_one (z := seat0) Try.underlying58 (zeroSt W) h'.map h'.red ha
  simp only [hf, Option.map_none, Option.getD_none] at hlook
  obtain ⟨k0, k1, kf⟩ := two_cells KW
  have kf0 := kf 0
  have kf1 := kf 1
  have MM := Lib.hid KW
  have HT := Lib.hid TW
  clear h h' KW TW kf hf
  go_enter Try.func35, Try.ntmps35
  go_wp2_with fail
  (try simp only [Exit.inBlock, Exit.then])
  (try simp only [hW])
  refine bodyPost_ret (st_result rfl rfl (st_stored MM.out)) rfl ?_
  exact ⟨rfl, (HT.out.setCell (.inr (Nat.le_refl _)) _).setCell (.inr (Nat.le_refl _)) _⟩
set_option maxHeartbeats 800000 in
theorem wlSeat_nil (a : Int) (w : World) :
    Calls Try.prog 35 #[.pointer none, .int .i64 a] w fun r w' => r = .returned seat0 ∧ Turned [] w w' := by
  obtain ⟨W, hW⟩ : ∃ W, w.alloc (.cells #[.pointer none, .int .i64 0] tSt) = W := ⟨_, rfl⟩
  have TW : Turned [] w W := hW ▸ (Turned.refl [] w).alloc _
  have KW : W.heap[w.heap.size]? = some (.cells #[.pointer none, .int .i64 0] tSt (0, 0)) := hW ▸ heap_alloc_new w _
  obtain ⟨k0, k1, kf⟩ := two_cells KW
  have kf0 := kf 0
  have kf1 := kf 1
  have MM := Lib.hid KW
  have HT := Lib.hid TW
  clear KW TW kf
  go_enter Try.func35, Try.ntmps35
  go_wp2_with fail
  (try simp only [Exit.inBlock, Exit.then])
  (try simp only [hW])
  refine bodyPost_ret (st_result rfl rfl (st_stored MM.out)) rfl ?_
  exact ⟨rfl, (HT.out.setCell (.inr (Nat.le_refl _)) _).setCell (.inr (Nat.le_refl _)) _⟩
end
end Go.Proofs.Ytiffgkmmibhklaa
