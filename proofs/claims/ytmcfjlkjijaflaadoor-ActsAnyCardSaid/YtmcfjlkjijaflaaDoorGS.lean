/-
  Texts in memory; what a call leaves as it was.
  Words as values, in cells, in rows; what Scan and Join answer.
  Ops and programs as values, in cells, in rows.
  Rows of bytes.
-/
import Derived.Test.YtmcfjlkjijaflaaDoorChecked
import Derived.Test.YtmcfjlkjijaflaaDoorGA
import Derived.Test.YtmcfjlkjijaflaaDoorGT
import Derived.Lib.Hide
import Derived.Lib.Strings
import Derived.Lib.ConvBytes
import Derived.Laws.IdiomStrings
import Derived.Sort.Grow
import Derived.WalkKit
import Derived.LoopTactic
import Derived.OwnWalk
import Derived.Laws.AppendOwn
import Derived.Laws.OwnMore
import Derived.Laws.ResultCell
import Derived.IntWalk
import Derived.Lib.AppendStr
import Derived.Lib.BufferRead

/- Texts in memory; what a call leaves as it was. -/
namespace Go.Proofs.YtmcfjlkjijaflaaDoor
open Go.RowKit

theorem geb (c : By) (k : Nat) : decide ((k : Int) ≤ (c.toNat : Int)) = decide (k ≤ c.toNat) := by rw [Bool.eq_iff_iff]; simp
theorem leb (c : By) (k : Nat) : decide ((c.toNat : Int) ≤ (k : Int)) = decide (c.toNat ≤ k) := by rw [Bool.eq_iff_iff]; simp
theorem eqb (c : By) (k : Nat) : (((c.toNat : Nat) : Int) == (k : Int)) = decide (c.toNat = k) := by rw [Bool.eq_iff_iff]; simp; omega
theorem neb (c : By) (k : Nat) : (((c.toNat : Nat) : Int) != (k : Int)) = !decide (c.toNat = k) := by rw [bne, eqb]
theorem ne3 (k : Int) : (k != 3) = !decide (k = 3) := by rw [Bool.eq_iff_iff]; simp
theorem byte_drop (s : ByteArray) (k : Nat) (h : k < s.size) : s.data.toList.drop k = s[k] :: s.data.toList.drop (k + 1) := by
  rw [List.drop_eq_getElem_cons (by rw [← Lib.size_eq]; exact h)]
  rfl
theorem drop_end (s : ByteArray) (k : Nat) (h : s.size ≤ k) : s.data.toList.drop k = [] := List.drop_eq_nil_of_le (by rw [← Lib.size_eq]; exact h)
theorem head_at (s : ByteArray) (h : 0 < s.size) : s.data.toList.headD 0 = s[0] := by
  have := byte_drop s 0 h
  rw [List.drop_zero] at this
  rw [this]
  rfl
theorem bl_from (s : ByteArray) (k : Nat) : (s.extract k s.size).data.toList = s.data.toList.drop k := by
  rw [Lib.extract_data]
  exact List.take_of_length_le (by rw [List.length_drop, ← Lib.size_eq]; omega)
theorem size_from (s : ByteArray) (k : Nat) : (s.extract k s.size).size = s.size - k := by
  rw [Lib.size_eq, bl_from, List.length_drop, ← Lib.size_eq]
theorem bl_to (s : ByteArray) (k : Nat) : (s.extract 0 k).data.toList = s.data.toList.take k := by
  rw [Lib.extract_data, List.drop_zero, Nat.sub_zero]
theorem size_to (s : ByteArray) (k : Nat) (h : k ≤ s.size) : (s.extract 0 k).size = k := by
  rw [Lib.size_eq, bl_to, List.length_take, ← Lib.size_eq]; omega
theorem mk_to (s : ByteArray) (k : Nat) : (⟨(s.data.toList.take k).toArray⟩ : ByteArray) = s.extract 0 k := by
  rw [← bl_to, Lib.mk_data]
theorem bcell {W w1 : World} (hb : Below W.heap.size W w1) : (∀ b o, b < W.heap.size → w1.cell? ⟨b, o, none⟩ = W.cell? ⟨b, o, none⟩) ∧ (∀ b o, b < W.heap.size → w1.frozen? ⟨b, o, none⟩ = W.frozen? ⟨b, o, none⟩) :=
  ⟨fun b o h => hb.cell (p := ⟨b, o, none⟩) h, fun b o h => hb.frozen (p := ⟨b, o, none⟩) h⟩
theorem row_below {w W : World} {base : Nat} {e : TypeId} {size : Nat} {v : Value} {n : Nat} {xs : List Value} (h : w.ownsRow base e size v n xs) (hb : Below w.heap.size w W) : W.ownsRow base e size v n xs :=
  ownsRow_same h fun k _ hk => hb.block k hk
theorem app_below {n₀ : Nat} {wr w1 w2 : World} {base : Nat} {e : TypeId} {size : Nat} {v : Value} {k : Nat} {xs : List Value} {w : World} (hb : Below n₀ w w1) (hn : n₀ ≤ w.heap.size) (hbase : n₀ ≤ base) (hown : wr.ownsRow base e size v k xs) (hg : w1.grownBy w2 v.ownBlock) : Below n₀ w w2 :=
  hb.grown hg (Nat.le_trans hn hb.size) (fun j hj => by
    have := (hown.lt j hj).1
    omega)
theorem below_drewN {B : Nat} {a b : World} (h : Below B a b) (n : Nat) : Below B a (b.drewN n) := ⟨h.os, h.tape, h.output, h.size, h.block⟩
theorem bytes_below (w : World) (e : TypeId) (s : ByteArray) : Below w.heap.size w (Lib.bytesWorld w e s) :=
  ⟨rfl, rfl, rfl, by rw [Lib.bytesWorld_size]; omega, fun k hk => Lib.bytesWorld_at_old w e s k hk⟩
theorem grow_below (w : World) (k : Nat) (os : Array Obj) : Below w.heap.size w (Go.Sort.grow (w.drewN k) os) := by
  refine ⟨rfl, rfl, rfl, ?_, fun j hj => ?_⟩
  · show w.heap.size ≤ (w.heap ++ os).size
    rw [Array.size_append]; omega
  · show (w.heap ++ os)[j]? = w.heap[j]?
    rw [Array.getElem?_append_left hj]
theorem one_cell (W : World) (v : Value) (t : TypeId) : (W.alloc (Obj.cells #[v] t)).cell? ⟨W.heap.size, 0, none⟩ = some v := by simp
theorem ba_add (a b : ByteArray) : (a ++ b).data.toList = a.data.toList ++ b.data.toList ∧ (a ++ b).size = a.size + b.size := by
  constructor
  · simp [ByteArray.data_append]
  · simp
theorem add_run (a b : ByteArray) (h : a.size + b.size ≤ 1000000) (W : World) : (Op.stringOp .add a b).run Tryd.prog W = .ok (.string (a ++ b)) W := run_string_add_sum W a b (by omega)
theorem str_add (x y : List By) (h : x.length + y.length ≤ 1000000) (W : World) : (Op.stringOp .add ⟨x.toArray⟩ ⟨y.toArray⟩).run Tryd.prog W = .ok (.string ⟨(x ++ y).toArray⟩) W := by
  rw [run_string_add_sum W _ _ (by simp only [ByteArray.size, List.size_toArray]; omega), ByteArray.mk_append_mk]
section
variable (s : ByteArray)
theorem run_le (q : By → Bool) : (s.data.toList.takeWhile q).length ≤ s.size := by
  rw [Lib.size_eq]; exact (List.takeWhile_sublist _).length_le
end
end Go.Proofs.YtmcfjlkjijaflaaDoor

/- Words as values, in cells, in rows; what Scan and Join answer. -/
namespace Go.Proofs.YtmcfjlkjijaflaaDoor
open Go.RowKit

/-- A word as a value; its cells. -/
def wdC (w : Wd) : List Value := [.int .i64 w.1, .string ⟨w.2.1.toArray⟩, .int .i64 w.2.2.1, .int .i64 w.2.2.2]
def wdV (w : Wd) : Value := .agg #[.int .i64 w.1, .string ⟨w.2.1.toArray⟩, .int .i64 w.2.2.1, .int .i64 w.2.2.2]
theorem word_cells {w : World} {B : Nat} {a b c d : Value} {t : TypeId} (h : w.heap[B]? = some (.cells #[a, b, c, d] t (0, 0))) :
    w.cell? ⟨B, 0, none⟩ = some a ∧ w.cell? ⟨B, 1, none⟩ = some b ∧ w.cell? ⟨B, 2, none⟩ = some c ∧ w.cell? ⟨B, 3, none⟩ = some d := by
  refine ⟨?_, ?_, ?_, ?_⟩ <;> simp [World.cell?, h]
theorem word_stored {w : World} {B : Nat} {a b c d a' b' c' d' : Value} {t : TypeId} (h : w.heap[B]? = some (.cells #[a, b, c, d] t (0, 0))) :
    ((((w.setCell ⟨B, 0, none⟩ a').setCell ⟨B, 1, none⟩ b').setCell ⟨B, 2, none⟩ c').setCell ⟨B, 3, none⟩ d').heap[B]? = some (.cells #[a', b', c', d'] t (0, 0)) := by
  rw [heap_setCell_same _ _ _ _ _ _ (heap_setCell_same _ _ _ _ _ _ (heap_setCell_same _ _ _ _ _ _ (heap_setCell_same _ _ _ _ _ _ h)))]
  rfl
theorem word_result {fn : Func} {p u : Tmp} (hf : fn.results = #[.cell p 74, .tmp u]) {tmps : Array Value} {w : World} {B : Nat} {a b c d v : Value} (hp : tmps.getD p undef = .pointer (some ⟨B, 0, none⟩)) (hu : tmps.getD u undef = v) (h : w.heap[B]? = some (.cells #[a, b, c, d] 74 (0, 0))) :
    (results fn tmps).run Tryd.prog w = .ok (.tuple #[.agg #[a, b, c, d], v]) w := by
  obtain ⟨h0, h1, h2, h3⟩ := word_cells h
  rw [results_cell_tmp hf, hp, hu]
  simp [loadVar, go_sem, h0, h1, h2, h3]
theorem results_cell_tmp2 {fn : Func} {p u v : Tmp} {ty : TypeId} (h : fn.results = #[.cell p ty, .tmp u, .tmp v]) (tmps : Array Value) (P : Program) (w : World) :
    (results fn tmps).run P w =
      ((asAddr (tmps.getD p undef)).run P w).andThen fun a w₁ => ((loadVar ty a).run P w₁).andThen fun x w₂ => .ok (.tuple #[x, tmps.getD u undef, tmps.getD v undef]) w₂ := by
  simp only [results, h]
  simp [Sem.run_bind, Result.andThen]
theorem word_result2 {fn : Func} {p u v : Tmp} (hf : fn.results = #[.cell p 74, .tmp u, .tmp v]) {tmps : Array Value} {w : World} {B : Nat} {a b c d x y : Value} (hp : tmps.getD p undef = .pointer (some ⟨B, 0, none⟩)) (hu : tmps.getD u undef = x) (hv : tmps.getD v undef = y) (h : w.heap[B]? = some (.cells #[a, b, c, d] 74 (0, 0))) :
    (results fn tmps).run Tryd.prog w = .ok (.tuple #[.agg #[a, b, c, d], x, y]) w := by
  obtain ⟨h0, h1, h2, h3⟩ := word_cells h
  rw [results_cell_tmp2 hf, hp, hu, hv]
  simp [loadVar, go_sem, h0, h1, h2, h3]
abbrev zeroW : Obj := .cells #[.int .i64 0, .string ⟨#[]⟩, .int .i64 0, .int .i64 0] 74
/-- Behind a call that made memory, the word's own block. -/
theorem word_kept {w w2 : World} (hb : Below (w.alloc zeroW).heap.size (w.alloc zeroW) w2) : w2.heap[w.heap.size]? = some zeroW ∧ Below w.heap.size w w2 := by
  refine ⟨(hb.block _ (by simp)).trans (heap_alloc_new w _), ((Below.refl _ w).alloc (Nat.le_refl _) _).trans (hb.mono (by simp))⟩
theorem word_below {w w2 : World} {B : Nat} (hb : Below w.heap.size w w2) (hB : w.heap.size ≤ B) (a b c d : Value) :
    Below w.heap.size w ((((w2.setCell ⟨B, 0, none⟩ a).setCell ⟨B, 1, none⟩ b).setCell ⟨B, 2, none⟩ c).setCell ⟨B, 3, none⟩ d) :=
  (((hb.setCell hB _).setCell hB _).setCell hB _).setCell hB _
theorem wdC_len (x : Wd) : (wdC x).length = 4 := rfl
abbrev wdsC (L : List Wd) : List Value := L.flatMap wdC
theorem wdsC_len : ∀ L : List Wd, (wdsC L).length = L.length * 4
  | [] => rfl
  | x :: L => by
    have := wdsC_len L
    simp only [wdsC, List.flatMap_cons, List.length_append, wdC_len, List.length_cons] at this ⊢
    omega
theorem wdsC_get : ∀ (L : List Wd) (j i : Nat) (hj : j < L.length), i < 4 → (wdsC L)[j * 4 + i]? = (wdC L[j])[i]?
  | x :: L, 0, i, _, hi => by
    simp only [wdsC, List.flatMap_cons, Nat.zero_mul, Nat.zero_add, List.getElem_cons_zero]
    rw [List.getElem?_append_left (by rw [wdC_len]; exact hi)]
  | x :: L, j + 1, i, hj, hi => by
    have ih := wdsC_get L j i (by simpa using hj) hi
    have e : (j + 1) * 4 + i = (wdC x).length + (j * 4 + i) := by rw [wdC_len]; omega
    simp only [wdsC, List.flatMap_cons, List.getElem_cons_succ] at ih ⊢
    rw [e, List.getElem?_append_right (by omega), Nat.add_sub_cancel_left]
    exact ih
theorem wdsC_snoc (L : List Wd) (x : Wd) : wdsC (L ++ [x]) = wdsC L ++ wdC x := by simp [wdsC]
/-- A row of words. -/
abbrev WRow (base : Nat) (w : World) (v : Value) (L : List Wd) : Prop := w.ownsRow base 74 4 v L.length (wdsC L)
/-- The cells of a word of a row. -/
theorem row_word {base : Nat} {w : World} {g n cap : Nat} {L : List Wd} (h : WRow base w (.slice (some ⟨g, 0, none⟩) n cap) L) (j : Nat) (hj : j < L.length) :
    w.cell? ⟨g, j * 4, none⟩ = some (.int .i64 L[j].1) ∧ w.cell? ⟨g, j * 4 + 1, none⟩ = some (.string ⟨L[j].2.1.toArray⟩) ∧ w.cell? ⟨g, j * 4 + 2, none⟩ = some (.int .i64 L[j].2.2.1) ∧ w.cell? ⟨g, j * 4 + 3, none⟩ = some (.int .i64 L[j].2.2.2) := by
  obtain ⟨_, _, h1, _⟩ := ownsRow_shape h
  simp only [Value.slice.injEq] at h1
  obtain ⟨_, rfl, _⟩ := h1
  refine ⟨?_, ?_, ?_, ?_⟩
  · rw [h.cellAt _ (by omega)]; exact wdsC_get L j 0 hj (by omega)
  · rw [h.cellAt _ (by omega)]; exact wdsC_get L j 1 hj (by omega)
  · rw [h.cellAt _ (by omega)]; exact wdsC_get L j 2 hj (by omega)
  · rw [h.cellAt _ (by omega)]; exact wdsC_get L j 3 hj (by omega)
theorem word_info : (Tryd.prog.info? 74).map (fun i => (i.zero, i.size, i.bytes)) = some (some (.agg #[.int .i64 0, .string ⟨#[]⟩, .int .i64 0, .int .i64 0]), 4, 40) := by kernel_rfl
theorem word_new (W : World) (a b c d : Value) (t : TypeId) : ∀ (j : Nat) (u : Value), [a, b, c, d][j]? = some u → (W.alloc (.cells #[a, b, c, d] t)).cell? ((⟨W.heap.size, 0, none⟩ : Addr).add j) = some u := by
  intro j u hj
  rw [Addr.add_lit]
  match j, hj with
  | 0, hj => simp at hj; subst hj; simp
  | 1, hj => simp at hj; subst hj; simp
  | 2, hj => simp at hj; subst hj; simp
  | 3, hj => simp at hj; subst hj; simp
def ScanPost (l : List By) (w : World) (e : Ending) (w' : World) : Prop :=
  ∃ v, e = .returned (.tuple #[v, .int .i64 (scanA l).2.1, .int .i64 (scanA l).2.2]) ∧ WRow w.heap.size w' v (scanA l).1 ∧ Below w.heap.size w w'
theorem post_err {l : List By} {k : Nat} (h : scanA l = ([], (k : Int), 5)) {w w' : World} (hb : Below w.heap.size w w') : ScanPost l w (.returned (.tuple #[.slice none 0 0, .int .i64 k, .int .i64 5])) w' := by
  unfold ScanPost
  rw [h]
  exact ⟨_, rfl, World.ownsRow_nil _ _ _ _, hb⟩
theorem post_ok {l : List By} {ws : List Wd} (h : scanA l = (ws, 0, 0)) {w w' : World} {v : Value} (hr : WRow w.heap.size w' v ws) (hb : Below w.heap.size w w') : ScanPost l w (.returned (.tuple #[v, .int .i64 0, .int .i64 0])) w' := by
  unfold ScanPost
  rw [h]
  exact ⟨_, rfl, hr, hb⟩
/-- A slice of words, as it is read. -/
structure WArg (w : World) (ao : Option Addr) (b off : Nat) (L : List Wd) : Prop where
  at_ : 0 < L.length → ao = some ⟨b, off, none⟩ ∧ b < w.heap.size
  cells : ∀ i (hi : i < L.length), w.cell? ⟨b, off + i * 4, none⟩ = some (.int .i64 L[i].1) ∧ w.cell? ⟨b, off + i * 4 + 1, none⟩ = some (.string ⟨L[i].2.1.toArray⟩) ∧ w.cell? ⟨b, off + i * 4 + 2, none⟩ = some (.int .i64 L[i].2.2.1) ∧ w.cell? ⟨b, off + i * 4 + 3, none⟩ = some (.int .i64 L[i].2.2.2)
theorem WArg.below {w w' : World} {ao : Option Addr} {b off : Nat} {L : List Wd} (h : WArg w ao b off L) (hb : Below w.heap.size w w') : WArg w' ao b off L := by
  refine ⟨fun h0 => ⟨(h.at_ h0).1, Nat.lt_of_lt_of_le (h.at_ h0).2 hb.size⟩, fun i hi => ?_⟩
  have hl := (h.at_ (by omega)).2
  obtain ⟨h0, h1, h2, h3⟩ := h.cells i hi
  exact ⟨(hb.cell (p := ⟨b, off + i * 4, none⟩) hl).trans h0, (hb.cell (p := ⟨b, off + i * 4 + 1, none⟩) hl).trans h1, (hb.cell (p := ⟨b, off + i * 4 + 2, none⟩) hl).trans h2, (hb.cell (p := ⟨b, off + i * 4 + 3, none⟩) hl).trans h3⟩
theorem WArg.row_at {base : Nat} {w : World} {g n cap : Nat} {L : List Wd} (h : WRow base w (.slice (some ⟨g, 0, none⟩) n cap) L) : WArg w (some ⟨g, 0, none⟩) g 0 L :=
  ⟨fun _ => ⟨rfl, (h.lt g (by simp [Value.ownBlock])).2⟩, fun i hi => by
    have hr := row_word h i hi
    simpa using hr⟩
theorem WArg.of_row {base : Nat} {w : World} {v : Value} {L : List Wd} (h : WRow base w v L) : ∃ ao b cap, v = .slice ao L.length cap ∧ WArg w ao b 0 L := by
  by_cases h0 : 0 < L.length
  · obtain ⟨g, cap, rfl, _, _⟩ := ownsRow_pos h h0
    refine ⟨_, g, cap, rfl, fun _ => ⟨rfl, (h.lt g (by simp [Value.ownBlock])).2⟩, fun i hi => ?_⟩
    have hr := row_word h i hi
    simpa using hr
  · obtain ⟨a, cap, rfl, _, _⟩ := ownsRow_shape h
    exact ⟨a, 0, cap, rfl, fun h => absurd h h0, fun i hi => by omega⟩
theorem textR_len {x : Wd} {s : List By} (h : textR x = some s) (hx : x.2.1.length ≤ 40) : s.length ≤ 40 := by
  unfold textR at h
  split at h
  · split at h
    · next hc =>
      obtain ⟨_, h0, h9⟩ := hc
      simp only [Option.some.injEq] at h
      rw [← h]
      have := digits_len 8 x.2.2.1.toNat (by omega)
      omega
    · cases h
  · split at h
    · cases h
    · split at h
      · cases h
      · next c t e =>
        split at h
        · simp only [Option.some.injEq] at h
          rw [← h, ← e]
          exact hx
        · cases h
/-- What add makes of a text. -/
def addR (out s : List By) : List By := (if out ≠ [] ∧ s ≠ [59] then out ++ [32] else out) ++ s
theorem addR_len (out s : List By) : (addR out s).length ≤ out.length + s.length + 1 := by
  unfold addR
  split <;> simp <;> omega
theorem joinF_cons (x : Wd) (L : List Wd) (out : List By) : joinF (x :: L) out = match textR x with | some s => joinF L (addR out s) | none => none := rfl
def JoinPost (L : List Wd) (w : World) (e : Ending) (w' : World) : Prop := e = .returned (.tuple #[.string ⟨(joinA L).1.toArray⟩, .int .i64 (joinA L).2]) ∧ Below w.heap.size w w'
theorem join_none {L : List Wd} (h : joinF L [] = none) {w w' : World} (hb : Below w.heap.size w w') : JoinPost L w (.returned (.tuple #[.string ⟨#[]⟩, .int .i64 1])) w' := by
  unfold JoinPost joinA
  rw [h]
  exact ⟨rfl, hb⟩
theorem join_some {L : List Wd} {out : List By} (h : joinF L [] = some out) (hl : out.length ≤ 8000) {w w' : World} (hb : Below w.heap.size w w') : JoinPost L w (.returned (.tuple #[.string ⟨out.toArray⟩, .int .i64 0])) w' := by
  unfold JoinPost joinA
  rw [h]
  simp only
  rw [if_neg (by omega)]
  exact ⟨rfl, hb⟩
end Go.Proofs.YtmcfjlkjijaflaaDoor

/- Ops and programs as values, in cells, in rows. -/
namespace Go.Proofs.YtmcfjlkjijaflaaDoor
open Go.RowKit

/-- An op as a value; its cells; those of many. -/
def opC (o : Opn) : List Value := [.int .i64 o.1, .int .i64 o.2.1, .int .i64 o.2.2]
def opV (o : Opn) : Value := .agg #[.int .i64 o.1, .int .i64 o.2.1, .int .i64 o.2.2]
abbrev opsC (L : List Opn) : List Value := L.flatMap opC
theorem opC_len (x : Opn) : (opC x).length = 3 := rfl
theorem opsC_len : ∀ L : List Opn, (opsC L).length = L.length * 3
  | [] => rfl
  | x :: L => by
    have := opsC_len L
    simp only [opsC, List.flatMap_cons, List.length_append, opC_len, List.length_cons] at this ⊢
    omega
theorem opsC_get : ∀ (L : List Opn) (j i : Nat) (hj : j < L.length), i < 3 → (opsC L)[j * 3 + i]? = (opC L[j])[i]?
  | x :: L, 0, i, _, hi => by
    simp only [opsC, List.flatMap_cons, Nat.zero_mul, Nat.zero_add, List.getElem_cons_zero]
    rw [List.getElem?_append_left (by rw [opC_len]; exact hi)]
  | x :: L, j + 1, i, hj, hi => by
    have ih := opsC_get L j i (by simpa using hj) hi
    have e : (j + 1) * 3 + i = (opC x).length + (j * 3 + i) := by rw [opC_len]; omega
    simp only [opsC, List.flatMap_cons, List.getElem_cons_succ] at ih ⊢
    rw [e, List.getElem?_append_right (by omega), Nat.add_sub_cancel_left]
    exact ih
theorem opsC_snoc (L : List Opn) (x : Opn) : opsC (L ++ [x]) = opsC L ++ opC x := by simp [opsC]
/-- A row of ops. -/
abbrev ORow (base : Nat) (w : World) (v : Value) (L : List Opn) : Prop := w.ownsRow base 39 3 v L.length (opsC L)
theorem row_op {base : Nat} {w : World} {g n cap : Nat} {L : List Opn} (h : ORow base w (.slice (some ⟨g, 0, none⟩) n cap) L) (j : Nat) (hj : j < L.length) :
    w.cell? ⟨g, j * 3, none⟩ = some (.int .i64 L[j].1) ∧ w.cell? ⟨g, j * 3 + 1, none⟩ = some (.int .i64 L[j].2.1) ∧ w.cell? ⟨g, j * 3 + 2, none⟩ = some (.int .i64 L[j].2.2) := by
  obtain ⟨_, _, h1, _⟩ := ownsRow_shape h
  simp only [Value.slice.injEq] at h1
  obtain ⟨_, rfl, _⟩ := h1
  refine ⟨?_, ?_, ?_⟩
  · rw [h.cellAt _ (by omega)]; exact opsC_get L j 0 hj (by omega)
  · rw [h.cellAt _ (by omega)]; exact opsC_get L j 1 hj (by omega)
  · rw [h.cellAt _ (by omega)]; exact opsC_get L j 2 hj (by omega)
theorem op_info : (Tryd.prog.info? 39).map (fun i => (i.zero, i.size, i.bytes)) = some (some (.agg #[.int .i64 0, .int .i64 0, .int .i64 0]), 3, 24) := by kernel_rfl
/-- A slice of ops, as it is read. -/
structure OArg (w : World) (ao : Option Addr) (b off : Nat) (L : List Opn) : Prop where
  at_ : 0 < L.length → ao = some ⟨b, off, none⟩ ∧ b < w.heap.size
  cells : ∀ i (hi : i < L.length), w.cell? ⟨b, off + i * 3, none⟩ = some (.int .i64 L[i].1) ∧ w.cell? ⟨b, off + i * 3 + 1, none⟩ = some (.int .i64 L[i].2.1) ∧ w.cell? ⟨b, off + i * 3 + 2, none⟩ = some (.int .i64 L[i].2.2)
theorem OArg.below {w w' : World} {ao : Option Addr} {b off : Nat} {L : List Opn} (h : OArg w ao b off L) (hb : Below w.heap.size w w') : OArg w' ao b off L := by
  refine ⟨fun h0 => ⟨(h.at_ h0).1, Nat.lt_of_lt_of_le (h.at_ h0).2 hb.size⟩, fun i hi => ?_⟩
  have hl := (h.at_ (by omega)).2
  obtain ⟨h0, h1, h2⟩ := h.cells i hi
  exact ⟨(hb.cell (p := ⟨b, off + i * 3, none⟩) hl).trans h0, (hb.cell (p := ⟨b, off + i * 3 + 1, none⟩) hl).trans h1, (hb.cell (p := ⟨b, off + i * 3 + 2, none⟩) hl).trans h2⟩
theorem OArg.of_row {base : Nat} {w : World} {v : Value} {L : List Opn} (h : ORow base w v L) : ∃ ao b cap, v = .slice ao L.length cap ∧ OArg w ao b 0 L := by
  by_cases h0 : 0 < L.length
  · obtain ⟨g, cap, rfl, _, _⟩ := ownsRow_pos h h0
    refine ⟨_, g, cap, rfl, fun _ => ⟨rfl, (h.lt g (by simp [Value.ownBlock])).2⟩, fun i hi => ?_⟩
    have hr := row_op h i hi
    simpa using hr
  · obtain ⟨a, cap, rfl, _, _⟩ := ownsRow_shape h
    exact ⟨a, 0, cap, rfl, fun h => absurd h h0, fun i hi => by omega⟩
/-- A program as it is read. -/
abbrev prgV (f : Bool) (ao : Option Addr) (n cap : Nat) : Value := .agg #[.bool f, .slice ao n cap]
end Go.Proofs.YtmcfjlkjijaflaaDoor

/- Rows of bytes. -/
namespace Go.Proofs.YtmcfjlkjijaflaaDoor
open Go.RowKit

abbrev bC (l : List By) : List Value := l.map fun b => Value.int .u8 b.toNat
/-- A row of bytes. -/
abbrev BRow (base : Nat) (w : World) (v : Value) (l : List By) : Prop := w.ownsRow base 5 1 v l.length (bC l)
theorem byte_info : (Tryd.prog.info? 5).map (fun i => (i.zero, i.size, i.bytes)) = some (some (.int .u8 0), 1, 1) := by kernel_rfl
/-- A row of bytes as a text. -/
theorem conv_back {base : Nat} {w : World} {v : Value} {l : List By} (h : BRow base w v l) : (convert 108 9 v).run Tryd.prog w = .ok (.string ⟨l.toArray⟩) w := by
  by_cases h0 : 0 < l.length
  · obtain ⟨g, cap, rfl, _, _⟩ := ownsRow_pos h h0
    refine run_convert_bytes_back w _ _ 5 ⟨g, 0, none⟩ cap l Tryd.underlying108 Tryd.underlying5 Tryd.underlying9 fun j hj => ?_
    rw [Addr.add_lit, Nat.zero_add, h.cellAt j (by omega)]
    simp [hj]
  · have hl : l = [] := List.eq_nil_of_length_eq_zero (by omega)
    subst hl
    rcases h.2 with ⟨rfl, _⟩ | ⟨g, cap, cur, rfl, _⟩
    · exact Lib.run_convert_nil_bytes w _ _ 5 0 Tryd.underlying108 Tryd.underlying5 Tryd.underlying9
    · exact run_convert_bytes_back w _ _ 5 ⟨g, 0, none⟩ cap [] Tryd.underlying108 Tryd.underlying5 Tryd.underlying9 fun j hj => by simp at hj
end Go.Proofs.YtmcfjlkjijaflaaDoor
