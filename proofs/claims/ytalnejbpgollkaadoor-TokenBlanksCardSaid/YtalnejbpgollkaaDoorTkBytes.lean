/-
  A text as a row of bytes that grows: '[]byte(s)', whose row bears a mark behind its cells, and append of one byte.
-/
import Derived.Test.YtalnejbpgollkaaDoorTkBackLaw
namespace Go.Proofs.YtalnejbpgollkaaDoor
open Go.RowKit

/-- A row of bytes of one's own, none of whose cells is frozen. -/
def MRow (base : Nat) (w : World) (v : Value) (l : List By) : Prop :=
  ∃ g cap cur fz, v = .slice (some ⟨g, 0, none⟩) l.length cap ∧ base ≤ g ∧ w.heap[g]? = some (.cells cur 5 fz) ∧ (∀ j, j < cap → w.frozen? ⟨g, j, none⟩ = false) ∧ l.length ≤ cap ∧ cap ≤ maxLen ∧ cur.size = cap ∧ cur.toList.take l.length = bC l
theorem MRow.of_row {base : Nat} {w : World} {v : Value} {l : List By} (h : BRow base w v l) (h0 : 0 < l.length) : MRow base w v l := by
  rcases h.2 with ⟨_, h1⟩ | ⟨g, cap, cur, rfl, hb, hg, h1, h2, h3, h4⟩
  · omega
  · exact ⟨g, cap, cur, (0, 0), rfl, hb, hg, fun j _ => frozen_of_row w g j _ _ hg, h1, h2, by omega, by simpa using h4⟩
theorem MRow.lt {base : Nat} {w : World} {v : Value} {l : List By} (h : MRow base w v l) : ∀ k, v.ownBlock = some k → base ≤ k ∧ k < w.heap.size := by
  obtain ⟨g, cap, cur, fz, rfl, hb, hg, _⟩ := h
  intro k hk
  simp [Value.ownBlock] at hk
  subst hk
  exact ⟨hb, lt_of_block hg⟩
theorem MRow.cells {base : Nat} {w : World} {g n cap : Nat} {l : List By} (h : MRow base w (.slice (some ⟨g, 0, none⟩) n cap) l) : ∀ j u, (bC l)[j]? = some u → w.cell? ((⟨g, 0, none⟩ : Addr).add j) = some u := by
  obtain ⟨g', cap', cur, fz, hv, _, hg, _, _, _, _, h4⟩ := h
  simp only [Value.slice.injEq, Option.some.injEq, Addr.mk.injEq, and_true] at hv
  obtain ⟨rfl, _, _⟩ := hv
  intro j u hu
  have hj : j < l.length := by
    have := (List.getElem?_eq_some_iff.1 hu).1
    simpa [bC] using this
  rw [Addr.add_lit, Nat.zero_add, cell_of_row w g j cur _ fz hg]
  rw [← h4, List.getElem?_take_of_lt hj] at hu
  simpa using hu

/-- '[]byte(s)'. -/
theorem conv_bytes (w : World) (s : ByteArray) (hs : s.size ≤ maxLen) : ∃ c, (convert 9 40 (.string s)).run Tryd.prog w = .ok (.slice (some ⟨w.heap.size, 0, none⟩) s.size c) (Lib.bytesWorld w 5 s) ∧
    MRow w.heap.size (Lib.bytesWorld w 5 s) (.slice (some ⟨w.heap.size, 0, none⟩) s.size c) s.data.toList := by
  have hz : (Lib.bytesCells w 5 s).size = grownCap w s.size 0 5 := by
    have h1 := grownCap_ge w s.size 0 5
    simp [Lib.bytesCells]
    have : s.data.size = s.size := rfl
    omega
  have hn := Lib.bytesWorld_at_new w 5 s
  rw [hz] at hn
  refine ⟨_, Lib.run_convert_string_bytes w _ _ _ s Tryd.underlying9 Tryd.underlying40 Tryd.underlying5, w.heap.size, _, _, _, by rw [← Lib.size_eq], Nat.le_refl _, hn, fun j hj => ?_, by rw [← Lib.size_eq]; exact grownCap_ge w s.size 0 _, grownCap_le_maxLen w s.size 0 _ hs, hz, ?_⟩
  · simp only [World.frozen?, hn]
    simp
    omega
  · have e : (s.data.map fun b => Value.int .u8 (b.toNat : Int)).toList = bC s.data.toList := by simp [bC]
    simp only [Lib.bytesCells, Array.toList_append]
    rw [List.take_append_of_le_length (by simp), e, List.take_of_length_le (by simp [bC])]

/-- 'append(b, c)': the row, one byte longer, where it lay or in a new block. -/
theorem run_append_byte {base : Nat} {w : World} {v : Value} {l : List By} (h : MRow base w v l) (hb : base ≤ w.heap.size) (ty : TypeId) (ad : Addr) (c : Nat) (b : By) (hc : w.cell? ad = some (.int .u8 b.toNat)) (hl : l.length + 1 ≤ 1000000) :
    ∃ v' w', (Builtin.append_ #[40, 40] ty #[v, .slice (some ad) 1 c]).run Tryd.prog w = .ok v' w' ∧ MRow base w' v' (l ++ [b]) ∧ w.grownBy w' v.ownBlock := by
  obtain ⟨i0, hi0, hz0, hz1, hz2⟩ := info_parts byte_info
  have h' := h
  obtain ⟨g, cap, cur, fz, rfl, hbg, hg, hf, hn, hcm, hcs, htake⟩ := h'
  have hnews : ∀ j u, [Value.int .u8 (b.toNat : Int)][j]? = some u → w.cell? (ad.add j) = some u := by
    intro j u hj
    match j, hj with
    | 0, hj =>
      simp at hj
      subst hj
      have : ad.add 0 = ad := by unfold Addr.add; simp
      rw [this, hc]
  have hf1 := run_firstCells_some (P := Tryd.prog) w i0.size 1 ad 1 c [.int .u8 (b.toNat : Int)] (by rw [hz1]; rfl) hnews
  rw [hz1] at hf1
  by_cases hroom : l.length + 1 ≤ cap
  · have hlt : l.length < cur.size := by omega
    have hcell : w.cell? ⟨g, l.length, none⟩ = some cur[l.length] := by simp [World.cell?, hg, hlt]
    have hst : (storeCells ⟨g, l.length, none⟩ [Value.int .u8 (b.toNat : Int)] 0).run Tryd.prog w = .ok () (w.setCell ⟨g, l.length, none⟩ (.int .u8 b.toNat)) := by
      have e : (⟨g, l.length, none⟩ : Addr).add 0 = ⟨g, l.length, none⟩ := by unfold Addr.add; simp
      have hs1 : ∀ m, (store ⟨g, l.length, none⟩ (Value.int .u8 (b.toNat : Int)) m).run Tryd.prog w = .ok () (w.setCell ⟨g, l.length, none⟩ (.int .u8 b.toNat)) := fun m => by
        rw [run_store Tryd.prog w _ _ m (show (Value.int .u8 (b.toNat : Int)).oneCell' = true from rfl), hcell, hf l.length (by omega)]
        rfl
      simp only [storeCells, Sem.run_bind, e, hs1]
      rfl
    refine ⟨.slice (some ⟨g, 0, none⟩) (l.length + 1) cap, w.setCell ⟨g, l.length, none⟩ (.int .u8 b.toNat), ?_, ⟨g, cap, cur.setIfInBounds l.length (.int .u8 b.toNat), fz, ?_, hbg, ?_, ?_, ?_, hcm, ?_, ?_⟩, ?_⟩
    · simp [Builtin.append_, run_underlying Tryd.underlying40, sizeOf, typeInfo, hi0, Builtin.lenOf, hroom, hf1, Addr.add_lit, hz1, hst]
    · simp
    · rw [setCell_eq_setRow w g l.length cur _ fz _ hg]
      exact setRow_heap w g cur _ _ fz hg
    · intro j hj
      have := hf j hj
      rw [setCell_eq_setRow w g l.length cur _ fz _ hg]
      simp only [World.frozen?, setRow_heap w g cur _ _ fz hg]
      simpa [World.frozen?, hg] using this
    · simpa using hroom
    · simpa using hcs
    · rw [Array.toList_setIfInBounds, List.length_append, List.length_singleton, List.take_succ_eq_append_getElem (by simp; omega), List.take_set_of_le (by omega), htake, List.getElem_set_self]
      simp [bC]
    · refine ⟨rfl, rfl, rfl, by simp [World.setCell], fun k _ hk => Below.heap_setCell _ _ _ _ ?_⟩
      intro e
      exact hk (by simp [Value.ownBlock, e])
  · have hr := run_append_grow (P := Tryd.prog) w 40 ty 5 i0 (.int .u8 0) Tryd.underlying40 hi0 hz0 ⟨g, 0, none⟩ l.length cap (bC l) (by rw [hz1]; simp [bC]) h.cells ad 1 c [.int .u8 (b.toNat : Int)] (by rw [hz1]; rfl) hnews (by omega) (by omega) (growslice_fits (by omega) (by rw [hz2]; omega))
    have hge := grownCap_ge w (l.length + 1) cap 5
    have hcm2 : grownCap w (l.length + 1) cap 5 ≤ maxLen := grownCap_le_maxLen w _ cap _ (by unfold maxLen; omega)
    refine ⟨_, _, hr, ⟨w.heap.size, _, _, (0, 0), by simp, hb, heap_alloc_new w.drew _, fun j _ => ?_, by simpa using hge, hcm2, ?_, ?_⟩, ⟨rfl, rfl, rfl, by simp, fun k hk _ => heap_alloc_old w.drew _ hk⟩⟩
    · exact frozen_of_row _ _ _ _ _ (heap_alloc_new w.drew _)
    · have hz : (Value.int .u8 0).cells.size = 1 := rfl
      simp only [Array.size_append, List.size_toArray, size_zeroCells, hz, List.length_map, List.length_singleton]
      omega
    · simp only [Array.toList_append, List.append_assoc]
      rw [← List.append_assoc, List.take_append_of_le_length (by simp), List.take_of_length_le (by simp)]
      simp [bC]
theorem wpList_append_byte {ops : Array Oper} {rest : List Oper} {o : Oper} {a : Act} {Q : Exit → Act → World → Prop} (hgd : o.guard = none) (s x : Operand)
    (ho : o.op = .call { callee := .builtin .append, args := #[s, x], argTypes := #[40, 40] }) {base : Nat} {w : World} (v : Value) (l : List By) (hs : a.eval s = v) (h : MRow base w v l) (hb : base ≤ w.heap.size) (ad : Addr) (c : Nat) (b : By)
    (hx : a.eval x = .slice (some ad) 1 c) (hc : w.cell? ad = some (.int .u8 b.toNat)) (hl : l.length + 1 ≤ 1000000)
    (hK : ∀ v' w', MRow base w' v' (l ++ [b]) → w.grownBy w' v.ownBlock → wpList Tryd.prog ops Q rest (a.put o.dst v') w') : wpList Tryd.prog ops Q (o :: rest) a w := by
  refine wpList_plain hgd fun K hk => ?_
  obtain ⟨v', w', hr, h2, h3⟩ := run_append_byte h hb o.type ad c b hc hl
  unfold Oper.wp execOp
  simp only [ho, resolve, invoke, builtin, Sem.run_bind, Sem.run_pure, Result.andThen_ok, List.map_toArray, List.map_cons, List.map_nil, hs, hx, hr]
  exact hk _ _ (hK v' w' h2 h3)
theorem conv_row {base : Nat} {w : World} {v : Value} {l : List By} (h : MRow base w v l) : (convert 40 9 v).run Tryd.prog w = .ok (.string ⟨l.toArray⟩) w := by
  have h' := h
  obtain ⟨g, cap, _, _, rfl, _⟩ := h'
  refine run_convert_bytes_back w _ _ 5 ⟨g, 0, none⟩ cap l Tryd.underlying40 Tryd.underlying5 Tryd.underlying9 fun j hj => ?_
  exact h.cells j _ (by simp [bC, hj])
theorem MRow.alloc {base : Nat} {w : World} {v : Value} {l : List By} (h : MRow base w v l) (o : Obj) : MRow base (w.alloc o) v l := by
  obtain ⟨g, cap, cur, fz, rfl, hb, hg, hf, rest⟩ := h
  have hk := Below.heap_alloc w o g (lt_of_block hg)
  refine ⟨g, cap, cur, fz, rfl, hb, hk.trans hg, fun j hj => ?_, rest⟩
  have := hf j hj
  unfold World.frozen? at this ⊢
  rw [hk]
  exact this
end Go.Proofs.YtalnejbpgollkaaDoor
