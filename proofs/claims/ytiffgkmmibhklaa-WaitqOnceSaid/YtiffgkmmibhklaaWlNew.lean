/-
  The program's New.
-/
import Derived.Test.YtiffgkmmibhklaaWlWait
import Derived.Laws.MakeOwn
import Derived.Laws.OwnMore
import Derived.Test.YtiffgkmmibhklaaGA
namespace Go.Proofs.Ytiffgkmmibhklaa
open Go.RowKit Go.Maps Go.Shelf

theorem step_call1 {P : Program} (w : World) {ops : Array Oper} {o : Oper} {a : Act} {K : Act → World → Prop} {Q : Exit → Act → World → Prop} {E : Prop} (hgd : o.guard = none) (f : FuncId) (x : Operand) (tx : TypeId)
    (hop : o.op = Op.call { callee := .value (.func f), args := #[x], argTypes := #[tx] }) (heg : Enters P f) {vx : Value} (hx : a.eval x = vx)
    {R : Value → World → Prop} (hc : Calls P f #[vx] w fun e w' => ∃ v, e = .returned v ∧ R v w') (hK : ∀ v w', R v w' → K (a.put o.dst v) w') : if Region.wanted o (yielded ops a.tmps) = true then Oper.wp P o a w K Q else E := by
  have hw : Region.wanted o (yielded ops a.tmps) = true := by simp [Region.wanted, hgd]
  rw [if_pos hw]
  have hrun : (execOp a.eval o).run P w = .ok (.enter f #[vx]) w := by
    have he : a.eval (.func f) = .func (.func f) #[] #[] := rfl
    generalize a.eval = ρ at hx he
    simp [execOp, hop, resolve, invoke, hx, he, go_sem, heg #[vx] w]
  unfold Oper.wp
  rw [hrun]
  refine hc.mono ?_
  rintro e w' ⟨v, rfl, hr⟩
  exact hK v w' hr
/-- What heap.New leaves. -/
def NewR (m : Int) (W : World) (v : Value) (w' : World) : Prop := v = .pointer (some ⟨W.heap.size + 1, 0, none⟩) ∧ E.HpC w' (W.heap.size + 1) [W.heap.size, W.heap.size + 1] m [] ∧ Turned [] W w'

theorem run_max_two {P : Program} {w : World} (ts : Array TypeId) (t : TypeId) (x y : Int) : (Builtin.max_ ts t #[.int .i64 x, .int .i64 y]).run P w = .ok (.int .i64 (max x y)) w := by
  rw [run_max_int2]
  congr 2
  split <;> omega
attribute [local go_sem ↓] run_min_two run_max_two

theorem infoSl : (Try.prog.info? tSl).map (fun i => (i.zero, i.size, i.bytes)) = some (some (.slice none 0 0), 1, 24) := by kernel_rfl
abbrev madeB (n : Nat) : Obj := .cells (madeCells (Value.slice none 0 0).cells (n * 1)) tSl
theorem newRow (n : Nat) (h1 : n ≤ 4096) (w : World) : (Instr.makeSlice 57 (.int .i64 (n : Int)) (.int .i64 (n : Int))).run Try.prog w = .ok (.slice (some ⟨w.heap.size, 0, none⟩) n n) (w.alloc (madeB n)) ∧
    (w.alloc (madeB n)).ownsRow 0 tSl 1 (.slice (some ⟨w.heap.size, 0, none⟩) n n) n ((List.range n).map fun _ => .slice none 0 0) := by
  obtain ⟨ii, hi, hz0, hz1, hz2⟩ := info_parts infoSl
  have hr := run_make (P := Try.prog) w _ tSl ii _ Try.underlying57 hi hz0 .i64 .i64 n n (by omega) (Int.le_refl _) (by rw [hz2]; omega) (by omega)
  rw [hz1] at hr
  simp only [Int.toNat_natCast] at hr
  refine ⟨hr, ?_⟩
  have ho := World.ownsRow_lit (base := 0) (e := tSl) (size := 1) w (madeCells (Value.slice none 0 0).cells (n * 1)) n (Nat.zero_le _) (by unfold maxLen; omega) (size_madeCells _ _)
  have he : (madeCells (Value.slice none 0 0).cells (n * 1)).toList = (List.range n).map fun _ => Value.slice none 0 0 := by
    refine List.ext_getElem (by simp [madeCells]) fun k h1 h2 => ?_
    simp [madeCells, Value.cells, Nat.mod_one]
  rw [he] at ho
  exact ho
/-- All that New makes, and the table's own block. -/
theorem newAt {w F : World} {g0 gm hb : Nat} {Xh : List Nat} {m e : Int} {nB : Nat} (hn : 1 ≤ nB ∧ nB ≤ 4096) (he : 0 ≤ e ∧ e ≤ 4096) (hm : 0 ≤ m) (hT : Turned [] w F) (hr : F.ownsRow 0 tSl 1 (.slice (some ⟨g0, 0, none⟩) nB nB) nB ((List.range nB).map fun _ => .slice none 0 0))
    (hg : F.ownsMap Try.prog tN valElem gm 0 (.map [])) (hh : E.HpC F hb Xh m []) (n0 : w.heap.size ≤ g0) (n1 : w.heap.size ≤ gm) (n2 : ∀ k ∈ Xh, w.heap.size ≤ k) (d0 : gm ≠ g0) (d1 : ∀ k ∈ Xh, k ≠ g0) (d2 : ∀ k ∈ Xh, k ≠ gm) :
    WlAt (F.alloc (.cells #[.int .i64 m, .int .i64 e, .slice (some ⟨g0, 0, none⟩) nB nB, .map (some gm), .pointer (some ⟨hb, 0, none⟩)] tTb)) F.heap.size (F.heap.size :: g0 :: gm :: Xh) m e 0 [] ∧
      Turned [] w (F.alloc (.cells #[.int .i64 m, .int .i64 e, .slice (some ⟨g0, 0, none⟩) nB nB, .map (some gm), .pointer (some ⟨hb, 0, none⟩)] tTb)) ∧ ∀ k ∈ F.heap.size :: g0 :: gm :: Xh, w.heap.size ≤ k := by
  have lg := ownsRow_lt hr g0 (by simp [Value.ownBlock])
  have lm := ownsV_lt hg
  have lh := hh.lt
  have hs := hT.size
  obtain ⟨T, hTd⟩ : ∃ T : Obj, T = .cells #[.int .i64 m, .int .i64 e, .slice (some ⟨g0, 0, none⟩) nB nB, .map (some gm), .pointer (some ⟨hb, 0, none⟩)] tTb := ⟨_, rfl⟩
  have tF : Turned [] F (F.alloc T) := (Turned.refl [] F).alloc _
  rw [← hTd]
  refine ⟨⟨nB, g0, nB, gm, hb, Xh, [], ⟨fun _ => [], fun _ => none, ⟨fun _ => .slice none 0 0, .map [], fun k => if k = F.heap.size then .tab else if k = g0 then .row else if k = gm then .map else .due, ?_, hh.keep tF (by simp)⟩, WlI.empty hn, fun i _ x hx => by simp at hx, by simp, he⟩, by simp [dueOf], by simpa using hm⟩, hT.alloc _, ?_⟩
  · refine ⟨?_, ownsRow_same hr (fun k _ hl => tF.block k hl (by simp)), fun i _ => World.ownsRow_nil _ _ _ _, by simp, ownsV_same hg (tF.block gm lm (by simp)), rfl, ReadsV.empty, by simp, by simp, by simp, fun k hk => by simp [hk], by simp [Value.ownBlock], by simp, ?_, by simp, ?_, ?_, ?_, by simp [Value.ownBlock], by simp⟩
    · rw [hTd]; exact heap_alloc_new F _
    · intro k hk
      have hz : (F.alloc T).heap.size = F.heap.size + 1 := by simp
      rw [hz]
      simp at hk
      rcases hk with rfl | rfl | rfl | hk
      · omega
      · omega
      · omega
      · have := lh k hk; omega
    · have : ¬ g0 = F.heap.size := by omega
      simp [this]
    · have h1 : ¬ gm = F.heap.size := by omega
      simp [h1, d0]
    · intro k hk
      have h1 : ¬ k = F.heap.size := by have := lh k hk; omega
      simp [h1, d1 k hk, d2 k hk]
  · intro k hk
    simp at hk
    rcases hk with rfl | rfl | rfl | hk
    · exact hs
    · exact n0
    · exact n1
    · exact n2 k hk

theorem newAt2 {w F : World} {g0 gm hb : Nat} {Xh : List Nat} {m e : Int} {nB B G0 GM HB : Nat} (eB : F.heap.size = B) (eG : g0 = G0) (eM : gm = GM) (eH : hb = HB) (hn : 1 ≤ nB ∧ nB ≤ 4096) (he : 0 ≤ e ∧ e ≤ 4096) (hm : 0 ≤ m) (hT : Turned [] w F) (hr : F.ownsRow 0 tSl 1 (.slice (some ⟨g0, 0, none⟩) nB nB) nB ((List.range nB).map fun _ => .slice none 0 0))
    (hg : F.ownsMap Try.prog tN valElem gm 0 (.map [])) (hh : E.HpC F hb Xh m []) (n0 : w.heap.size ≤ g0) (n1 : w.heap.size ≤ gm) (n2 : ∀ k ∈ Xh, w.heap.size ≤ k) (d0 : gm ≠ g0) (d1 : ∀ k ∈ Xh, k ≠ g0) (d2 : ∀ k ∈ Xh, k ≠ gm) :
    WlAt (F.alloc (.cells #[.int .i64 m, .int .i64 e, .slice (some ⟨G0, 0, none⟩) nB nB, .map (some GM), .pointer (some ⟨HB, 0, none⟩)] tTb)) B (B :: G0 :: GM :: Xh) m e 0 [] ∧
      Turned [] w (F.alloc (.cells #[.int .i64 m, .int .i64 e, .slice (some ⟨G0, 0, none⟩) nB nB, .map (some GM), .pointer (some ⟨HB, 0, none⟩)] tTb)) ∧ ∀ k ∈ B :: G0 :: GM :: Xh, w.heap.size ≤ k := by
  subst eB eG eM eH
  exact newAt hn he hm hT hr hg hh n0 n1 n2 d0 d1 d2

set_option maxRecDepth 100000 in
set_option maxHeartbeats 8000000 in
theorem wlNew (k m e : Int) (w : World) : Calls Try.prog 6 #[.int .i64 k, .int .i64 m, .int .i64 e] w fun r w' => ∃ b X, r = .returned (.pointer (some ⟨b, 0, none⟩)) ∧
    WlAt w' b X (min (max m 0) 4096) (min (max e 0) 4096) 0 [] ∧ Turned [] w w' ∧ ∀ k ∈ X, w.heap.size ≤ k := by
  obtain ⟨nB, hnB⟩ : ∃ nB : Nat, min (max k 1) 4096 = (nB : Int) := ⟨(min (max k 1) 4096).toNat, by omega⟩
  have hn : 1 ≤ nB ∧ nB ≤ 4096 := by omega
  obtain ⟨m', hm'⟩ : ∃ m', min (max m 0) 4096 = m' := ⟨_, rfl⟩
  obtain ⟨e', he'⟩ : ∃ e', min (max e 0) 4096 = e' := ⟨_, rfl⟩
  have hm0 : 0 ≤ m' := by omega
  have he0 : 0 ≤ e' ∧ e' ≤ 4096 := by omega
  have hms := fun W => (newRow nB hn.2 W).1
  have HR := Lib.hid (fun W => (newRow nB hn.2 W).2)
  have hmm := @run_makeMap Try.prog
  have HN := Lib.hid (fun W : World => (E.new_any m W).mono fun e w' (hh : e = .returned (.pointer (some ⟨W.heap.size + 1, 0, none⟩)) ∧ E.HpC w' (W.heap.size + 1) [W.heap.size, W.heap.size + 1] (min (max m 0) 4096) [] ∧ Turned [] W w') =>
    (⟨_, hh.1, rfl, hm' ▸ hh.2.1, hh.2.2⟩ : ∃ v, e = .returned v ∧ NewR m' W v w'))
  have HM := Lib.hid (fun W : World => World.ownsMap_made (H := Value) W Try.prog tN valElem)
  rw [hm', he']
  go_enter Try.func6, Try.ntmps6
  go_wp2_with fail
  refine wp_region_any (by kernel_rfl) ?_
  (try (change wpAny _ _ _ _ _ _ _ (World.drew _)))
  refine wpAny_take (i := 0) (v := .int .i64 m) rfl (by kernel_rfl) (by kernel_rfl) (by kernel_rfl) (fun _ _ _ h => h) (Or.inl ⟨by rfl, fun w => by go_simp⟩) ?_
  simp only [List.getElem_toArray, List.getElem_cons_zero, Act.put, List.setIfInBounds_toArray]
  simp only [List.set_cons_succ, List.set_cons_zero]
  refine wpAny_take (i := 1) (v := .int .i64 (max m 0)) rfl (by kernel_rfl) (by kernel_rfl) (by kernel_rfl) (fun _ _ _ h => h) (Or.inl ⟨by rfl, fun w => by go_simp⟩) ?_
  simp only [List.getElem_toArray, List.getElem_cons_succ, List.getElem_cons_zero, Act.put, List.setIfInBounds_toArray]
  simp only [List.set_cons_succ, List.set_cons_zero]
  refine wpAny_take (i := 2) (v := .int .i64 m') rfl (by kernel_rfl) (by kernel_rfl) (by kernel_rfl) (fun _ _ _ h => h) (Or.inl ⟨by rfl, fun w => by go_simp⟩) ?_
  simp only [List.getElem_toArray, List.getElem_cons_succ, List.getElem_cons_zero, Act.put, List.setIfInBounds_toArray]
  simp only [List.set_cons_succ, List.set_cons_zero]
  refine wpAny_take (i := 3) (v := .int .i64 e) rfl (by kernel_rfl) (by kernel_rfl) (by kernel_rfl) (fun _ _ _ h => h) (Or.inl ⟨by rfl, fun w => by go_simp⟩) ?_
  simp only [List.getElem_toArray, List.getElem_cons_succ, List.getElem_cons_zero, Act.put, List.setIfInBounds_toArray]
  simp only [List.set_cons_succ, List.set_cons_zero]
  refine wpAny_take (i := 4) (v := .int .i64 (max e 0)) rfl (by kernel_rfl) (by kernel_rfl) (by kernel_rfl) (fun _ _ _ h => h) (Or.inl ⟨by rfl, fun w => by go_simp⟩) ?_
  simp only [List.getElem_toArray, List.getElem_cons_succ, List.getElem_cons_zero, Act.put, List.setIfInBounds_toArray]
  simp only [List.set_cons_succ, List.set_cons_zero]
  refine wpAny_take (i := 5) (v := .int .i64 e') rfl (by kernel_rfl) (by kernel_rfl) (by kernel_rfl) (fun _ _ _ h => h) (Or.inl ⟨by rfl, fun w => by go_simp⟩) ?_
  simp only [List.getElem_toArray, List.getElem_cons_succ, List.getElem_cons_zero, Act.put, List.setIfInBounds_toArray]
  simp only [List.set_cons_succ, List.set_cons_zero]
  refine wpAny_take (i := 6) (v := .int .i64 k) rfl (by kernel_rfl) (by kernel_rfl) (by kernel_rfl) (fun _ _ _ h => h) (Or.inl ⟨by rfl, fun w => by go_simp⟩) ?_
  simp only [List.getElem_toArray, List.getElem_cons_succ, List.getElem_cons_zero, Act.put, List.setIfInBounds_toArray]
  simp only [List.set_cons_succ, List.set_cons_zero]
  refine wpAny_take (i := 7) (v := .int .i64 (max k 1)) rfl (by kernel_rfl) (by kernel_rfl) (by kernel_rfl) (fun _ _ _ h => h) (Or.inl ⟨by rfl, fun w => by go_simp⟩) ?_
  simp only [List.getElem_toArray, List.getElem_cons_succ, List.getElem_cons_zero, Act.put, List.setIfInBounds_toArray]
  simp only [List.set_cons_succ, List.set_cons_zero]
  refine wpAny_take (i := 8) (v := .int .i64 (nB : Int)) rfl (by kernel_rfl) (by kernel_rfl) (by kernel_rfl) (fun _ _ _ h => h) (Or.inl ⟨by rfl, fun w => by go_simp⟩) ?_
  simp only [List.getElem_toArray, List.getElem_cons_succ, List.getElem_cons_zero, Act.put, List.setIfInBounds_toArray]
  simp only [List.set_cons_succ, List.set_cons_zero]
  refine wpAny_take (i := 11) (v := .int .i64 m) rfl (by kernel_rfl) (by kernel_rfl) (by kernel_rfl) (fun _ _ _ h => h) (Or.inl ⟨by rfl, fun w => by go_simp⟩) ?_
  simp only [List.getElem_toArray, List.getElem_cons_succ, List.getElem_cons_zero, Act.put, List.setIfInBounds_toArray]
  simp only [List.set_cons_succ, List.set_cons_zero]
  refine wpAny_ready (rs := [9, 10, 12]) (by kernel_rfl) (by simp) (AllReady.cons rfl (fun K hK => ?_) (AllReady.cons rfl (fun K hK => ?_) (AllReady.cons rfl (fun K hK => ?_) AllReady.nil)))
  · go_simp
    (refine hK _ _ ?_; clear hK K)
    refine wpAny_ready (rs := [10, 12]) (by kernel_rfl) (by simp) (AllReady.cons rfl (fun K hK => ?_) (AllReady.cons rfl (fun K hK => ?_) AllReady.nil))
    · go_simp
      (refine hK _ _ ?_; clear hK K)
      refine wpAny_ready (rs := [12]) (by kernel_rfl) (by simp) (AllReady.cons rfl (fun K hK => ?_) AllReady.nil)
      · (go_simp; refine (HN.out _).mono ?_; rintro r w2 ⟨v, rfl, rfl, hH, tH⟩; have HH := Lib.hid (And.intro hH tH); clear hH tH; try go_simp)
        (refine hK _ _ ?_; clear hK K)
        refine wpAny_ready (rs := [13]) (by kernel_rfl) (by simp) (AllReady.cons rfl (fun K hK => ?_) AllReady.nil)
        go_simp
        (refine hK _ _ ?_; clear hK K)
        refine wpAny_ready (rs := [14]) (by kernel_rfl) (by simp) (AllReady.cons rfl (fun K hK => ?_) AllReady.nil)
        go_simp
        (refine hK _ _ ?_; clear hK K)
        refine wpAny_ready (rs := [15]) (by kernel_rfl) (by simp) (AllReady.cons rfl (fun K hK => ?_) AllReady.nil)
        go_simp
        (refine hK _ _ ?_; clear hK K)
        refine wpAny_done (by kernel_rfl) ?_ _
        go_wp2
        go_ret
        have hs1 := ((((Turned.refl [] w).j ((Turned.refl [] w).alloc (madeB nB))).j ((Turned.refl [] (w.alloc (madeB nB))).alloc (.map #[] 0))).j ((Turned.refl [] ((w.alloc (madeB nB)).alloc (.map #[] 0))).drew.j HH.out.2)).size
        have hs2 := HH.out.2.size
        have ttF : Turned [] w w2 := ((((Turned.refl [] w).j ((Turned.refl [] w).alloc (madeB nB))).j ((Turned.refl [] (w.alloc (madeB nB))).alloc (.map #[] 0))).j ((Turned.refl [] ((w.alloc (madeB nB)).alloc (.map #[] 0))).drew.j HH.out.2))
        have tt9 : Turned [] (w.alloc (madeB nB)) w2 := (((Turned.refl [] (w.alloc (madeB nB))).j ((Turned.refl [] (w.alloc (madeB nB))).alloc (.map #[] 0))).j ((Turned.refl [] ((w.alloc (madeB nB)).alloc (.map #[] 0))).drew.j HH.out.2))
        have tt10 : Turned [] ((w.alloc (madeB nB)).alloc (.map #[] 0)) w2 := ((Turned.refl [] ((w.alloc (madeB nB)).alloc (.map #[] 0))).j ((Turned.refl [] ((w.alloc (madeB nB)).alloc (.map #[] 0))).drew.j HH.out.2))
        have tt12 : Turned [] w2 w2 := (Turned.refl [] w2)
        have hmp := HM.out (w.alloc (madeB nB))
        have hs3 := HH.out.1.lt _ (List.mem_cons_self ..)
        have hs4 := HH.out.1.lt _ (List.mem_cons_of_mem _ (List.mem_cons_self ..))
        refine ⟨_, _, rfl, newAt2 (F := w2) (g0 := w.heap.size) (gm := (w.alloc (madeB nB)).heap.size) (hb := ((w.alloc (madeB nB)).alloc (.map #[] 0)).heap.size + 1) (Xh := [((w.alloc (madeB nB)).alloc (.map #[] 0)).heap.size, ((w.alloc (madeB nB)).alloc (.map #[] 0)).heap.size + 1]) ?_ ?_ ?_ ?_ hn he0 hm0 ttF (ownsRow_same (HR.out w) (fun k _ hl => tt9.block k hl (by simp))) (ownsV_same hmp (tt10.block _ (ownsV_lt hmp) (by simp))) (HH.out.1.keep tt12 (by simp)) ?_ ?_ ?_ ?_ ?_ ?_⟩
        all_goals (simp at hs1 hs2 hs3 hs4 ⊢)
        all_goals (first | done | omega | (constructor <;> omega))
    · (go_simp; refine (HN.out _).mono ?_; rintro r w2 ⟨v, rfl, rfl, hH, tH⟩; have HH := Lib.hid (And.intro hH tH); clear hH tH; try go_simp)
      (refine hK _ _ ?_; clear hK K)
      refine wpAny_ready (rs := [10]) (by kernel_rfl) (by simp) (AllReady.cons rfl (fun K hK => ?_) AllReady.nil)
      · go_simp
        (refine hK _ _ ?_; clear hK K)
        refine wpAny_ready (rs := [13]) (by kernel_rfl) (by simp) (AllReady.cons rfl (fun K hK => ?_) AllReady.nil)
        go_simp
        (refine hK _ _ ?_; clear hK K)
        refine wpAny_ready (rs := [14]) (by kernel_rfl) (by simp) (AllReady.cons rfl (fun K hK => ?_) AllReady.nil)
        go_simp
        (refine hK _ _ ?_; clear hK K)
        refine wpAny_ready (rs := [15]) (by kernel_rfl) (by simp) (AllReady.cons rfl (fun K hK => ?_) AllReady.nil)
        go_simp
        (refine hK _ _ ?_; clear hK K)
        refine wpAny_done (by kernel_rfl) ?_ _
        go_wp2
        go_ret
        have hs1 := ((((Turned.refl [] w).j ((Turned.refl [] w).alloc (madeB nB))).j ((Turned.refl [] (w.alloc (madeB nB))).drew.j HH.out.2)).j ((Turned.refl [] w2).alloc (.map #[] 0))).size
        have hs2 := HH.out.2.size
        have ttF : Turned [] w (w2.alloc (.map #[] 0)) := ((((Turned.refl [] w).j ((Turned.refl [] w).alloc (madeB nB))).j ((Turned.refl [] (w.alloc (madeB nB))).drew.j HH.out.2)).j ((Turned.refl [] w2).alloc (.map #[] 0)))
        have tt9 : Turned [] (w.alloc (madeB nB)) (w2.alloc (.map #[] 0)) := (((Turned.refl [] (w.alloc (madeB nB))).j ((Turned.refl [] (w.alloc (madeB nB))).drew.j HH.out.2)).j ((Turned.refl [] w2).alloc (.map #[] 0)))
        have tt10 : Turned [] (w2.alloc (.map #[] 0)) (w2.alloc (.map #[] 0)) := (Turned.refl [] (w2.alloc (.map #[] 0)))
        have tt12 : Turned [] w2 (w2.alloc (.map #[] 0)) := ((Turned.refl [] w2).j ((Turned.refl [] w2).alloc (.map #[] 0)))
        have hmp := HM.out w2
        have hs3 := HH.out.1.lt _ (List.mem_cons_self ..)
        have hs4 := HH.out.1.lt _ (List.mem_cons_of_mem _ (List.mem_cons_self ..))
        refine ⟨_, _, rfl, newAt2 (F := (w2.alloc (.map #[] 0))) (g0 := w.heap.size) (gm := w2.heap.size) (hb := (w.alloc (madeB nB)).heap.size + 1) (Xh := [(w.alloc (madeB nB)).heap.size, (w.alloc (madeB nB)).heap.size + 1]) ?_ ?_ ?_ ?_ hn he0 hm0 ttF (ownsRow_same (HR.out w) (fun k _ hl => tt9.block k hl (by simp))) (ownsV_same hmp (tt10.block _ (ownsV_lt hmp) (by simp))) (HH.out.1.keep tt12 (by simp)) ?_ ?_ ?_ ?_ ?_ ?_⟩
        all_goals (simp at hs1 hs2 hs3 hs4 ⊢)
        all_goals (first | done | omega | (constructor <;> omega))
  · go_simp
    (refine hK _ _ ?_; clear hK K)
    refine wpAny_ready (rs := [9, 12]) (by kernel_rfl) (by simp) (AllReady.cons rfl (fun K hK => ?_) (AllReady.cons rfl (fun K hK => ?_) AllReady.nil))
    · go_simp
      (refine hK _ _ ?_; clear hK K)
      refine wpAny_ready (rs := [12]) (by kernel_rfl) (by simp) (AllReady.cons rfl (fun K hK => ?_) AllReady.nil)
      · (go_simp; refine (HN.out _).mono ?_; rintro r w2 ⟨v, rfl, rfl, hH, tH⟩; have HH := Lib.hid (And.intro hH tH); clear hH tH; try go_simp)
        (refine hK _ _ ?_; clear hK K)
        refine wpAny_ready (rs := [13]) (by kernel_rfl) (by simp) (AllReady.cons rfl (fun K hK => ?_) AllReady.nil)
        go_simp
        (refine hK _ _ ?_; clear hK K)
        refine wpAny_ready (rs := [14]) (by kernel_rfl) (by simp) (AllReady.cons rfl (fun K hK => ?_) AllReady.nil)
        go_simp
        (refine hK _ _ ?_; clear hK K)
        refine wpAny_ready (rs := [15]) (by kernel_rfl) (by simp) (AllReady.cons rfl (fun K hK => ?_) AllReady.nil)
        go_simp
        (refine hK _ _ ?_; clear hK K)
        refine wpAny_done (by kernel_rfl) ?_ _
        go_wp2
        go_ret
        have hs1 := ((((Turned.refl [] w).j ((Turned.refl [] w).alloc (.map #[] 0))).j ((Turned.refl [] (w.alloc (.map #[] 0))).alloc (madeB nB))).j ((Turned.refl [] ((w.alloc (.map #[] 0)).alloc (madeB nB))).drew.j HH.out.2)).size
        have hs2 := HH.out.2.size
        have ttF : Turned [] w w2 := ((((Turned.refl [] w).j ((Turned.refl [] w).alloc (.map #[] 0))).j ((Turned.refl [] (w.alloc (.map #[] 0))).alloc (madeB nB))).j ((Turned.refl [] ((w.alloc (.map #[] 0)).alloc (madeB nB))).drew.j HH.out.2))
        have tt9 : Turned [] ((w.alloc (.map #[] 0)).alloc (madeB nB)) w2 := ((Turned.refl [] ((w.alloc (.map #[] 0)).alloc (madeB nB))).j ((Turned.refl [] ((w.alloc (.map #[] 0)).alloc (madeB nB))).drew.j HH.out.2))
        have tt10 : Turned [] (w.alloc (.map #[] 0)) w2 := (((Turned.refl [] (w.alloc (.map #[] 0))).j ((Turned.refl [] (w.alloc (.map #[] 0))).alloc (madeB nB))).j ((Turned.refl [] ((w.alloc (.map #[] 0)).alloc (madeB nB))).drew.j HH.out.2))
        have tt12 : Turned [] w2 w2 := (Turned.refl [] w2)
        have hmp := HM.out w
        have hs3 := HH.out.1.lt _ (List.mem_cons_self ..)
        have hs4 := HH.out.1.lt _ (List.mem_cons_of_mem _ (List.mem_cons_self ..))
        refine ⟨_, _, rfl, newAt2 (F := w2) (g0 := (w.alloc (.map #[] 0)).heap.size) (gm := w.heap.size) (hb := ((w.alloc (.map #[] 0)).alloc (madeB nB)).heap.size + 1) (Xh := [((w.alloc (.map #[] 0)).alloc (madeB nB)).heap.size, ((w.alloc (.map #[] 0)).alloc (madeB nB)).heap.size + 1]) ?_ ?_ ?_ ?_ hn he0 hm0 ttF (ownsRow_same (HR.out (w.alloc (.map #[] 0))) (fun k _ hl => tt9.block k hl (by simp))) (ownsV_same hmp (tt10.block _ (ownsV_lt hmp) (by simp))) (HH.out.1.keep tt12 (by simp)) ?_ ?_ ?_ ?_ ?_ ?_⟩
        all_goals (simp at hs1 hs2 hs3 hs4 ⊢)
        all_goals (first | done | omega | (constructor <;> omega))
    · (go_simp; refine (HN.out _).mono ?_; rintro r w2 ⟨v, rfl, rfl, hH, tH⟩; have HH := Lib.hid (And.intro hH tH); clear hH tH; try go_simp)
      (refine hK _ _ ?_; clear hK K)
      refine wpAny_ready (rs := [9]) (by kernel_rfl) (by simp) (AllReady.cons rfl (fun K hK => ?_) AllReady.nil)
      · go_simp
        (refine hK _ _ ?_; clear hK K)
        refine wpAny_ready (rs := [13]) (by kernel_rfl) (by simp) (AllReady.cons rfl (fun K hK => ?_) AllReady.nil)
        go_simp
        (refine hK _ _ ?_; clear hK K)
        refine wpAny_ready (rs := [14]) (by kernel_rfl) (by simp) (AllReady.cons rfl (fun K hK => ?_) AllReady.nil)
        go_simp
        (refine hK _ _ ?_; clear hK K)
        refine wpAny_ready (rs := [15]) (by kernel_rfl) (by simp) (AllReady.cons rfl (fun K hK => ?_) AllReady.nil)
        go_simp
        (refine hK _ _ ?_; clear hK K)
        refine wpAny_done (by kernel_rfl) ?_ _
        go_wp2
        go_ret
        have hs1 := ((((Turned.refl [] w).j ((Turned.refl [] w).alloc (.map #[] 0))).j ((Turned.refl [] (w.alloc (.map #[] 0))).drew.j HH.out.2)).j ((Turned.refl [] w2).alloc (madeB nB))).size
        have hs2 := HH.out.2.size
        have ttF : Turned [] w (w2.alloc (madeB nB)) := ((((Turned.refl [] w).j ((Turned.refl [] w).alloc (.map #[] 0))).j ((Turned.refl [] (w.alloc (.map #[] 0))).drew.j HH.out.2)).j ((Turned.refl [] w2).alloc (madeB nB)))
        have tt9 : Turned [] (w2.alloc (madeB nB)) (w2.alloc (madeB nB)) := (Turned.refl [] (w2.alloc (madeB nB)))
        have tt10 : Turned [] (w.alloc (.map #[] 0)) (w2.alloc (madeB nB)) := (((Turned.refl [] (w.alloc (.map #[] 0))).j ((Turned.refl [] (w.alloc (.map #[] 0))).drew.j HH.out.2)).j ((Turned.refl [] w2).alloc (madeB nB)))
        have tt12 : Turned [] w2 (w2.alloc (madeB nB)) := ((Turned.refl [] w2).j ((Turned.refl [] w2).alloc (madeB nB)))
        have hmp := HM.out w
        have hs3 := HH.out.1.lt _ (List.mem_cons_self ..)
        have hs4 := HH.out.1.lt _ (List.mem_cons_of_mem _ (List.mem_cons_self ..))
        refine ⟨_, _, rfl, newAt2 (F := (w2.alloc (madeB nB))) (g0 := w2.heap.size) (gm := w.heap.size) (hb := (w.alloc (.map #[] 0)).heap.size + 1) (Xh := [(w.alloc (.map #[] 0)).heap.size, (w.alloc (.map #[] 0)).heap.size + 1]) ?_ ?_ ?_ ?_ hn he0 hm0 ttF (ownsRow_same (HR.out w2) (fun k _ hl => tt9.block k hl (by simp))) (ownsV_same hmp (tt10.block _ (ownsV_lt hmp) (by simp))) (HH.out.1.keep tt12 (by simp)) ?_ ?_ ?_ ?_ ?_ ?_⟩
        all_goals (simp at hs1 hs2 hs3 hs4 ⊢)
        all_goals (first | done | omega | (constructor <;> omega))
  · (go_simp; refine (HN.out _).mono ?_; rintro r w2 ⟨v, rfl, rfl, hH, tH⟩; have HH := Lib.hid (And.intro hH tH); clear hH tH; try go_simp)
    (refine hK _ _ ?_; clear hK K)
    refine wpAny_ready (rs := [9, 10]) (by kernel_rfl) (by simp) (AllReady.cons rfl (fun K hK => ?_) (AllReady.cons rfl (fun K hK => ?_) AllReady.nil))
    · go_simp
      (refine hK _ _ ?_; clear hK K)
      refine wpAny_ready (rs := [10]) (by kernel_rfl) (by simp) (AllReady.cons rfl (fun K hK => ?_) AllReady.nil)
      · go_simp
        (refine hK _ _ ?_; clear hK K)
        refine wpAny_ready (rs := [13]) (by kernel_rfl) (by simp) (AllReady.cons rfl (fun K hK => ?_) AllReady.nil)
        go_simp
        (refine hK _ _ ?_; clear hK K)
        refine wpAny_ready (rs := [14]) (by kernel_rfl) (by simp) (AllReady.cons rfl (fun K hK => ?_) AllReady.nil)
        go_simp
        (refine hK _ _ ?_; clear hK K)
        refine wpAny_ready (rs := [15]) (by kernel_rfl) (by simp) (AllReady.cons rfl (fun K hK => ?_) AllReady.nil)
        go_simp
        (refine hK _ _ ?_; clear hK K)
        refine wpAny_done (by kernel_rfl) ?_ _
        go_wp2
        go_ret
        have hs1 := ((((Turned.refl [] w).j ((Turned.refl [] w).drew.j HH.out.2)).j ((Turned.refl [] w2).alloc (madeB nB))).j ((Turned.refl [] (w2.alloc (madeB nB))).alloc (.map #[] 0))).size
        have hs2 := HH.out.2.size
        have ttF : Turned [] w ((w2.alloc (madeB nB)).alloc (.map #[] 0)) := ((((Turned.refl [] w).j ((Turned.refl [] w).drew.j HH.out.2)).j ((Turned.refl [] w2).alloc (madeB nB))).j ((Turned.refl [] (w2.alloc (madeB nB))).alloc (.map #[] 0)))
        have tt9 : Turned [] (w2.alloc (madeB nB)) ((w2.alloc (madeB nB)).alloc (.map #[] 0)) := ((Turned.refl [] (w2.alloc (madeB nB))).j ((Turned.refl [] (w2.alloc (madeB nB))).alloc (.map #[] 0)))
        have tt10 : Turned [] ((w2.alloc (madeB nB)).alloc (.map #[] 0)) ((w2.alloc (madeB nB)).alloc (.map #[] 0)) := (Turned.refl [] ((w2.alloc (madeB nB)).alloc (.map #[] 0)))
        have tt12 : Turned [] w2 ((w2.alloc (madeB nB)).alloc (.map #[] 0)) := (((Turned.refl [] w2).j ((Turned.refl [] w2).alloc (madeB nB))).j ((Turned.refl [] (w2.alloc (madeB nB))).alloc (.map #[] 0)))
        have hmp := HM.out (w2.alloc (madeB nB))
        have hs3 := HH.out.1.lt _ (List.mem_cons_self ..)
        have hs4 := HH.out.1.lt _ (List.mem_cons_of_mem _ (List.mem_cons_self ..))
        refine ⟨_, _, rfl, newAt2 (F := ((w2.alloc (madeB nB)).alloc (.map #[] 0))) (g0 := w2.heap.size) (gm := (w2.alloc (madeB nB)).heap.size) (hb := w.heap.size + 1) (Xh := [w.heap.size, w.heap.size + 1]) ?_ ?_ ?_ ?_ hn he0 hm0 ttF (ownsRow_same (HR.out w2) (fun k _ hl => tt9.block k hl (by simp))) (ownsV_same hmp (tt10.block _ (ownsV_lt hmp) (by simp))) (HH.out.1.keep tt12 (by simp)) ?_ ?_ ?_ ?_ ?_ ?_⟩
        all_goals (simp at hs1 hs2 hs3 hs4 ⊢)
        all_goals (first | done | omega | (constructor <;> omega))
    · go_simp
      (refine hK _ _ ?_; clear hK K)
      refine wpAny_ready (rs := [9]) (by kernel_rfl) (by simp) (AllReady.cons rfl (fun K hK => ?_) AllReady.nil)
      · go_simp
        (refine hK _ _ ?_; clear hK K)
        refine wpAny_ready (rs := [13]) (by kernel_rfl) (by simp) (AllReady.cons rfl (fun K hK => ?_) AllReady.nil)
        go_simp
        (refine hK _ _ ?_; clear hK K)
        refine wpAny_ready (rs := [14]) (by kernel_rfl) (by simp) (AllReady.cons rfl (fun K hK => ?_) AllReady.nil)
        go_simp
        (refine hK _ _ ?_; clear hK K)
        refine wpAny_ready (rs := [15]) (by kernel_rfl) (by simp) (AllReady.cons rfl (fun K hK => ?_) AllReady.nil)
        go_simp
        (refine hK _ _ ?_; clear hK K)
        refine wpAny_done (by kernel_rfl) ?_ _
        go_wp2
        go_ret
        have hs1 := ((((Turned.refl [] w).j ((Turned.refl [] w).drew.j HH.out.2)).j ((Turned.refl [] w2).alloc (.map #[] 0))).j ((Turned.refl [] (w2.alloc (.map #[] 0))).alloc (madeB nB))).size
        have hs2 := HH.out.2.size
        have ttF : Turned [] w ((w2.alloc (.map #[] 0)).alloc (madeB nB)) := ((((Turned.refl [] w).j ((Turned.refl [] w).drew.j HH.out.2)).j ((Turned.refl [] w2).alloc (.map #[] 0))).j ((Turned.refl [] (w2.alloc (.map #[] 0))).alloc (madeB nB)))
        have tt9 : Turned [] ((w2.alloc (.map #[] 0)).alloc (madeB nB)) ((w2.alloc (.map #[] 0)).alloc (madeB nB)) := (Turned.refl [] ((w2.alloc (.map #[] 0)).alloc (madeB nB)))
        have tt10 : Turned [] (w2.alloc (.map #[] 0)) ((w2.alloc (.map #[] 0)).alloc (madeB nB)) := ((Turned.refl [] (w2.alloc (.map #[] 0))).j ((Turned.refl [] (w2.alloc (.map #[] 0))).alloc (madeB nB)))
        have tt12 : Turned [] w2 ((w2.alloc (.map #[] 0)).alloc (madeB nB)) := (((Turned.refl [] w2).j ((Turned.refl [] w2).alloc (.map #[] 0))).j ((Turned.refl [] (w2.alloc (.map #[] 0))).alloc (madeB nB)))
        have hmp := HM.out w2
        have hs3 := HH.out.1.lt _ (List.mem_cons_self ..)
        have hs4 := HH.out.1.lt _ (List.mem_cons_of_mem _ (List.mem_cons_self ..))
        refine ⟨_, _, rfl, newAt2 (F := ((w2.alloc (.map #[] 0)).alloc (madeB nB))) (g0 := (w2.alloc (.map #[] 0)).heap.size) (gm := w2.heap.size) (hb := w.heap.size + 1) (Xh := [w.heap.size, w.heap.size + 1]) ?_ ?_ ?_ ?_ hn he0 hm0 ttF (ownsRow_same (HR.out (w2.alloc (.map #[] 0))) (fun k _ hl => tt9.block k hl (by simp))) (ownsV_same hmp (tt10.block _ (ownsV_lt hmp) (by simp))) (HH.out.1.keep tt12 (by simp)) ?_ ?_ ?_ ?_ ?_ ?_⟩
        all_goals (simp at hs1 hs2 hs3 hs4 ⊢)
        all_goals (first | done | omega | (constructor <;> omega))
end Go.Proofs.Ytiffgkmmibhklaa
