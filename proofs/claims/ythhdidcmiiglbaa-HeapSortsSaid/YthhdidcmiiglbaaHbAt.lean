/-
  A binary heap in memory: a row of items in a field, and a map of places by number; what stores, puts and deletes make of it.
-/
import Derived.Test.YthhdidcmiiglbaaChecked
import Derived.Test.YthhdidcmiiglbaaLst
import Derived.Test.YthhdidcmiiglbaaHbMath
import Derived.Lib.Hide
import Derived.Maps.OwnSet
import Derived.Deep.QuietTactic
import Derived.BigQuiet
import Derived.Deep.RegionLaw
namespace Go.Proofs.Ythhdidcmiiglbaa
open Go.RowKit Go.Maps

abbrev tN : TypeId := 3
abbrev tM : TypeId := 68
theorem lawN : Keyed Try.prog tN := int_keyed Try.underlying3
theorem zeroN (w : World) : (zeroValue tN).run Try.prog w = .ok (.int .i64 0) w := by kernel_rfl
abbrev litN (i : Int) : Lit := .int .i64 i
theorem len3 : ∀ {l : List Value}, l.length = 3 → ∃ a b c, l = [a, b, c]
  | [a, b, c], _ => ⟨a, b, c, rfl⟩
theorem litN_ne {i k : Int} (h : k ≠ i) : litN k ≠ litN i := fun e => h (by cases e; rfl)

/-- A map's datum tells the places. -/
structure ReadsF (D : DataW Unit) (f : Int → Option Int) : Prop where
  isMap : IsMap D
  has : ∀ i, Maps.has D (litN i) = (f i).isSome
  at_ : ∀ i v, f i = some v → D.atKey (litN i) (.lit (litN 0)) = .lit (litN v)
theorem ReadsF.empty : ReadsF (.map []) (fun _ => none) := ⟨isMap_empty, fun _ => rfl, fun _ _ h => by cases h⟩
theorem ReadsF.put {D : DataW Unit} {f : Int → Option Int} (h : ReadsF D f) (i v : Int) : ReadsF (D.put (litN i) (.lit (litN v))) (updF f i (some v)) := by
  refine ⟨h.isMap.put _ _, fun k => ?_, fun k u hk => ?_⟩
  · by_cases e : k = i
    · subst e
      rw [has_put_same (k := litN k) h.isMap trivial, updF_same]
      rfl
    · rw [has_put_other (litN_ne e), updF_other e]
      exact h.has k
  · by_cases e : k = i
    · subst e
      rw [updF_same] at hk
      cases hk
      exact atKey_put_same (k := litN k) h.isMap trivial _ _
    · rw [updF_other e] at hk
      rw [atKey_put_other (litN_ne e)]
      exact h.at_ k u hk
theorem ReadsF.del {D : DataW Unit} {f : Int → Option Int} (h : ReadsF D f) (i : Int) : ReadsF (D.del (litN i)) (updF f i none) := by
  refine ⟨h.isMap.del _, fun k => ?_, fun k u hk => ?_⟩
  · by_cases e : k = i
    · subst e
      rw [has_del_same, updF_same]
      rfl
    · rw [has_del_other (litN_ne e), updF_other e]
      exact h.has k
  · by_cases e : k = i
    · subst e
      rw [updF_same] at hk
      cases hk
    · rw [updF_other e] at hk
      rw [atKey_del_other (litN_ne e)]
      exact h.at_ k u hk

section
variable {P : Program} {k : TypeId} {R : Value → Option (DataW Unit × List MemPlace)} {w w' : World} {b n : Nat} {D : DataW Unit}
theorem ownsMap_tight (h : w.ownsMap P k R b n D) : w.ownsMap P k R b (Maps.size D) D := by
  obtain ⟨es, clock, hb, F, hs, rfl⟩ := h
  exact ⟨es, clock, hb, F, by simp [Maps.size, length_sorted], rfl⟩
theorem ownsMap_same (h : w.ownsMap P k R b n D) (hs : w'.heap[b]? = w.heap[b]?) : w'.ownsMap P k R b n D := by
  obtain ⟨es, clock, hb, r⟩ := h
  exact ⟨es, clock, hs.trans hb, r⟩
theorem ownsMap_off (h : w.ownsMap P k R b n D) {c : Nat} {cs : Array Value} {t : TypeId} {f : Nat × Nat} (hc : w.heap[c]? = some (.cells cs t f)) : b ≠ c := by
  rintro rfl
  obtain ⟨es, clock, hb, _⟩ := h
  rw [hb] at hc
  cases hc
theorem ownsMap_row (h : w.ownsMap P k R b n D) {base size n' : Nat} {e : TypeId} {v : Value} {xs : List Value} (hr : w.ownsRow base e size v n' xs) : b ∉ v.ownBlock.toList := by
  intro hb
  obtain ⟨cur, hc⟩ := ownsRow_type hr b hb
  exact ownsMap_off h hc rfl
end

/-- Block b holds a heap: room m, the items L, in a row of blocks of type tE, their places f, by a map of at most s entries. -/
def HAt {α : Type} (tS tE : TypeId) (enc : Hm α → List Value) (w : World) (b : Nat) (X : List Nat) (m : Int) (L : List (Hm α)) (f : Int → Option Int) (s : Nat) : Prop :=
  ∃ g Y D, LAt tS tE 3 enc (fun v => #[.int .i64 m, v, .map (some g)]) w b Y L ∧ w.ownsMap Try.prog tN (plainElem (H := Unit) Try.prog tN) g (Maps.size D) D ∧ Maps.size D ≤ s ∧ ReadsF D f ∧ X = g :: Y

section
variable {α : Type} {tS tE : TypeId} {enc : Hm α → List Value} {w w' : World} {b : Nat} {X Y : List Nat} {m : Int} {L : List (Hm α)} {f : Int → Option Int} {s : Nat}
theorem HAt.keep (h : HAt tS tE enc w b X m L f s) (ht : Turned Y w w') (hd : ∀ k ∈ X, k ∉ Y) : HAt tS tE enc w' b X m L f s := by
  obtain ⟨g, Z, D, h1, h2, h3, h4, rfl⟩ := h
  exact ⟨g, Z, D, h1.keep ht (fun k hk => hd k (List.mem_cons_of_mem _ hk)), ownsMap_same h2 (ht.block g h2.lt (hd g (by simp))), h3, h4, rfl⟩
theorem HAt.lt (h : HAt tS tE enc w b X m L f s) : ∀ k ∈ X, k < w.heap.size := by
  obtain ⟨g, Z, D, h1, h2, h3, h4, rfl⟩ := h
  intro k hk
  rcases List.mem_cons.1 hk with rfl | hk
  · exact h2.lt
  · exact h1.lt k hk
theorem HAt.head (h : HAt tS tE enc w b X m L f s) : b ∈ X := by
  obtain ⟨g, Z, D, h1, h2, h3, h4, rfl⟩ := h
  exact List.mem_cons_of_mem _ h1.head
theorem HAt.drewN (h : HAt tS tE enc w b X m L f s) (n : Nat) : HAt tS tE enc (w.drewN n) b X m L f s := h
theorem HAt.mono (h : HAt tS tE enc w b X m L f s) {s' : Nat} (hs : s ≤ s') : HAt tS tE enc w b X m L f s' := by
  obtain ⟨g, Z, D, h1, h2, h3, h4, rfl⟩ := h
  exact ⟨g, Z, D, h1, h2, by omega, h4, rfl⟩

theorem cellsOf_set3 (hk : ∀ x, (enc x).length = 3) {u0 u1 u2 : Value} {x : Hm α} (he : enc x = [u0, u1, u2]) : ∀ (L : List (Hm α)) (j : Nat), j < L.length →
    cellsOf enc (L.set j x) = (((cellsOf enc L).set (j * 3) u0).set (j * 3 + 1) u1).set (j * 3 + 2) u2
  | s :: L, 0, _ => by
    obtain ⟨a, b, c, hs⟩ := len3 (hk s)
    simp [cellsOf, he, hs]
  | s :: L, j + 1, hj => by
    have ih := cellsOf_set3 hk he L j (by simpa using hj)
    obtain ⟨a, b, c, hs⟩ := len3 (hk s)
    have e0 : (j + 1) * 3 = (j * 3) + 1 + 1 + 1 := by omega
    have e1 : (j + 1) * 3 + 1 = (j * 3 + 1) + 1 + 1 + 1 := by omega
    have e2 : (j + 1) * 3 + 2 = (j * 3 + 2) + 1 + 1 + 1 := by omega
    rw [e2, e1, e0]
    simp only [cellsOf, List.set_cons_succ, List.flatMap_cons, hs, List.cons_append, List.nil_append] at ih ⊢
    rw [ih]
/-- An item is stored. -/
theorem row_set3 {g n cap : Nat} (hk : ∀ x, (enc x).length = 3) (ho : w.ownsRow 0 tE 3 (.slice (some ⟨g, 0, none⟩) n cap) L.length (cellsOf enc L)) {j : Nat} (hj : j < L.length) {u0 u1 u2 : Value} {x : Hm α} (he : enc x = [u0, u1, u2]) :
    (((w.setCell ⟨g, j * 3, none⟩ u0).setCell ⟨g, j * 3 + 1, none⟩ u1).setCell ⟨g, j * 3 + 2, none⟩ u2).ownsRow 0 tE 3 (.slice (some ⟨g, 0, none⟩) n cap) (L.set j x).length (cellsOf enc (L.set j x)) := by
  have hn : n = L.length := by
    obtain ⟨_, _, h1, _⟩ := ownsRow_shape ho
    simp at h1
    exact h1.2.1
  subst hn
  rw [cellsOf_set3 hk he L j hj, List.length_set]
  exact (((ho.stored (j * 3) u0).1.stored (j * 3 + 1) u1).1.stored (j * 3 + 2) u2).1
/-- .. the heap behind it. -/
theorem HAt.setItem {g gm cap : Nat} {D : DataW Unit} (hk : ∀ x, (enc x).length = 3) (hne : tS ≠ tE) (hb : w.heap[b]? = some (.cells #[.int .i64 m, .slice (some ⟨g, 0, none⟩) L.length cap, .map (some gm)] tS (0, 0)))
    (ho : w.ownsRow 0 tE 3 (.slice (some ⟨g, 0, none⟩) L.length cap) L.length (cellsOf enc L)) (hm : w.ownsMap Try.prog tN (plainElem (H := Unit) Try.prog tN) gm (Maps.size D) D) {j : Nat} (hj : j < L.length) {u0 u1 u2 : Value} {x : Hm α} (he : enc x = [u0, u1, u2]) :
    let w1 := ((w.setCell ⟨g, j * 3, none⟩ u0).setCell ⟨g, j * 3 + 1, none⟩ u1).setCell ⟨g, j * 3 + 2, none⟩ u2
    w1.heap[b]? = some (.cells #[.int .i64 m, .slice (some ⟨g, 0, none⟩) L.length cap, .map (some gm)] tS (0, 0)) ∧
      w1.ownsRow 0 tE 3 (.slice (some ⟨g, 0, none⟩) L.length cap) L.length (cellsOf enc (L.set j x)) ∧ w1.ownsMap Try.prog tN (plainElem (H := Unit) Try.prog tN) gm (Maps.size D) D ∧ Turned [g] w w1 := by
  intro w1
  have hbg : b ≠ g := fun h => block_off hb ho hne (by simp [Value.ownBlock, h])
  have hgm : gm ≠ g := by
    obtain ⟨cur, hc⟩ := ownsRow_type ho g (by simp [Value.ownBlock])
    exact ownsMap_off hm hc
  refine ⟨?_, ?_, ?_, ?_⟩
  · exact (Below.heap_setCell _ _ _ _ hbg).trans ((Below.heap_setCell _ _ _ _ hbg).trans ((Below.heap_setCell _ _ _ _ hbg).trans hb))
  · have := row_set3 hk ho hj he
    rwa [List.length_set] at this
  · exact (((hm.setCell hgm _).setCell hgm _).setCell hgm _)
  · exact (((Turned.refl [g] w).setCell (.inl (by simp)) _).setCell (.inl (by simp)) _).setCell (.inl (by simp)) _
/-- .. and a place put. -/
theorem HAt.putPlace {g gm cap : Nat} {D : DataW Unit} (hb : w.heap[b]? = some (.cells #[.int .i64 m, .slice (some ⟨g, 0, none⟩) L.length cap, .map (some gm)] tS (0, 0)))
    (ho : w.ownsRow 0 tE 3 (.slice (some ⟨g, 0, none⟩) L.length cap) L.length (cellsOf enc L)) (hm : w.ownsMap Try.prog tN (plainElem (H := Unit) Try.prog tN) gm (Maps.size D) D) (hs : Maps.size D ≤ s) (hf : ReadsF D f) {i v : Int}
    (hm' : w'.ownsMap Try.prog tN (plainElem (H := Unit) Try.prog tN) gm (Maps.size D + 1) (D.put (litN i) (.lit (litN v)))) (ht : w.mapTurned w' gm) :
    HAt tS tE enc w' b [gm, b, g] m L (updF f i (some v)) (if (f i).isSome then s else s + 1) ∧ Turned [gm] w w' := by
  have hT : Turned [gm] w w' := Turned.grown (Turned.refl [gm] w) ht.grown (fun k hk => .inl (by cases hk; simp))
  refine ⟨⟨gm, [b, g], _, ⟨_, hT.same hb (by simp; exact (ownsMap_off hm hb).symm), ownsRow_same ho (fun k hk hl => hT.block k hl ?_), by simp [Value.ownBlock]⟩, ownsMap_tight hm', ?_, hf.put i v, rfl⟩, hT⟩
  · have := ownsMap_row hm ho
    simp only [List.mem_singleton]
    rintro rfl
    exact this hk
  · rw [size_put (hm.tidy lawN), hf.has i]
    split <;> omega
/-- .. or struck. -/
theorem HAt.delPlace {v : Value} {gm : Nat} {D : DataW Unit} (hb : w.heap[b]? = some (.cells #[.int .i64 m, v, .map (some gm)] tS (0, 0)))
    (ho : w.ownsRow 0 tE 3 v L.length (cellsOf enc L)) (hm : w.ownsMap Try.prog tN (plainElem (H := Unit) Try.prog tN) gm (Maps.size D) D) (hs : Maps.size D ≤ s + 1) (hf : ReadsF D f) {i u : Int} (hi : f i = some u)
    (hm' : w'.ownsMap Try.prog tN (plainElem (H := Unit) Try.prog tN) gm (Maps.size D) (D.del (litN i))) (ht : w.mapTurned w' gm) :
    HAt tS tE enc w' b (gm :: b :: v.ownBlock.toList) m L (updF f i none) s ∧ Turned [gm] w w' := by
  have hT : Turned [gm] w w' := Turned.grown (Turned.refl [gm] w) ht.grown (fun k hk => .inl (by cases hk; simp))
  refine ⟨⟨gm, _, _, ⟨_, hT.same hb (by simp; exact (ownsMap_off hm hb).symm), ownsRow_same ho (fun k hk hl => hT.block k hl ?_), rfl⟩, ownsMap_tight hm', ?_, hf.del i, rfl⟩, hT⟩
  · have := ownsMap_row hm ho
    simp only [List.mem_singleton]
    rintro rfl
    exact this hk
  · have h1 := size_del (k := litN i) (hm.tidy lawN)
    rw [hf.has i, hi] at h1
    simp at h1
    omega
end

/-! ### the map's operations in a region that draws its order -/
section
variable (w : World) {ops : Array Oper} {o : Oper} {a : Act} {K : Act → World → Prop} {Q : Exit → Act → World → Prop} {E : Prop}
theorem step_mapPut (hgd : o.guard = none) (m x v : Operand) (hop : o.op = Op.mapUpdate tM m x v) {b n : Nat} {D : DataW Unit} (hm : a.eval m = .map (some b)) (hown : w.ownsMap Try.prog tN (plainElem (H := Unit) Try.prog tN) b n D) (hn : n < maxLen)
    {i u : Int} (hx : a.eval x = .int .i64 i) (hv : a.eval v = .int .i64 u) (hi : (litN i).wf = true) (hu : (litN u).wf = true)
    (hK : ∀ w', w'.ownsMap Try.prog tN (plainElem (H := Unit) Try.prog tN) b (n + 1) (D.put (litN i) (.lit (litN u))) → w.mapTurned w' b → K (a.put o.dst undef) w') : if Region.wanted o (yielded ops a.tmps) = true then Oper.wp Try.prog o a w K Q else E := by
  have hw : Region.wanted o (yielded ops a.tmps) = true := by simp [Region.wanted, hgd]
  rw [if_pos hw]
  obtain ⟨w', hrun, r1, r2⟩ := hown.store lawN Try.underlying68 hn (keyOf_int_mk Try.underlying3 hi) (plainElem_int Try.underlying3 hu)
  unfold Oper.wp
  simp [execOp, hop, hm, hx, hv, hrun, Result.andThen]
  exact hK _ r1 r2
theorem step_mapDel (hgd : o.guard = none) (m x : Operand) (hop : o.op = Op.call { callee := Callee.builtin Builtin.delete, args := #[m, x], argTypes := #[tM, tN] }) {b n : Nat} {D : DataW Unit} (hm : a.eval m = .map (some b)) (hown : w.ownsMap Try.prog tN (plainElem (H := Unit) Try.prog tN) b n D)
    {i : Int} (hx : a.eval x = .int .i64 i) (hi : (litN i).wf = true)
    (hK : ∀ w', w'.ownsMap Try.prog tN (plainElem (H := Unit) Try.prog tN) b n (D.del (litN i)) → w.mapTurned w' b → K (a.put o.dst (.tuple #[])) w') : if Region.wanted o (yielded ops a.tmps) = true then Oper.wp Try.prog o a w K Q else E := by
  have hw : Region.wanted o (yielded ops a.tmps) = true := by simp [Region.wanted, hgd]
  rw [if_pos hw]
  obtain ⟨w', hrun, r1, r2⟩ := hown.drop lawN Try.underlying68 (keyOf_int_mk Try.underlying3 hi) o.type
  unfold Oper.wp
  simp [execOp, hop, resolve, invoke, builtin, hm, hx, hrun, Result.andThen]
  exact hK _ r1 r2
end
/-- 'm[k]', with 'ok', as an equation. -/
theorem look_eq {w : World} {b n : Nat} {D : DataW Unit} {f : Int → Option Int} (h : w.ownsMap Try.prog tN (plainElem (H := Unit) Try.prog tN) b n D) (hf : ReadsF D f) {i : Int} (hi : (litN i).wf = true) :
    (Instr.lookup tM (.map (some b)) (.int .i64 i) true).run Try.prog w = .ok (.tuple #[.int .i64 ((f i).getD 0), .bool (f i).isSome]) w := by
  obtain ⟨v, ps, hrun, hv⟩ := h.look_ok lawN Try.underlying68 (zeroN w) (plainElem_int Try.underlying3 (by decide)) (keyOf_int_mk Try.underlying3 hi)
  obtain ⟨c, rfl, hc, _⟩ := plainElem_int_inv Try.underlying3 hv
  rw [hrun, hf.has i]
  have h1 := congrArg Prod.fst hc
  simp only at h1
  cases hfi : f i with
  | none =>
    rw [atKey_of_not_has (by rw [hf.has i, hfi]; rfl)] at h1
    cases h1
    rfl
  | some u =>
    rw [hf.at_ i u hfi] at h1
    cases h1
    rfl
end Go.Proofs.Ythhdidcmiiglbaa
