/-
  A map from whole numbers to whole numbers (map[int]int) in memory, told by a partial function; put, delete, look up.
-/
import Derived.Test.YtnoiifnknkakoaaChecked
import Derived.Test.YtnoiifnknkakoaaArOwn
import Derived.Test.YtnoiifnknkakoaaUpdF
import Derived.Lib.Hide
import Derived.Maps.OwnSet
import Derived.Deep.QuietTactic
import Derived.BigQuiet
import Derived.Deep.RegionLaw
namespace Go.Proofs.Ytnoiifnknkakoaa
open Go.RowKit Go.Maps

abbrev tN : TypeId := 3
abbrev tM : TypeId := 68
theorem lawN : Keyed Try.prog tN := int_keyed Try.underlying3
theorem zeroN (w : World) : (zeroValue tN).run Try.prog w = .ok (.int .i64 0) w := by kernel_rfl
abbrev litN (i : Int) : Lit := .int .i64 i
theorem litN_ne {i k : Int} (h : k ≠ i) : litN k ≠ litN i := fun e => h (by cases e; rfl)

/-- A map's datum tells the places. -/
structure ReadsF (D : DataW Unit) (f : Int → Option Int) : Prop where
  isMap : IsMap D
  has : ∀ i, Maps.has D (litN i) = (f i).isSome
  at_ : ∀ i v, f i = some v → D.atKey (litN i) (.lit (litN 0)) = .lit (litN v)
theorem ReadsF.empty : ReadsF (.map []) (fun _ => none) := ⟨isMap_empty, fun _ => rfl, fun _ _ h => by cases h⟩
theorem ReadsF.put {D : DataW Unit} {f : Int → Option Int} (h : ReadsF D f) (i v : Int) : ReadsF (D.put (litN i) (.lit (litN v))) (updF f i (some v)) := by
  refine ⟨h.isMap.put _ _, fun k => ?_, fun k u hk => ?_⟩
  · by_cases e : k = i
    · subst e
      rw [has_put_same (k := litN k) h.isMap trivial, updF_same]
      rfl
    · rw [has_put_other (litN_ne e), updF_other e]
      exact h.has k
  · by_cases e : k = i
    · subst e
      rw [updF_same] at hk
      cases hk
      exact atKey_put_same (k := litN k) h.isMap trivial _ _
    · rw [updF_other e] at hk
      rw [atKey_put_other (litN_ne e)]
      exact h.at_ k u hk
theorem ReadsF.del {D : DataW Unit} {f : Int → Option Int} (h : ReadsF D f) (i : Int) : ReadsF (D.del (litN i)) (updF f i none) := by
  refine ⟨h.isMap.del _, fun k => ?_, fun k u hk => ?_⟩
  · by_cases e : k = i
    · subst e
      rw [has_del_same, updF_same]
      rfl
    · rw [has_del_other (litN_ne e), updF_other e]
      exact h.has k
  · by_cases e : k = i
    · subst e
      rw [updF_same] at hk
      cases hk
    · rw [updF_other e] at hk
      rw [atKey_del_other (litN_ne e)]
      exact h.at_ k u hk

section
variable {P : Program} {k : TypeId} {R : Value → Option (DataW Unit × List MemPlace)} {w w' : World} {b n : Nat} {D : DataW Unit}
theorem ownsMap_tight (h : w.ownsMap P k R b n D) : w.ownsMap P k R b (Maps.size D) D := by
  obtain ⟨es, clock, hb, F, hs, rfl⟩ := h
  exact ⟨es, clock, hb, F, by simp [Maps.size, length_sorted], rfl⟩
theorem ownsMap_same (h : w.ownsMap P k R b n D) (hs : w'.heap[b]? = w.heap[b]?) : w'.ownsMap P k R b n D := by
  obtain ⟨es, clock, hb, r⟩ := h
  exact ⟨es, clock, hs.trans hb, r⟩
theorem ownsMap_off (h : w.ownsMap P k R b n D) {c : Nat} {cs : Array Value} {t : TypeId} {f : Nat × Nat} (hc : w.heap[c]? = some (.cells cs t f)) : b ≠ c := by
  rintro rfl
  obtain ⟨es, clock, hb, _⟩ := h
  rw [hb] at hc
  cases hc
theorem ownsMap_row (h : w.ownsMap P k R b n D) {base size n' : Nat} {e : TypeId} {v : Value} {xs : List Value} (hr : w.ownsRow base e size v n' xs) : b ∉ v.ownBlock.toList := by
  intro hb
  obtain ⟨cur, hc⟩ := ownsRow_type hr b hb
  exact ownsMap_off h hc rfl
end

/-! ### the map's operations in a region that draws its order -/
section
variable (w : World) {ops : Array Oper} {o : Oper} {a : Act} {K : Act → World → Prop} {Q : Exit → Act → World → Prop} {E : Prop}
theorem step_mapPut (hgd : o.guard = none) (m x v : Operand) (hop : o.op = Op.mapUpdate tM m x v) {b n : Nat} {D : DataW Unit} (hm : a.eval m = .map (some b)) (hown : w.ownsMap Try.prog tN (plainElem (H := Unit) Try.prog tN) b n D) (hn : n < maxLen)
    {i u : Int} (hx : a.eval x = .int .i64 i) (hv : a.eval v = .int .i64 u) (hi : (litN i).wf = true) (hu : (litN u).wf = true)
    (hK : ∀ w', w'.ownsMap Try.prog tN (plainElem (H := Unit) Try.prog tN) b (n + 1) (D.put (litN i) (.lit (litN u))) → w.mapTurned w' b → K (a.put o.dst undef) w') : if Region.wanted o (yielded ops a.tmps) = true then Oper.wp Try.prog o a w K Q else E := by
  have hw : Region.wanted o (yielded ops a.tmps) = true := by simp [Region.wanted, hgd]
  rw [if_pos hw]
  obtain ⟨w', hrun, r1, r2⟩ := hown.store lawN Try.underlying68 hn (keyOf_int_mk Try.underlying3 hi) (plainElem_int Try.underlying3 hu)
  unfold Oper.wp
  simp [execOp, hop, hm, hx, hv, hrun, Result.andThen]
  exact hK _ r1 r2
theorem step_mapDel (hgd : o.guard = none) (m x : Operand) (hop : o.op = Op.call { callee := Callee.builtin Builtin.delete, args := #[m, x], argTypes := #[tM, tN] }) {b n : Nat} {D : DataW Unit} (hm : a.eval m = .map (some b)) (hown : w.ownsMap Try.prog tN (plainElem (H := Unit) Try.prog tN) b n D)
    {i : Int} (hx : a.eval x = .int .i64 i) (hi : (litN i).wf = true)
    (hK : ∀ w', w'.ownsMap Try.prog tN (plainElem (H := Unit) Try.prog tN) b n (D.del (litN i)) → w.mapTurned w' b → K (a.put o.dst (.tuple #[])) w') : if Region.wanted o (yielded ops a.tmps) = true then Oper.wp Try.prog o a w K Q else E := by
  have hw : Region.wanted o (yielded ops a.tmps) = true := by simp [Region.wanted, hgd]
  rw [if_pos hw]
  obtain ⟨w', hrun, r1, r2⟩ := hown.drop lawN Try.underlying68 (keyOf_int_mk Try.underlying3 hi) o.type
  unfold Oper.wp
  simp [execOp, hop, resolve, invoke, builtin, hm, hx, hrun, Result.andThen]
  exact hK _ r1 r2
end
/-- 'm[k]', with 'ok', as an equation. -/
theorem look_eq {w : World} {b n : Nat} {D : DataW Unit} {f : Int → Option Int} (h : w.ownsMap Try.prog tN (plainElem (H := Unit) Try.prog tN) b n D) (hf : ReadsF D f) {i : Int} (hi : (litN i).wf = true) :
    (Instr.lookup tM (.map (some b)) (.int .i64 i) true).run Try.prog w = .ok (.tuple #[.int .i64 ((f i).getD 0), .bool (f i).isSome]) w := by
  obtain ⟨v, ps, hrun, hv⟩ := h.look_ok lawN Try.underlying68 (zeroN w) (plainElem_int Try.underlying3 (by decide)) (keyOf_int_mk Try.underlying3 hi)
  obtain ⟨c, rfl, hc, _⟩ := plainElem_int_inv Try.underlying3 hv
  rw [hrun, hf.has i]
  have h1 := congrArg Prod.fst hc
  simp only at h1
  cases hfi : f i with
  | none =>
    rw [atKey_of_not_has (by rw [hf.has i, hfi]; rfl)] at h1
    cases h1
    rfl
  | some u =>
    rw [hf.at_ i u hfi] at h1
    cases h1
    rfl
end Go.Proofs.Ytnoiifnknkakoaa
