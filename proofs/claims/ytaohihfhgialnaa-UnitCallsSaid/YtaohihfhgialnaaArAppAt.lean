/-
  append onto a row of one's own: where the longer row lies. No program.
-/
import Derived.Test.YtaohihfhgialnaaArOwn
import Derived.OwnWalk
import Derived.ArgAppend
namespace Go.Proofs.Ytaohihfhgialnaa
open Go.RowKit

theorem ownsRow_base {w : World} {base base' : Nat} {e : TypeId} {size : Nat} {v : Value} {n : Nat} {xs : List Value} (h : w.ownsRow base e size v n xs) (hb : base' ≤ base) : w.ownsRow base' e size v n xs := by
  refine ⟨h.1, ?_⟩
  rcases h.2 with h2 | ⟨g, cap, cur, rfl, h1, h2⟩
  · exact .inl h2
  · exact .inr ⟨g, cap, cur, rfl, by omega, h2⟩

/-- 'append(v, news..)', v a row of one's own, something appended: THE LONGER ROW LIES WHERE v LAY, OR IN A NEW BLOCK. -/
theorem wpList_append_at {P : Program} (w : World) {ops : Array Oper} {rest : List Oper} {o : Oper} {a : Act} {Q : Exit → Act → World → Prop} (hgd : o.guard = none) (s x : Operand) (t : TypeId)
    (ho : o.op = .call { callee := .builtin .append, args := #[s, x], argTypes := #[t, t] })
    (e : TypeId) (i : TypeInfo) (z : Value) (size bytes : Nat) (ht : P.underlying t = some (.slice e)) (hi : P.info? e = some i) (hz : i.zero = some z)
    (hsize : i.size = size) (hby : i.bytes = bytes) (hzs : z.cells.size = size) (hsz : 0 < size)
    (v : Value) (n : Nat) (xs : List Value) (hs : a.eval s = v) (hown : w.ownsRow 0 e size v n xs)
    (ad : Addr) (m c : Nat) (news : List Value) (hx : a.eval x = .slice (some ad) m c) (hm : 0 < m) (hl : news.length = m * size) (hnews : ∀ j u, news[j]? = some u → w.cell? (ad.add j) = some u) (h1 : ∀ u ∈ news, u.oneCell' = true)
    (h63 : n + m ≤ maxLen) (hbytes : (n + m) * bytes ≤ 140737488355328)
    (h : ∀ g cap' w', w'.ownsRow 0 e size (.slice (some ⟨g, 0, none⟩) (n + m) cap') (n + m) (xs ++ news) → w.grownBy w' v.ownBlock → (v.ownBlock = some g ∨ w.heap.size ≤ g) → n + m ≤ cap' → cap' ≤ maxLen →
      wpList P ops Q rest (a.put o.dst (.slice (some ⟨g, 0, none⟩) (n + m) cap')) w') : wpList P ops Q (o :: rest) a w := by
  have fresh : ∀ {v' : Value} {w' : World} {row : Option Nat}, w'.ownsRow w.heap.size e size v' (n + m) (xs ++ news) → w.grownBy w' row → (∀ k, row = some k → v.ownBlock = some k) → wpList P ops Q rest (a.put o.dst v') w' := by
    intro v' w' row r1 r2 r3
    obtain ⟨g, cap', rfl, hc1, hc2⟩ := ownsRow_pos r1 (by omega)
    refine h g cap' w' (ownsRow_base r1 (Nat.zero_le _)) ⟨r2.os, r2.tape, r2.output, r2.size, fun k hk hne => r2.block k hk (fun e => hne (r3 k e.symm).symm)⟩ (.inr ((r1.lt g (by simp [Value.ownBlock])).1)) hc1 hc2
  rcases hown.2 with ⟨hv, hn⟩ | ⟨g, cap, cur, hv, hb, hg, hnc, hcm, hcs, htake⟩
  · subst hv hn
    obtain rfl : xs = [] := List.eq_nil_of_length_eq_zero (by simpa using hown.1)
    refine wpList_append_own w hgd s x t ho w.heap.size e i z size bytes ht hi hz hsize hby hzs hsz (.slice none 0 0) 0 [] hs (World.ownsRow_nil _ _ _ _) ad m c news hx hl hnews h1 h63 hbytes (Nat.le_refl _) ?_
    intro v' w' r1 r2 _
    exact fresh r1 r2 (fun k hk => by simp [Value.ownBlock] at hk)
  · subst hv
    by_cases hroom : n + m ≤ cap
    · refine wpList_append_fits w hgd s x t ho 0 e i size ht hi hsize g n cap xs hs hown ad m c news hx hl hnews h1 hroom ?_
      intro w' r1 r2
      exact h g cap w' r1 r2 (.inl rfl) hroom hcm
    · refine wpList_append_grows w hgd s x t ho e i z size bytes ht hi hz hsize hby hzs hsz (some ⟨g, 0, none⟩) n cap xs hs (fun h => by cases h) hown.1 (fun b hb' => ?_) ad m c news hx hl hnews h1 (by omega) h63 hbytes ?_
      · cases hb'
        exact hown.cells (g := g) rfl
      · intro v' w' r1 r2
        exact fresh r1 r2 (fun k hk => by cases hk)

theorem block_off {w : World} {b : Nat} {cs : Array Value} {t e : TypeId} {base size n : Nat} {v : Value} {xs : List Value} (hb : w.heap[b]? = some (.cells cs t (0, 0))) (hr : w.ownsRow base e size v n xs) (hne : t ≠ e) : some b ≠ v.ownBlock := by
  intro h
  obtain ⟨cur, hc⟩ := ownsRow_type hr b (by simp [← h])
  rw [hb] at hc
  simp at hc
  exact hne hc.2
theorem rows_off {w : World} {t e : TypeId} {base base' size size' n n' : Nat} {v v' : Value} {xs xs' : List Value} (hr : w.ownsRow base t size v n xs) (hr' : w.ownsRow base' e size' v' n' xs') (hne : t ≠ e) : v.ownBlock = none ∨ v.ownBlock ≠ v'.ownBlock := by
  cases hv : v.ownBlock with
  | none => exact .inl rfl
  | some g =>
    right
    intro h
    obtain ⟨cur, hc⟩ := ownsRow_type hr g (by simp [hv])
    obtain ⟨cur', hc'⟩ := ownsRow_type hr' g (by simp [← h])
    rw [hc] at hc'
    simp at hc'
    exact hne hc'.2

end Go.Proofs.Ytaohihfhgialnaa
