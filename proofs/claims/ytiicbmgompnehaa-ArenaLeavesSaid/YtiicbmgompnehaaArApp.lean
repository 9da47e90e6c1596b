/-
  append onto a row of one's own: where the longer row lies. No program.
-/
import Derived.Test.YtiicbmgompnehaaArRows
import Derived.OwnWalk
import Derived.ArgAppend
namespace Go.Proofs.Ytiicbmgompnehaa
open Go.RowKit

theorem ownsRow_base {w : World} {base base' : Nat} {e : TypeId} {size : Nat} {v : Value} {n : Nat} {xs : List Value} (h : w.ownsRow base e size v n xs) (hb : base' ≤ base) : w.ownsRow base' e size v n xs := by
  refine ⟨h.1, ?_⟩
  rcases h.2 with h2 | ⟨g, cap, cur, rfl, h1, h2⟩
  · exact .inl h2
  · exact .inr ⟨g, cap, cur, rfl, by omega, h2⟩

/-- 'append(v, news..)', v a row of one's own, something appended: THE LONGER ROW LIES WHERE v LAY, OR IN A NEW BLOCK. -/
theorem wpList_append_at {P : Program} (w : World) {ops : Array Oper} {rest : List Oper} {o : Oper} {a : Act} {Q : Exit → Act → World → Prop} (hgd : o.guard = none) (s x : Operand) (t : TypeId)
    (ho : o.op = .call { callee := .builtin .append, args := #[s, x], argTypes := #[t, t] })
    (e : TypeId) (i : TypeInfo) (z : Value) (size bytes : Nat) (ht : P.underlying t = some (.slice e)) (hi : P.info? e = some i) (hz : i.zero = some z)
    (hsize : i.size = size) (hby : i.bytes = bytes) (hzs : z.cells.size = size) (hsz : 0 < size)
    (v : Value) (n : Nat) (xs : List Value) (hs : a.eval s = v) (hown : w.ownsRow 0 e size v n xs)
    (ad : Addr) (m c : Nat) (news : List Value) (hx : a.eval x = .slice (some ad) m c) (hm : 0 < m) (hl : news.length = m * size) (hnews : ∀ j u, news[j]? = some u → w.cell? (ad.add j) = some u) (h1 : ∀ u ∈ news, u.oneCell' = true)
    (h63 : n + m ≤ maxLen) (hbytes : (n + m) * bytes ≤ 140737488355328)
    (h : ∀ g cap' w', w'.ownsRow 0 e size (.slice (some ⟨g, 0, none⟩) (n + m) cap') (n + m) (xs ++ news) → w.grownBy w' v.ownBlock → (v.ownBlock = some g ∨ w.heap.size ≤ g) → n + m ≤ cap' → cap' ≤ maxLen →
      wpList P ops Q rest (a.put o.dst (.slice (some ⟨g, 0, none⟩) (n + m) cap')) w') : wpList P ops Q (o :: rest) a w := by
  have fresh : ∀ {v' : Value} {w' : World} {row : Option Nat}, w'.ownsRow w.heap.size e size v' (n + m) (xs ++ news) → w.grownBy w' row → (∀ k, row = some k → v.ownBlock = some k) → wpList P ops Q rest (a.put o.dst v') w' := by
    intro v' w' row r1 r2 r3
    obtain ⟨g, cap', rfl, hc1, hc2⟩ := ownsRow_pos r1 (by omega)
    refine h g cap' w' (ownsRow_base r1 (Nat.zero_le _)) ⟨r2.os, r2.tape, r2.output, r2.size, fun k hk hne => r2.block k hk (fun e => hne (r3 k e.symm).symm)⟩ (.inr ((r1.lt g (by simp [Value.ownBlock])).1)) hc1 hc2
  rcases hown.2 with ⟨hv, hn⟩ | ⟨g, cap, cur, hv, hb, hg, hnc, hcm, hcs, htake⟩
  · subst hv hn
    obtain rfl : xs = [] := List.eq_nil_of_length_eq_zero (by simpa using hown.1)
    refine wpList_append_own w hgd s x t ho w.heap.size e i z size bytes ht hi hz hsize hby hzs hsz (.slice none 0 0) 0 [] hs (World.ownsRow_nil _ _ _ _) ad m c news hx hl hnews h1 h63 hbytes (Nat.le_refl _) ?_
    intro v' w' r1 r2 _
    exact fresh r1 r2 (fun k hk => by simp [Value.ownBlock] at hk)
  · subst hv
    by_cases hroom : n + m ≤ cap
    · refine wpList_append_fits w hgd s x t ho 0 e i size ht hi hsize g n cap xs hs hown ad m c news hx hl hnews h1 hroom ?_
      intro w' r1 r2
      exact h g cap w' r1 r2 (.inl rfl) hroom hcm
    · refine wpList_append_grows w hgd s x t ho e i z size bytes ht hi hz hsize hby hzs hsz (some ⟨g, 0, none⟩) n cap xs hs (fun h => by cases h) hown.1 (fun b hb' => ?_) ad m c news hx hl hnews h1 (by omega) h63 hbytes ?_
      · cases hb'
        exact hown.cells (g := g) rfl
      · intro v' w' r1 r2
        exact fresh r1 r2 (fun k hk => by cases hk)

section
variable {α : Type} {tA tS : TypeId} {enc : α → List Value} {k : Nat} {w w1 : World} {b : Nat} {m : Int} {S : List (α × Bool)} {F : List Nat} {sv fv : Value}

theorem block_off {w : World} {b : Nat} {cs : Array Value} {t e : TypeId} {base size n : Nat} {v : Value} {xs : List Value} (hb : w.heap[b]? = some (.cells cs t (0, 0))) (hr : w.ownsRow base e size v n xs) (hne : t ≠ e) : some b ≠ v.ownBlock := by
  intro h
  obtain ⟨cur, hc⟩ := ownsRow_type hr b (by simp [← h])
  rw [hb] at hc
  simp at hc
  exact hne hc.2
theorem rows_off {w : World} {t e : TypeId} {base base' size size' n n' : Nat} {v v' : Value} {xs xs' : List Value} (hr : w.ownsRow base t size v n xs) (hr' : w.ownsRow base' e size' v' n' xs') (hne : t ≠ e) : v.ownBlock = none ∨ v.ownBlock ≠ v'.ownBlock := by
  cases hv : v.ownBlock with
  | none => exact .inl rfl
  | some g =>
    right
    intro h
    obtain ⟨cur, hc⟩ := ownsRow_type hr g (by simp [hv])
    obtain ⟨cur', hc'⟩ := ownsRow_type hr' g (by simp [← h])
    rw [hc] at hc'
    simp at hc'
    exact hne hc'.2

/-- Behind 'a.slots = append(a.slots, ..)': the append. -/
theorem ArAt.appended1 (h1 : w.heap[b]? = some (.cells #[.int .i64 m, sv, fv] tA (0, 0))) (h2 : w.ownsRow 0 tS (k + 1) sv S.length (slots enc S)) (h3 : w.ownsRow 0 3 1 fv F.length (places F))
    (n1 : tA ≠ tS) (n3 : tS ≠ 3) (tmp : Obj) (hg : (w.alloc tmp).grownBy w1 sv.ownBlock) :
    w1.heap[b]? = some (.cells #[.int .i64 m, sv, fv] tA (0, 0)) ∧ w1.ownsRow 0 3 1 fv F.length (places F) := by
  have hb := lt_of_block h1
  refine ⟨(hg.block b (by simp; omega) (block_off h1 h2 n1)).trans ((Below.heap_alloc w tmp b hb).trans h1), (h3.alloc tmp).kept hg (rows_off h3 h2 n3.symm)⟩
/-- .. and the store. -/
theorem ArAt.appended2 (h1 : w.heap[b]? = some (.cells #[.int .i64 m, sv, fv] tA (0, 0))) (h2 : w.ownsRow 0 tS (k + 1) sv S.length (slots enc S)) (h3 : w.ownsRow 0 3 1 fv F.length (places F))
    (n1 : tA ≠ tS) (n2 : tA ≠ 3) (n3 : tS ≠ 3) (tmp : Obj) (hg : (w.alloc tmp).grownBy w1 sv.ownBlock) {g n cap' : Nat} {T : List (α × Bool)} (hn : n = T.length) (ho : w1.ownsRow 0 tS (k + 1) (.slice (some ⟨g, 0, none⟩) n cap') n (slots enc T))
    (hw : sv.ownBlock = some g ∨ (w.alloc tmp).heap.size ≤ g) :
    ∃ X', ArAt tA tS enc k (w1.setCell ⟨b, 1, none⟩ (.slice (some ⟨g, 0, none⟩) n cap')) b X' m T F ∧ Turned (b :: (sv.ownBlock.toList ++ fv.ownBlock.toList)) w (w1.setCell ⟨b, 1, none⟩ (.slice (some ⟨g, 0, none⟩) n cap')) ∧
      Newer (b :: (sv.ownBlock.toList ++ fv.ownBlock.toList)) w.heap.size X' := by
  obtain ⟨hb1, hf1⟩ := ArAt.appended1 (k := k) h1 h2 h3 n1 n3 tmp hg
  subst hn
  refine ⟨_, ⟨_, fv, ?_, ownsRow_setCell_other ho (a := ⟨b, 1, none⟩) (fun e => block_off hb1 ho n1 e.symm) _, ownsRow_setCell_other hf1 (a := ⟨b, 1, none⟩) (fun e => block_off hb1 hf1 n2 e.symm) _, rfl⟩, ?_, ?_⟩
  · rw [heap_setCell_same w1 b 1 _ _ _ hb1]
    rfl
  · refine Turned.setCell (((Turned.refl _ w).alloc tmp).grown hg (fun j hj => ?_)) (.inl (by simp)) _
    exact .inl (List.mem_cons_of_mem _ (List.mem_append_left _ (by simp [hj])))
  · intro j hj
    rcases List.mem_cons.1 hj with rfl | hj
    · exact .inl (by simp)
    · rcases List.mem_append.1 hj with hj | hj
      · simp [Value.ownBlock] at hj
        subst hj
        rcases hw with hw | hw
        · exact .inl (List.mem_cons_of_mem _ (List.mem_append_left _ (by simp [hw])))
        · exact .inr (by simp at hw; omega)
      · exact .inl (List.mem_cons_of_mem _ (List.mem_append_right _ hj))

/-- Behind 'a.free = append(a.free, j)': the append. -/
theorem ArAt.freed1 (h1 : w.heap[b]? = some (.cells #[.int .i64 m, sv, fv] tA (0, 0))) (h2 : w.ownsRow 0 tS (k + 1) sv S.length (slots enc S)) (h3 : w.ownsRow 0 3 1 fv F.length (places F))
    (n2 : tA ≠ 3) (n3 : tS ≠ 3) (tmp : Obj) (hg : (w.alloc tmp).grownBy w1 fv.ownBlock) :
    w1.heap[b]? = some (.cells #[.int .i64 m, sv, fv] tA (0, 0)) ∧ w1.ownsRow 0 tS (k + 1) sv S.length (slots enc S) := by
  have hb := lt_of_block h1
  refine ⟨(hg.block b (by simp; omega) (block_off h1 h3 n2)).trans ((Below.heap_alloc w tmp b hb).trans h1), (h2.alloc tmp).kept hg (rows_off h2 h3 n3)⟩
/-- .. and the store. -/
theorem ArAt.freed2 (h1 : w.heap[b]? = some (.cells #[.int .i64 m, sv, fv] tA (0, 0))) (h2 : w.ownsRow 0 tS (k + 1) sv S.length (slots enc S)) (h3 : w.ownsRow 0 3 1 fv F.length (places F))
    (n1 : tA ≠ tS) (n2 : tA ≠ 3) (n3 : tS ≠ 3) (tmp : Obj) (hg : (w.alloc tmp).grownBy w1 fv.ownBlock) {g n cap' : Nat} {G : List Nat} (hn : n = G.length) (ho : w1.ownsRow 0 3 1 (.slice (some ⟨g, 0, none⟩) n cap') n (places G))
    (hw : fv.ownBlock = some g ∨ (w.alloc tmp).heap.size ≤ g) :
    ∃ X', ArAt tA tS enc k (w1.setCell ⟨b, 2, none⟩ (.slice (some ⟨g, 0, none⟩) n cap')) b X' m S G ∧ Turned (b :: (sv.ownBlock.toList ++ fv.ownBlock.toList)) w (w1.setCell ⟨b, 2, none⟩ (.slice (some ⟨g, 0, none⟩) n cap')) ∧
      Newer (b :: (sv.ownBlock.toList ++ fv.ownBlock.toList)) w.heap.size X' := by
  obtain ⟨hb1, hs1⟩ := ArAt.freed1 (k := k) h1 h2 h3 n2 n3 tmp hg
  subst hn
  refine ⟨_, ⟨sv, _, ?_, ownsRow_setCell_other hs1 (a := ⟨b, 2, none⟩) (fun e => block_off hb1 hs1 n1 e.symm) _, ownsRow_setCell_other ho (a := ⟨b, 2, none⟩) (fun e => block_off hb1 ho n2 e.symm) _, rfl⟩, ?_, ?_⟩
  · rw [heap_setCell_same w1 b 2 _ _ _ hb1]
    rfl
  · refine Turned.setCell (((Turned.refl _ w).alloc tmp).grown hg (fun j hj => ?_)) (.inl (by simp)) _
    exact .inl (List.mem_cons_of_mem _ (List.mem_append_right _ (by simp [hj])))
  · intro j hj
    rcases List.mem_cons.1 hj with rfl | hj
    · exact .inl (by simp)
    · rcases List.mem_append.1 hj with hj | hj
      · exact .inl (List.mem_cons_of_mem _ (List.mem_append_left _ hj))
      · simp [Value.ownBlock] at hj
        subst hj
        rcases hw with hw | hw
        · exact .inl (List.mem_cons_of_mem _ (List.mem_append_right _ (by simp [hw])))
        · exact .inr (by simp at hw; omega)
end
end Go.Proofs.Ytiicbmgompnehaa
