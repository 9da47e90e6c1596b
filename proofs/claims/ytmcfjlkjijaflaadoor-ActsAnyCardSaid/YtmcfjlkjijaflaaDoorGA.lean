/-
  Memory of one's own, told by the numbers of its blocks: what a call may have turned, and what stays. No program.
  append onto a row of one's own: where the longer row lies. No program.
  What a round of a loop over a function may turn. No program.
  Inside a round of a loop over a function: a region that draws its order, walked as outside of it. No program.
  A loop over a function that turns memory of its own between two rounds (a heap that is popped): its contract, and the caller's law. No program.
  A list of like things, its cells in a row of one's own that a field of a block holds: what appends, removals and stores make of it. No program.
  What is told of cells abides the steps of a loop over a function; a region with calls in a round; a bool that is answered out of a cell. No program.
  A region that draws its order, in a round of a loop over a function: what its loads read abides till its last operation, which waits for them all, and may turn it. No program.
-/
import Derived.WalkKit
import Derived.OneCell
import Derived.WalkSmall
import Derived.OwnWalk
import Derived.ArgAppend
import Derived.RangeFuncNested
import Derived.RangeFuncBound
import Derived.RangeFuncCalls
import Derived.RangeFuncLeaves
import Derived.RangeFuncBox
import Derived.BigQuiet
import Derived.StillTailTactics
import Derived.OrdersIn
import Derived.RangeFuncWrites
import Derived.Laws.AppendOwnNone
import Derived.Maps.AppendAt
import Derived.RegionTactic
import Derived.Test.YtmcfjlkjijaflaaDoorChecked
import Derived.Deep.RegionHeld3
import Derived.Shelf.Abstract

/- Memory of one's own, told by the numbers of its blocks: what a call may have turned, and what stays. No program. -/
namespace Go.Proofs.YtmcfjlkjijaflaaDoor
open Go.RowKit

/-- Of the blocks that lay in w none but those of X have turned in w'. -/
structure Turned (X : List Nat) (w w' : World) : Prop where
  os : w'.os = w.os
  tape : w'.tape = w.tape
  output : w'.output = w.output
  size : w.heap.size ≤ w'.heap.size
  block : ∀ k, k < w.heap.size → k ∉ X → w'.heap[k]? = w.heap[k]?

/-- Each of Y is one of X, or new from n on. -/
def Newer (X : List Nat) (n : Nat) (Y : List Nat) : Prop := ∀ k ∈ Y, k ∈ X ∨ n ≤ k

theorem Newer.refl (X : List Nat) (n : Nat) : Newer X n X := fun _ h => .inl h
theorem Newer.trans {X Y Z : List Nat} {n m : Nat} (h : Newer X n Y) (g : Newer Y m Z) (hn : n ≤ m) : Newer X n Z := fun k hk => by
  rcases g k hk with h1 | h1
  · exact h k h1
  · exact .inr (by omega)
theorem Newer.mono {X Y : List Nat} {n m : Nat} (h : Newer X n Y) (hn : m ≤ n) : Newer X m Y := fun k hk => by
  rcases h k hk with h1 | h1
  · exact .inl h1
  · exact .inr (by omega)

theorem Turned.refl (X : List Nat) (w : World) : Turned X w w := ⟨rfl, rfl, rfl, Nat.le_refl _, fun _ _ _ => rfl⟩
theorem Turned.trans {X Y : List Nat} {a b c : World} (h : Turned X a b) (g : Turned Y b c) (hs : Newer X a.heap.size Y) : Turned X a c :=
  ⟨g.os.trans h.os, g.tape.trans h.tape, g.output.trans h.output, Nat.le_trans h.size g.size, fun k hk hx =>
    (g.block k (Nat.lt_of_lt_of_le hk h.size) (fun hy => by rcases hs k hy with h1 | h1; exact hx h1; omega)).trans (h.block k hk hx)⟩
theorem Turned.mono {X Y : List Nat} {a b : World} (h : Turned Y a b) (hs : Newer X a.heap.size Y) : Turned X a b := (Turned.refl X a).trans h hs
theorem Turned.drewN {X : List Nat} {a b : World} (h : Turned X a b) (n : Nat) : Turned X a (b.drewN n) := ⟨h.os, h.tape, h.output, h.size, h.block⟩
theorem Turned.drew {X : List Nat} {a b : World} (h : Turned X a b) : Turned X a b.drew := ⟨h.os, h.tape, h.output, h.size, h.block⟩
theorem Turned.alloc {X : List Nat} {a b : World} (h : Turned X a b) (o : Obj) : Turned X a (b.alloc o) :=
  ⟨h.os, h.tape, h.output, Nat.le_trans h.size (by simp), fun k hk hx => (Below.heap_alloc b o k (Nat.lt_of_lt_of_le hk h.size)).trans (h.block k hk hx)⟩
theorem Turned.setCell {X : List Nat} {a b : World} (h : Turned X a b) {p : Addr} (hp : p.block ∈ X ∨ a.heap.size ≤ p.block) (u : Value) : Turned X a (b.setCell p u) :=
  ⟨h.os, h.tape, h.output, Nat.le_trans h.size (by simp [World.setCell]), fun k hk hx =>
    (Below.heap_setCell b p u k (fun e => by subst e; rcases hp with h1 | h1; exact hx h1; omega)).trans (h.block k hk hx)⟩
theorem Turned.grown {X : List Nat} {a b c : World} {row : Option Nat} (h : Turned X a b) (hg : b.grownBy c row) (hr : ∀ k, row = some k → k ∈ X ∨ a.heap.size ≤ k) : Turned X a c :=
  ⟨hg.os.trans h.os, hg.tape.trans h.tape, hg.output.trans h.output, Nat.le_trans h.size hg.size, fun k hk hx =>
    (hg.block k (Nat.lt_of_lt_of_le hk h.size) (fun e => by rcases hr k e.symm with h1 | h1; exact hx h1; omega)).trans (h.block k hk hx)⟩
theorem Turned.below {X : List Nat} {a b : World} {B : Nat} (h : Turned X a b) (hX : ∀ k ∈ X, B ≤ k) (hB : B ≤ a.heap.size) : Below B a b :=
  ⟨h.os, h.tape, h.output, h.size, fun k hk => h.block k (by omega) (fun hx => by have := hX k hx; omega)⟩
theorem Turned.same {X : List Nat} {a b : World} (h : Turned X a b) {k : Nat} {o : Obj} (ho : a.heap[k]? = some o) (hx : k ∉ X) : b.heap[k]? = some o :=
  (h.block k (lt_of_block ho) hx).trans ho

/-- A row stays owned where its block lies as it lay. -/
theorem ownsRow_same {w w' : World} {base : Nat} {e : TypeId} {size : Nat} {v : Value} {n : Nat} {xs : List Value} (h : w.ownsRow base e size v n xs)
    (hs : ∀ k ∈ v.ownBlock.toList, k < w.heap.size → w'.heap[k]? = w.heap[k]?) : w'.ownsRow base e size v n xs := by
  refine ⟨h.1, ?_⟩
  rcases h.2 with h2 | ⟨g, cap, cur, rfl, hb, hg, rest⟩
  · exact .inl h2
  · exact .inr ⟨g, cap, cur, rfl, hb, (hs g (by simp [Value.ownBlock]) (lt_of_block hg)).trans hg, rest⟩
theorem ownsRow_lt {w : World} {base : Nat} {e : TypeId} {size : Nat} {v : Value} {n : Nat} {xs : List Value} (h : w.ownsRow base e size v n xs) : ∀ k ∈ v.ownBlock.toList, k < w.heap.size := by
  intro k hk
  exact (h.lt k (by simpa using hk)).2
/-- The block of a row holds elements of its own type. -/
theorem ownsRow_type {w : World} {base : Nat} {e : TypeId} {size : Nat} {v : Value} {n : Nat} {xs : List Value} (h : w.ownsRow base e size v n xs) : ∀ k ∈ v.ownBlock.toList, ∃ cur, w.heap[k]? = some (.cells cur e (0, 0)) := by
  intro k hk
  rcases h.2 with ⟨rfl, _⟩ | ⟨g, cap, cur, rfl, hb, hg, _⟩
  · simp [Value.ownBlock] at hk
  · simp [Value.ownBlock] at hk
    subst hk
    exact ⟨cur, hg⟩
/-- What a row's value looks like. -/
theorem ownsRow_shape {w : World} {base : Nat} {e : TypeId} {size : Nat} {v : Value} {n : Nat} {xs : List Value} (h : w.ownsRow base e size v n xs) : ∃ a cap, v = .slice a n cap ∧ n ≤ cap ∧ cap ≤ maxLen := by
  rcases h.2 with ⟨rfl, rfl⟩ | ⟨g, cap, cur, rfl, _, _, h1, h2, _⟩
  · exact ⟨none, 0, rfl, Nat.le_refl _, by simp [maxLen]⟩
  · exact ⟨_, cap, rfl, h1, h2⟩
theorem ownsRow_pos {w : World} {base : Nat} {e : TypeId} {size : Nat} {v : Value} {n : Nat} {xs : List Value} (h : w.ownsRow base e size v n xs) (hn : 0 < n) : ∃ g cap, v = .slice (some ⟨g, 0, none⟩) n cap ∧ n ≤ cap ∧ cap ≤ maxLen := by
  rcases h.2 with ⟨rfl, rfl⟩ | ⟨g, cap, cur, rfl, _, _, h1, h2, _⟩
  · omega
  · exact ⟨g, cap, rfl, h1, h2⟩
/-- A row cut at its end is owned still. -/
theorem ownsRow_cut {w : World} {base : Nat} {e : TypeId} {size : Nat} {g n cap : Nat} {xs : List Value} (h : w.ownsRow base e size (.slice (some ⟨g, 0, none⟩) n cap) n xs) {k : Nat} (hk : k ≤ n) :
    w.ownsRow base e size (.slice (some ⟨g, 0, none⟩) k cap) k (xs.take (k * size)) := by
  have hm : k * size ≤ n * size := Nat.mul_le_mul_right _ hk
  refine ⟨by rw [List.length_take, h.1]; omega, ?_⟩
  rcases h.2 with ⟨h', _⟩ | ⟨g', cap', cur, h', hb, hg, h1, h2, h3, h4⟩
  · simp at h'
  · simp only [Value.slice.injEq, Option.some.injEq, Addr.mk.injEq, and_true, true_and] at h'
    obtain ⟨rfl, rfl⟩ := h'
    exact .inr ⟨g, cap, cur, rfl, hb, hg, by omega, h2, h3, by rw [← h4, List.take_take, Nat.min_eq_left hm]⟩
end Go.Proofs.YtmcfjlkjijaflaaDoor

/- append onto a row of one's own: where the longer row lies. No program. -/
namespace Go.Proofs.YtmcfjlkjijaflaaDoor
open Go.RowKit

theorem ownsRow_base {w : World} {base base' : Nat} {e : TypeId} {size : Nat} {v : Value} {n : Nat} {xs : List Value} (h : w.ownsRow base e size v n xs) (hb : base' ≤ base) : w.ownsRow base' e size v n xs := by
  refine ⟨h.1, ?_⟩
  rcases h.2 with h2 | ⟨g, cap, cur, rfl, h1, h2⟩
  · exact .inl h2
  · exact .inr ⟨g, cap, cur, rfl, by omega, h2⟩

/-- 'append(v, news..)', v a row of one's own, something appended: THE LONGER ROW LIES WHERE v LAY, OR IN A NEW BLOCK. -/
theorem wpList_append_at {P : Program} (w : World) {ops : Array Oper} {rest : List Oper} {o : Oper} {a : Act} {Q : Exit → Act → World → Prop} (hgd : o.guard = none) (s x : Operand) (t : TypeId)
    (ho : o.op = .call { callee := .builtin .append, args := #[s, x], argTypes := #[t, t] })
    (e : TypeId) (i : TypeInfo) (z : Value) (size bytes : Nat) (ht : P.underlying t = some (.slice e)) (hi : P.info? e = some i) (hz : i.zero = some z)
    (hsize : i.size = size) (hby : i.bytes = bytes) (hzs : z.cells.size = size) (hsz : 0 < size)
    (v : Value) (n : Nat) (xs : List Value) (hs : a.eval s = v) (hown : w.ownsRow 0 e size v n xs)
    (ad : Addr) (m c : Nat) (news : List Value) (hx : a.eval x = .slice (some ad) m c) (hm : 0 < m) (hl : news.length = m * size) (hnews : ∀ j u, news[j]? = some u → w.cell? (ad.add j) = some u) (h1 : ∀ u ∈ news, u.oneCell' = true)
    (h63 : n + m ≤ maxLen) (hbytes : (n + m) * bytes ≤ 140737488355328)
    (h : ∀ g cap' w', w'.ownsRow 0 e size (.slice (some ⟨g, 0, none⟩) (n + m) cap') (n + m) (xs ++ news) → w.grownBy w' v.ownBlock → (v.ownBlock = some g ∨ w.heap.size ≤ g) → n + m ≤ cap' → cap' ≤ maxLen →
      wpList P ops Q rest (a.put o.dst (.slice (some ⟨g, 0, none⟩) (n + m) cap')) w') : wpList P ops Q (o :: rest) a w := by
  have fresh : ∀ {v' : Value} {w' : World} {row : Option Nat}, w'.ownsRow w.heap.size e size v' (n + m) (xs ++ news) → w.grownBy w' row → (∀ k, row = some k → v.ownBlock = some k) → wpList P ops Q rest (a.put o.dst v') w' := by
    intro v' w' row r1 r2 r3
    obtain ⟨g, cap', rfl, hc1, hc2⟩ := ownsRow_pos r1 (by omega)
    refine h g cap' w' (ownsRow_base r1 (Nat.zero_le _)) ⟨r2.os, r2.tape, r2.output, r2.size, fun k hk hne => r2.block k hk (fun e => hne (r3 k e.symm).symm)⟩ (.inr ((r1.lt g (by simp [Value.ownBlock])).1)) hc1 hc2
  rcases hown.2 with ⟨hv, hn⟩ | ⟨g, cap, cur, hv, hb, hg, hnc, hcm, hcs, htake⟩
  · subst hv hn
    obtain rfl : xs = [] := List.eq_nil_of_length_eq_zero (by simpa using hown.1)
    refine wpList_append_own w hgd s x t ho w.heap.size e i z size bytes ht hi hz hsize hby hzs hsz (.slice none 0 0) 0 [] hs (World.ownsRow_nil _ _ _ _) ad m c news hx hl hnews h1 h63 hbytes (Nat.le_refl _) ?_
    intro v' w' r1 r2 _
    exact fresh r1 r2 (fun k hk => by simp [Value.ownBlock] at hk)
  · subst hv
    by_cases hroom : n + m ≤ cap
    · refine wpList_append_fits w hgd s x t ho 0 e i size ht hi hsize g n cap xs hs hown ad m c news hx hl hnews h1 hroom ?_
      intro w' r1 r2
      exact h g cap w' r1 r2 (.inl rfl) hroom hcm
    · refine wpList_append_grows w hgd s x t ho e i z size bytes ht hi hz hsize hby hzs hsz (some ⟨g, 0, none⟩) n cap xs hs (fun h => by cases h) hown.1 (fun b hb' => ?_) ad m c news hx hl hnews h1 (by omega) h63 hbytes ?_
      · cases hb'
        exact hown.cells (g := g) rfl
      · intro v' w' r1 r2
        exact fresh r1 r2 (fun k hk => by cases hk)

theorem block_off {w : World} {b : Nat} {cs : Array Value} {t e : TypeId} {base size n : Nat} {v : Value} {xs : List Value} (hb : w.heap[b]? = some (.cells cs t (0, 0))) (hr : w.ownsRow base e size v n xs) (hne : t ≠ e) : some b ≠ v.ownBlock := by
  intro h
  obtain ⟨cur, hc⟩ := ownsRow_type hr b (by simp [← h])
  rw [hb] at hc
  simp at hc
  exact hne hc.2
theorem rows_off {w : World} {t e : TypeId} {base base' size size' n n' : Nat} {v v' : Value} {xs xs' : List Value} (hr : w.ownsRow base t size v n xs) (hr' : w.ownsRow base' e size' v' n' xs') (hne : t ≠ e) : v.ownBlock = none ∨ v.ownBlock ≠ v'.ownBlock := by
  cases hv : v.ownBlock with
  | none => exact .inl rfl
  | some g =>
    right
    intro h
    obtain ⟨cur, hc⟩ := ownsRow_type hr g (by simp [hv])
    obtain ⟨cur', hc'⟩ := ownsRow_type hr' g (by simp [← h])
    rw [hc] at hc'
    simp at hc'
    exact hne hc'.2

end Go.Proofs.YtmcfjlkjijaflaaDoor

/- What a round of a loop over a function may turn. No program. -/
namespace Go.Proofs.YtmcfjlkjijaflaaDoor
open Go.RowKit

/-- Below n₀ the world is as it was, but for the blocks of X. -/
structure Kept (X : List Nat) (n₀ : Nat) (w w' : World) : Prop where
  os : w'.os = w.os
  tape : w'.tape = w.tape
  output : w'.output = w.output
  size : w.heap.size ≤ w'.heap.size
  block : ∀ k, k < n₀ → k ∉ X → w'.heap[k]? = w.heap[k]?
theorem Kept.refl (X : List Nat) (n₀ : Nat) (w : World) : Kept X n₀ w w := ⟨rfl, rfl, rfl, Nat.le_refl _, fun _ _ _ => rfl⟩
theorem Kept.trans {X : List Nat} {n₀ : Nat} {a b c : World} (h : Kept X n₀ a b) (g : Kept X n₀ b c) : Kept X n₀ a c :=
  ⟨g.os.trans h.os, g.tape.trans h.tape, g.output.trans h.output, Nat.le_trans h.size g.size, fun k hk hx => (g.block k hk hx).trans (h.block k hk hx)⟩
theorem Kept.drewN {X : List Nat} {n₀ : Nat} {a b : World} (h : Kept X n₀ a b) (n : Nat) : Kept X n₀ a (b.drewN n) := ⟨h.os, h.tape, h.output, h.size, h.block⟩
theorem Kept.alloc {X : List Nat} {n₀ : Nat} {a b : World} (h : Kept X n₀ a b) (hn : n₀ ≤ b.heap.size) (o : Obj) : Kept X n₀ a (b.alloc o) :=
  ⟨h.os, h.tape, h.output, Nat.le_trans h.size (by simp), fun k hk hx => (Below.heap_alloc b o k (by omega)).trans (h.block k hk hx)⟩
theorem Kept.setCell {X : List Nat} {n₀ : Nat} {a b : World} (h : Kept X n₀ a b) {p : Addr} (hp : p.block ∈ X ∨ n₀ ≤ p.block) (u : Value) : Kept X n₀ a (b.setCell p u) :=
  ⟨h.os, h.tape, h.output, Nat.le_trans h.size (by simp [World.setCell]), fun k hk hx =>
    (Below.heap_setCell b p u k (fun e => by subst e; rcases hp with h1 | h1; exact hx h1; omega)).trans (h.block k hk hx)⟩
theorem Kept.of_below {X : List Nat} {n₀ : Nat} {a b : World} (h : Below n₀ a b) : Kept X n₀ a b := ⟨h.os, h.tape, h.output, h.size, fun k hk _ => h.block k hk⟩
theorem Kept.of_turned {X : List Nat} {n₀ : Nat} {a b : World} (h : Turned X a b) (hn : n₀ ≤ a.heap.size) : Kept X n₀ a b := ⟨h.os, h.tape, h.output, h.size, fun k hk hx => h.block k (by omega) hx⟩
theorem Kept.turned {X : List Nat} {n₀ : Nat} {a b : World} (h : Kept X n₀ a b) (hn : a.heap.size ≤ n₀) : Turned X a b := ⟨h.os, h.tape, h.output, h.size, fun k hk hx => h.block k (by omega) hx⟩
theorem keptK_t {X : List Nat} {n₀ : Nat} {A B C : World} (h : Kept X n₀ A B) (k : Kept X n₀ B C) : Kept X n₀ A C := h.trans k
theorem keptK_b {X : List Nat} {n₀ : Nat} {w : World} (hn : n₀ ≤ w.heap.size) (W : World) (l : Nat) (o o' : Obj) (hl : w.heap.size ≤ l) (h : W.heap[l]? = some o) (h1 : o.isCells = false) (h2 : o.isWalk = false) : Kept X n₀ W (W.putObj l o') :=
  Kept.of_below (belowK_b hn W l o o' hl h h1 h2)
theorem Kept.row {X : List Nat} {n₀ : Nat} {a b : World} (h : Kept X n₀ a b) {base : Nat} {e : TypeId} {size : Nat} {v : Value} {n : Nat} {xs : List Value} (hr : a.ownsRow base e size v n xs) (hk : ∀ k ∈ v.ownBlock.toList, k < n₀ ∧ k ∉ X) : b.ownsRow base e size v n xs :=
  ownsRow_same hr fun k hv _ => h.block k (hk k hv).1 (hk k hv).2
theorem Kept.at {X : List Nat} {n₀ : Nat} {a b : World} (h : Kept X n₀ a b) {k : Nat} {o : Obj} (ho : a.heap[k]? = some o) (hk : k < n₀) (hx : k ∉ X) : b.heap[k]? = some o := (h.block k hk hx).trans ho

/-- What speaks of cells' blocks alone abides the turn of a block that is no cells. -/
theorem block_abides {W W' : World} {row : Option Nat} {k : Nat} {cs : Array Value} {t : TypeId} {f : Nat × Nat} (h : W.heap[k]? = some (.cells cs t f)) (hg : W.grownBy W' row) (hr : ∀ r, row = some r → ∃ o : Obj, W.heap[r]? = some o ∧ o.isCells = false) : W'.heap[k]? = some (.cells cs t f) := by
  refine (hg.block k (lt_of_block h) (fun e => ?_)).trans h
  obtain ⟨o, ho, hc⟩ := hr k e.symm
  rw [h] at ho
  cases ho
  cases hc
theorem row_abides {W W' : World} {row : Option Nat} {base : Nat} {e : TypeId} {size : Nat} {v : Value} {n : Nat} {xs : List Value} (h : W.ownsRow base e size v n xs) (hg : W.grownBy W' row) (hr : ∀ r, row = some r → ∃ o : Obj, W.heap[r]? = some o ∧ o.isCells = false) : W'.ownsRow base e size v n xs := by
  refine ownsRow_same h fun k hk _ => ?_
  obtain ⟨cur, hc⟩ := ownsRow_type h k hk
  rw [hc]
  exact block_abides hc hg hr
end Go.Proofs.YtmcfjlkjijaflaaDoor

/- Inside a round of a loop over a function: a region that draws its order, walked as outside of it. No program. -/
namespace Go.Proofs.YtmcfjlkjijaflaaDoor
open Go

def noDefer (l : List Oper) : Bool := l.all fun o => match o.op with | .defer _ => false | _ => true

theorem noDefer_spec {ops : Array Oper} (h : noDefer ops.toList = true) {i : Nat} {o : Oper} (hi : ops[i]? = some o) : ∀ c, o.op ≠ .defer c := by
  intro c hc
  have h1 := List.all_eq_true.1 h o (by rw [← Array.getElem?_toList] at hi; exact List.mem_of_getElem? hi)
  rw [hc] at h1
  simp at h1

theorem Oper.wpIn_of_wp {P : Program} {o : Oper} {a : Act} {w : World} {K K' : Act → World → Prop} {Q : Exit → Act → World → Prop} {l n : Nat} (hnd : ∀ c, o.op ≠ .defer c) (hK : ∀ a w, K a w → K' a w)
    (h : o.wp P a w K Q) : o.wpIn (Fence.wide.inRound l) n P a w K' Q := by
  unfold Oper.wp at h
  unfold Oper.wpIn
  refine ⟨fun _ _ => trivial, ?_⟩
  rw [Oper.semAt_eq _ _ _ hnd]
  generalize (execOp a.eval o).run P w = r at *
  cases r with
  | ok x w' =>
    cases x <;> simp only [Oper.upon] at h <;> simp only [Oper.uponIn]
    case value v => exact hK _ _ h
    case skip => exact hK _ _ h
    case defer d => exact hK _ _ h
    case enter f args =>
      refine ⟨fun e => by simp [Fence.wide] at e, CallsIn.inRound l (callsIn_wide.2 (h.mono ?_))⟩
      intro e w'' he
      cases e with
      | returned v => exact hK _ _ he
      | panicked c => exact he
      | outgrown => exact he
    case row row args =>
      refine ⟨fun e => by simp [Fence.wide] at e, ?_⟩
      have hr : RowsIn Fence.wide (n - 1) P row args w' (fun v w'' => K' (a.put o.dst v) w'') := fun c cs _ => let ⟨v, w'', r, s⟩ := h c cs; ⟨v, w'', hK _ _ r, stepsIn_wide.2 s⟩
      exact hr
  | halt x w' =>
    cases x <;> simp only [Oper.upon] at h <;> simp only [Oper.uponIn]
    exact h

section
variable {P : Program} {ops : Array Oper} {md : Region.Mode} {Q : Exit → Act → World → Prop} {r n : Nat}
theorem wpOpIn_of_wpOp (hnd : noDefer ops.toList = true) (hQ : ¬ LetsOut Q) {i : Nat} {K K' : Act → World → Prop} {a : Act} {w : World} (hK : ∀ a w, K a w → K' a w) (h : wpOp P ops Q i K a w) :
    wpOpIn (Fence.wide.inRound r) n P ops Q i K' a w := by
  unfold wpOp at h
  unfold wpOpIn
  cases ho : ops[i]? with
  | none => simp only [ho] at h ⊢; exact hK _ _ h
  | some o =>
    simp only [ho] at h ⊢
    by_cases hw : Region.wanted o (yielded ops a.tmps) = true
    · simp only [hw, if_true] at h ⊢
      rcases h with h | h
      · exact Oper.wpIn_of_wp (noDefer_spec hnd ho) hK h
      · exact absurd h.2 hQ
    · simp only [hw] at h ⊢
      exact ⟨fun _ _ => trivial, hK _ _ h⟩
theorem wpAnyIn_of_wpAny (hnd : noDefer ops.toList = true) (hQ : ¬ LetsOut Q) : ∀ (fuel : Nat) (listed : Array Bool) (a : Act) (w : World), wpAny P md ops Q fuel listed a w → wpAnyIn (Fence.wide.inRound r) n P md ops Q fuel listed a w
  | 0, _, _, _, h => h
  | fuel + 1, _, _, _, h => ⟨h.1, fun i hi => wpOpIn_of_wpOp hnd hQ (fun a' w' h' => wpAnyIn_of_wpAny hnd hQ fuel _ a' w' h') (h.2 i hi)⟩
end

/-- A REGION THAT DRAWS ITS ORDER AND ONLY READS, IN A ROUND. -/
theorem wpRound_quiet {P : Program} {id r n : Nat} {Q : Exit → Act → World → Prop} {a : Act} {w : World} {l : List Oper} (hnd : noDefer l = true) (hQ : ¬ LetsOut Q) (hm : P.follows .mixedOrders = true) (hB : Region.lexB .any l.toArray = true)
    (h : wpQuiet P l.toArray (fun w' => ∃ n, w' = w.drewN n) (fun a' => ∀ w', (∃ n, w' = w.drewN n) → Q .normal a' w') l a) : (Code.region id l.toArray true).wpIn (Fence.wide.inRound r) n P Q a w := by
  simp only [Region.lexB, Bool.and_eq_true] at hB
  refine wpIn_region_any hm (wpAnyIn_of_wpAny (by simpa using hnd) hQ _ _ _ _ ?_)
  refine wpAny_of_quiet (C := fun w' => ∃ n, w' = w.drewN n) (Q := fun a' => ∀ w', (∃ n, w' = w.drewN n) → Q .normal a' w') (fun _ w' hw' h => h w' hw') _ _ _ _ ⟨1, rfl⟩ ?_
  have := wpAnyQ_lex (C := fun w' => ∃ n, w' = w.drewN n) (md := .any) hB.1 l 0 (Array.replicate l.toArray.size false) a (by simp) (by simpa using hB.2) h
  simpa using this

/-- A lexical walk in one world alone is a still one. -/
theorem wpStill_of_quiet {P : Program} {ops : Array Oper} {W : World} {Q : Act → Prop} : ∀ (l : List Oper) (a : Act), wpQuiet P ops (fun w' => w' = W) Q l a → wpStill P ops W Q l a
  | [], _, h => h
  | o :: l, a, h => by
    unfold wpQuiet at h
    unfold wpStill
    by_cases hw : Region.wanted o (yielded ops a.tmps) = true
    · simp only [hw, if_true] at h ⊢
      obtain ⟨v, h1, h2⟩ := h
      have h3 := h1 W rfl
      have h4 := wpStill_of_quiet l _ h2
      unfold Oper.quietAt at h3
      unfold Oper.still
      generalize (execOp a.eval o).run P W = r at *
      cases r with
      | ok x w' =>
        cases x <;> simp only [Oper.quietUpon] at h3 <;> simp only [Oper.stillUpon]
        case value u =>
          obtain ⟨rfl, rfl⟩ := h3
          exact ⟨rfl, h4⟩
        case skip =>
          obtain ⟨rfl, rfl⟩ := h3
          exact ⟨rfl, h4⟩
        case enter f args =>
          obtain ⟨rfl, hc⟩ := h3
          exact ⟨rfl, v, hc, h4⟩
      | halt x w' => simp only [Oper.quietUpon] at h3
    · simp only [hw] at h ⊢
      exact wpStill_of_quiet l _ h

/-- .. AND READS AHEAD OF ONE STORE. -/
theorem wpRound_tail {P : Program} {id r q : Nat} {Q : Exit → Act → World → Prop} {a : Act} {w : World} {l : List Oper} (n : Nat) (hnd : noDefer l = true) (hQ : ¬ LetsOut Q) (hm : P.follows .mixedOrders = true) (hB : Region.lexTailB .any l.toArray n = true)
    (h0 : wpQuiet P l.toArray (fun w' => w' = w.drew) (fun a' => wpList P l.toArray Q (l.drop n) a' w.drew) (l.take n) a) : (Code.region id l.toArray true).wpIn (Fence.wide.inRound r) q P Q a w := by
  simp only [Region.lexTailB, Bool.and_eq_true, decide_eq_true_eq] at hB
  obtain ⟨⟨⟨⟨hsel, hn⟩, hs⟩, hc⟩, hlex⟩ := hB
  have h := wpStill_of_quiet _ _ h0
  have hn' : n < l.length := by simpa using hn
  have htl : (l.take n).length = n := by simp; omega
  have hdl : (l.drop n).length = l.toArray.size - n := by simp
  have inv : HeadInv .any l.toArray n (Array.replicate l.toArray.size false) :=
    ⟨by simp, fun j oj _ hl => (by rw [getD_replicate_false] at hl; cases hl), fun t _ ht => getD_in (by simpa using ht) (getD_replicate_false _ _)⟩
  have H := wpAnyL_lex (md := .any) (g := l.toArray.size - n) hsel hs hc hn (l.take n) 0 _ a (fun j hj => by
      have hj' : j < n := by rw [htl] at hj; exact hj
      simp [hj']) (by simpa using htl) inv (by rw [htl]; exact hlex) h
  refine wpIn_region_any hm (wpAnyIn_of_wpAny (by simpa using hnd) hQ _ _ _ _ ?_)
  have G := wpAny_of_head (Q' := Q) (g := l.toArray.size - n) (fun listed a' hL => by
    have := wpAny_of_seq (md := .any) (Q' := Q) (l.drop n) n listed a' w.drew (fun j => by simp [List.getElem?_drop]) (by rw [hdl]; exact hL.1) hL.2
    rwa [hdl] at this) _ _ _ H
  rw [htl, show n + (l.toArray.size - n) = l.toArray.size by omega] at G
  exact G
end Go.Proofs.YtmcfjlkjijaflaaDoor

/- A loop over a function that turns memory of its own between two rounds (a heap that is popped): its contract, and the caller's law. No program. -/
namespace Go.Proofs.YtmcfjlkjijaflaaDoor
open Go.RowKit

/-- The blocks of X lie as they lay. -/
def SameAt (X : List Nat) (W W' : World) : Prop := ∀ k ∈ X, W'.heap[k]? = W.heap[k]?
theorem SameAt.refl (X : List Nat) (W : World) : SameAt X W W := fun _ _ => rfl
theorem SameAt.trans {X : List Nat} {A B C : World} (h : SameAt X A B) (g : SameAt X B C) : SameAt X A C := fun k hk => (g k hk).trans (h k hk)
theorem SameAt.of_turned {X Y : List Nat} {A B : World} (h : Turned Y A B) (hx : ∀ k ∈ X, k < A.heap.size ∧ k ∉ Y) : SameAt X A B := fun k hk => h.block k (hx k hk).1 (hx k hk).2
/-- What is told of may turn: the blocks of X, and from B on what is no cells. -/
structure Mild (X : List Nat) (B : Nat) (W W' : World) : Prop where
  os : W'.os = W.os
  tape : W'.tape = W.tape
  output : W'.output = W.output
  size : W.heap.size ≤ W'.heap.size
  same : ∀ (k : Nat) (o : Obj), W.heap[k]? = some o → k ∉ X → k < B ∨ o.isCells = true → W'.heap[k]? = some o
theorem Mild.of_turned {X : List Nat} {B : Nat} {W W' : World} (h : Turned X W W') : Mild X B W W' :=
  ⟨h.os, h.tape, h.output, h.size, fun _ _ ho hx _ => h.same ho hx⟩
theorem Mild.of_put {X : List Nat} {B l : Nat} {W : World} {o : Obj} (hl : W.heap[l]? = some o) (ho : o.isCells = false) (hB : B ≤ l) (o' : Obj) : Mild X B W (W.putObj l o') :=
  ⟨rfl, rfl, rfl, by simp, fun k u hu _ hk => by
    have hne : k ≠ l := by
      rintro rfl
      rw [hl] at hu
      cases hu
      rcases hk with h | h
      · omega
      · rw [ho] at h
        cases h
    exact (World.putObj_heap_other hne).trans hu⟩

/-- How a round may be left: the loops' own records and the iterator's blocks lie as they lay. -/
def leftPost {α : Type} (B : Nat) (Y : List Nat) (I : List α → World → Prop) (Ix : Code → List α → World → Prop) (xs : List α) (W : World) : Exit → Act → World → Prop
  | .normal, _, W' => KeepsFrom B W W' ∧ SameAt Y W W' ∧ I xs W'
  | .ret, _, W' => KeepsFrom B W W' ∧ SameAt Y W W' ∧ Ix .ret xs W'
  | .exit id, _, W' => KeepsFrom B W W' ∧ SameAt Y W W' ∧ Ix (.exit id) xs W'
  | .goto t, _, W' => KeepsFrom B W W' ∧ SameAt Y W W' ∧ Ix (.goto t) xs W'
  | .panic _, _, _ => False
  | .outgrown, _, _ => False

/-- The contract: X: what the iterator turns; Y: what it leans on; Sp: what may have come; S: behind the last one; Sx: behind a round that was left. -/
def TurnSeq {α : Type} (F : Fence) (n : Nat) (P : Program) (g : Nat) (lb : Array Value) (encs : α → Array Value) (X Y : List Nat) (Sp : List α → Prop) (S Sx : List α → World → Prop) (w : World) : Prop :=
  ∀ (l : Nat) (J Jx : List α → World → Prop) (W : World), Turned [] w W → (∀ xs A B, J xs A → Turned X A B → J xs B) →
    (∀ pre x A, J pre A → Sp (pre ++ [x]) → YieldAt F (n - 1) P l (encs x) A fun e B =>
      SameAt Y A B ∧ A.heap.size ≤ B.heap.size ∧ ((e = .returned (.bool true) ∧ J (pre ++ [x]) B) ∨ (e = .returned (.bool false) ∧ Jx (pre ++ [x]) B))) →
    J [] W →
    CallsIn F n P g (#[.func (.yield l) #[] #[]] ++ lb) W fun e W' => (∃ v, e = .returned v) ∧ ((∃ xs, S xs W' ∧ J xs W') ∨ (∃ xs, Sx xs W' ∧ Jx xs W'))

variable {F : Fence} {n : Nat} {P : Program}
theorem range_turns {α : Type} {g : Operand} {ps : Array Tmp} {assign body : Code} {Q : Exit → Act → World → Prop} {a : Act} {w : World}
    (hro : F.round = none) (h1 : 1 ≤ n) {gf : Nat} {lb : Array Value} (hg : a.eval g = .func (.func gf) #[] lb) (hFg : F.fn gf) (eg : ∀ args w, (callFunc gf args).run P w = .ok (.enter gf args) w)
    {encs : α → Array Value} {X Y : List Nat} {Sp : List α → Prop} {S Sx : List α → World → Prop} (hX : ∀ k ∈ X, k < w.heap.size) (hY : ∀ k ∈ Y, k < w.heap.size)
    (hseq : TurnSeq F (n - 1) P gf lb encs X Y Sp S Sx w) (hps : ∀ x, (encs x).size = ps.size)
    (hS : ∀ xs A B, S xs A → SameAt Y A B → S xs B) (hSx : ∀ xs A B, Sx xs A → SameAt Y A B → Sx xs B)
    (I : List α → World → Prop) (Ix : Code → List α → World → Prop) (hI : ∀ xs A B, I xs A → Mild X w.heap.size A B → I xs B) (hIx : ∀ c xs A B, Ix c xs A → Mild [] w.heap.size A B → Ix c xs B) (h0 : I [] w)
    (Ax : α → Act → World → Prop) (hAx : ∀ x a' A B, Ax x a' A → Mild [] w.heap.size A B → Ax x a' B)
    (hassign : ∀ (l : Nat) (pre : List α) (x : α) (W : World) (K : Act → World → Prop), I pre W → (∀ a' W', KeepsFrom w.heap.size W W' → SameAt Y W W' → I pre W' → Ax x a' W' → K a' W') →
      assign.wpIn (F.inRound l) (n - 1 - 1) P (Exit.then K (fun _ _ _ => False)) { tmps := (ps.zip (encs x)).foldl (fun t (p, v) => t.setIfInBounds p v) a.tmps, defers := [] } W)
    (hbody : ∀ (l : Nat) (pre : List α) (x : α) (a' : Act) (W : World), I pre W → Ax x a' W → Sp (pre ++ [x]) → body.wpIn (F.inRound l) (n - 1 - 1) P (leftPost w.heap.size Y I Ix (pre ++ [x]) W) a' W)
    (hdone : ∀ (D : Nat) (xs : List α) (W : World), w.heap.size ≤ D → S xs W → I xs W → W.heap[D]? = some (.deferred (some [])) → Q .normal { a with defers := { target := .collected D, args := #[] } :: a.defers } W)
    (hstop : ∀ (D : Nat) (c : Code) (xs : List α) (W : World), w.heap.size ≤ D → Sx xs W → Ix c xs W → W.heap[D]? = some (.deferred (some [])) → c.wpIn F n P Q { a with defers := { target := .collected D, args := #[] } :: a.defers } W) :
    (Code.rangeFunc g ps assign body).wpIn F n P Q a w := by
  refine wpIn_rangeFunc fun fn hfn => ?_
  rw [hro]
  obtain ⟨N, hN⟩ : ∃ N, w.heap.size = N := ⟨_, rfl⟩
  -- the loop's record, in each of its states
  obtain ⟨R, hR⟩ : ∃ R : LoopState → Option Code → Loop, ∀ st pe, R st pe = { state := st, pending := pe, fn, tmps := a.tmps, params := ps, assign, body, defers := N } := ⟨_, fun _ _ => rfl⟩
  obtain ⟨W0, hW0⟩ : ∃ W0, (w.alloc (.deferred (some []))).alloc (.loop (R .ready none)) = W0 := ⟨_, rfl⟩
  have two : Turned [] w W0 := hW0 ▸ ((Turned.refl [] w).alloc _).alloc _
  have recL : W0.heap[N + 1]? = some (.loop (R .ready none)) := by
    have h := World.alloc_heap_new (w.alloc (.deferred (some []))) (.loop (R .ready none))
    rw [World.size_alloc, hN] at h
    rw [← hW0]
    exact h
  have recD : W0.heap[N]? = some (.deferred (some [])) := by
    have h := World.alloc_heap_new w (.deferred (some []))
    rw [hN] at h
    rw [← hW0]
    exact (Below.heap_alloc _ _ _ (by simp; omega)).trans h
  rw [hN] at hI hIx hAx hassign hbody hdone hstop hX hY
  have offX : ∀ k, N ≤ k → k ∉ X := fun k hk hx => by have := hX k hx; omega
  have offY : ∀ k ∈ Y, k ≠ N + 1 := fun k hk e => by have := hY k hk; omega
  -- what a turn of the record leaves
  have turnY : ∀ (W : World) (o : Obj), SameAt Y W (W.putObj (N + 1) o) := fun W o k hk => World.putObj_heap_other (offY k hk)
  have done : ∀ (jump : Option Code) (W : World) (st : LoopState), W.heap[N + 1]? = some (.loop (R st none)) → W.heap[N]? = some (.deferred (some [])) → ∀ st', (W.putObj (N + 1) (.loop (R st' jump))).heap[N + 1]? = some (.loop (R st' jump)) ∧ (W.putObj (N + 1) (.loop (R st' jump))).heap[N]? = some (.deferred (some [])) :=
    fun jump W st hl hd st' => ⟨World.putObj_heap_same (Array.getElem?_eq_some_iff.1 hl).1, (World.putObj_heap_other (by omega)).trans hd⟩
  refine ⟨N + 1, [{ target := .collected N, args := #[] }], W0, { target := .fn (.func gf) lb, args := #[.func (.yield (N + 1)) #[] #[]] }, W0, gf, #[.func (.yield (N + 1)) #[] #[]] ++ lb, W0, ?_, ?_, ?_, ?_, fun _ => h1, ?_⟩
  · rw [← hW0, hR, ← hN]
    exact run_enterLoop_outer _ _ _ _ _
  · simp only [resolve, hg]
    simp [go_sem]
  · intro f' hf'
    simp [Target.leads] at hf'
    subst hf'
    exact hFg
  · simp [invoke, go_sem, eg]
  refine (hseq (N + 1) (fun xs W => (I xs W ∧ W.heap[N + 1]? = some (.loop (R .ready none))) ∧ W.heap[N]? = some (.deferred (some [])))
    (fun xs W => ∃ c, (Ix c xs W ∧ W.heap[N + 1]? = some (.loop (R .done (some c)))) ∧ W.heap[N]? = some (.deferred (some []))) W0 two ?_ ?_ ⟨⟨hI _ _ _ h0 (Mild.of_turned (two.mono (fun k hk => by simp at hk))), recL⟩, recD⟩).mono ?_
  · -- the iterator's own steps
    rintro xs A B ⟨⟨hi, hl⟩, hd⟩ ht
    exact ⟨⟨hI _ _ _ hi (Mild.of_turned ht), ht.same hl (offX _ (by omega))⟩, ht.same hd (offX _ (Nat.le_refl _))⟩
  · -- a round
    rintro pre x A ⟨⟨hi, hl⟩, hd⟩ hsp
    have hy := run_yield (P := P) (args := encs x) hl (by rw [hR]; exact hps x)
    rw [hR] at hy
    refine ⟨fn, _, assign, body, hy, roundIn_of_wpIn hfn (hassign _ pre x A _ hi ?_)⟩
    intro a' B hka hya hia hax
    have hlB := hka.same _ _ (by omega) hl rfl
    have hdB := hka.same _ _ (Nat.le_refl _) hd rfl
    refine ⟨_, run_beginRound hlB (by rw [hR]), ?_⟩
    have hbusy : ({ R .ready none with state := .busy } : Loop) = R .busy none := by rw [hR, hR]
    rw [hbusy]
    obtain ⟨hlC, hdC⟩ := done none B .ready hlB hdB .busy
    have mB : ∀ Z, Mild Z N B (B.putObj (N + 1) (.loop (R .busy none))) := fun Z => Mild.of_put hlB rfl (by omega) _
    refine wpIn_mono (hbody _ pre x a' _ (hI _ _ _ hia (mB X)) (hAx _ _ _ _ hax (mB [])) hsp) ?_
    have fin : ∀ (jump : Option Code) (C : World), KeepsFrom N (B.putObj (N + 1) (.loop (R .busy none))) C → SameAt Y (B.putObj (N + 1) (.loop (R .busy none))) C →
        (Instr.endRound (N + 1) jump).run P C = .ok (.bool jump.isNone) (C.putObj (N + 1) (.loop (R (if jump.isNone then .ready else .done) jump))) ∧ C.heap[N + 1]? = some (.loop (R .busy none)) ∧ C.heap[N]? = some (.deferred (some [])) ∧
        SameAt Y A (C.putObj (N + 1) (.loop (R (if jump.isNone then .ready else .done) jump))) ∧ A.heap.size ≤ (C.putObj (N + 1) (.loop (R (if jump.isNone then .ready else .done) jump))).heap.size := by
      intro jump C hk hyc
      have hl3 := hk.same _ _ (by omega) hlC rfl
      have hr := run_endRound (P := P) jump hl3
      rw [hR] at hr
      refine ⟨?_, hl3, hk.same _ _ (Nat.le_refl _) hdC rfl, ((hya.trans (turnY B _)).trans hyc).trans (turnY C _), ?_⟩
      · rw [hR]
        exact hr
      · have h3 := hka.size
        have h4 := hk.size
        simp at h4 ⊢
        omega
    rintro e a3 C hp
    cases e with
    | normal =>
      obtain ⟨hk, hyc, hi3⟩ := hp
      obtain ⟨hr, hl3, hd3, hyy, hsz⟩ := fin none C hk hyc
      obtain ⟨e1, e2⟩ := done none C .busy hl3 hd3 .ready
      exact ⟨_, _, hr, hyy, hsz, .inl ⟨rfl, ⟨hI _ _ _ hi3 (Mild.of_put hl3 rfl (by omega) _), e1⟩, e2⟩⟩
    | ret =>
      obtain ⟨hk, hyc, hi3⟩ := hp
      obtain ⟨hr, hl3, hd3, hyy, hsz⟩ := fin (some .ret) C hk hyc
      obtain ⟨e1, e2⟩ := done (some .ret) C .busy hl3 hd3 .done
      exact ⟨_, _, hr, hyy, hsz, .inr ⟨rfl, .ret, ⟨hIx _ _ _ _ hi3 (Mild.of_put hl3 rfl (by omega) _), e1⟩, e2⟩⟩
    | exit id =>
      obtain ⟨hk, hyc, hi3⟩ := hp
      obtain ⟨hr, hl3, hd3, hyy, hsz⟩ := fin (some (.exit id)) C hk hyc
      obtain ⟨e1, e2⟩ := done (some (.exit id)) C .busy hl3 hd3 .done
      exact ⟨_, _, hr, hyy, hsz, .inr ⟨rfl, .exit id, ⟨hIx _ _ _ _ hi3 (Mild.of_put hl3 rfl (by omega) _), e1⟩, e2⟩⟩
    | goto t =>
      obtain ⟨hk, hyc, hi3⟩ := hp
      obtain ⟨hr, hl3, hd3, hyy, hsz⟩ := fin (some (.goto t)) C hk hyc
      obtain ⟨e1, e2⟩ := done (some (.goto t)) C .busy hl3 hd3 .done
      exact ⟨_, _, hr, hyy, hsz, .inr ⟨rfl, .goto t, ⟨hIx _ _ _ _ hi3 (Mild.of_put hl3 rfl (by omega) _), e1⟩, e2⟩⟩
    | panic ch => exact hp.elim
    | outgrown => exact hp.elim
  · -- behind it
    rintro e W2 ⟨⟨v, rfl⟩, ⟨xs, hs, ⟨hi, hl⟩, hd⟩ | ⟨xs, hs, c, ⟨hi, hl⟩, hd⟩⟩
    · have hr := run_endLoop (P := P) hl (by rw [hR]; simp)
      rw [hR] at hr
      exact ⟨none, _, hr, hdone _ xs _ (Nat.le_refl _) (hS _ _ _ hs (turnY W2 _)) (hI _ _ _ hi (Mild.of_put hl rfl (by omega) _)) ((World.putObj_heap_other (by omega)).trans hd)⟩
    · have hr := run_endLoop (P := P) hl (by rw [hR]; simp)
      rw [hR] at hr
      exact ⟨some c, _, hr, hstop _ c xs _ (Nat.le_refl _) (hSx _ _ _ hs (turnY W2 _)) (hIx _ _ _ _ hi (Mild.of_put hl rfl (by omega) _)) ((World.putObj_heap_other (by omega)).trans hd)⟩

/-- .. whose first variable is boxed: the assign code lays one block a round. -/
theorem range_turns_boxed {α : Type} {g : Operand} {ps : Array Tmp} {assign body : Code} {Q : Exit → Act → World → Prop} {a : Act} {w : World}
    (hro : F.round = none) (h1 : 1 ≤ n) {gf : Nat} {lb : Array Value} (hg : a.eval g = .func (.func gf) #[] lb) (hFg : F.fn gf) (eg : ∀ args w, (callFunc gf args).run P w = .ok (.enter gf args) w)
    {encs : α → Array Value} {X Y : List Nat} {Sp : List α → Prop} {S Sx : List α → World → Prop} (hX : ∀ k ∈ X, k < w.heap.size) (hY : ∀ k ∈ Y, k < w.heap.size)
    (hseq : TurnSeq F (n - 1) P gf lb encs X Y Sp S Sx w) (hps : ∀ x, (encs x).size = ps.size)
    (hS : ∀ xs A B, S xs A → SameAt Y A B → S xs B) (hSx : ∀ xs A B, Sx xs A → SameAt Y A B → Sx xs B)
    (I : List α → World → Prop) (Ix : Code → List α → World → Prop) (hI : ∀ xs A B, I xs A → Mild X w.heap.size A B → I xs B) (hIx : ∀ c xs A B, Ix c xs A → Mild [] w.heap.size A B → Ix c xs B) (h0 : I [] w)
    (hsz : ∀ xs W, I xs W → w.heap.size ≤ W.heap.size) (t : TypeId) (cs : α → Array Value) (a₁ : α → Nat → Act)
    (hassign : ∀ (l : Nat) (x : α) (Bk : Nat) (W : World) (K : Act → World → Prop), W.heap.size = Bk → K (a₁ x Bk) (W.alloc (.cells (cs x) t)) →
      assign.wpIn (F.inRound l) (n - 1 - 1) P (Exit.then K (fun _ _ _ => False)) { tmps := (ps.zip (encs x)).foldl (fun t (p, v) => t.setIfInBounds p v) a.tmps, defers := [] } W)
    (hbody : ∀ (l : Nat) (pre : List α) (x : α) (Bk : Nat) (W : World), W.heap[Bk]? = some (.cells (cs x) t (0, 0)) → w.heap.size ≤ Bk → I pre W → Sp (pre ++ [x]) → body.wpIn (F.inRound l) (n - 1 - 1) P (leftPost w.heap.size Y I Ix (pre ++ [x]) W) (a₁ x Bk) W)
    (hdone : ∀ (D : Nat) (xs : List α) (W : World), w.heap.size ≤ D → S xs W → I xs W → W.heap[D]? = some (.deferred (some [])) → Q .normal { a with defers := { target := .collected D, args := #[] } :: a.defers } W)
    (hstop : ∀ (D : Nat) (c : Code) (xs : List α) (W : World), w.heap.size ≤ D → Sx xs W → Ix c xs W → W.heap[D]? = some (.deferred (some [])) → c.wpIn F n P Q { a with defers := { target := .collected D, args := #[] } :: a.defers } W) :
    (Code.rangeFunc g ps assign body).wpIn F n P Q a w := by
  refine range_turns hro h1 hg hFg eg hX hY hseq hps hS hSx I Ix hI hIx h0 (fun x a' W => ∃ Bk, W.heap[Bk]? = some (.cells (cs x) t (0, 0)) ∧ w.heap.size ≤ Bk ∧ a' = a₁ x Bk) ?_ ?_ ?_ hdone hstop
  · rintro x a' A B ⟨k, hk, hb, rfl⟩ m
    exact ⟨k, m.same k _ hk (by simp) (.inr rfl), hb, rfl⟩
  · intro l pre x W K hi hK
    have hs := hsz _ _ hi
    exact hassign l x W.heap.size W K rfl (hK _ _ ((KeepsOthers.alloc _ _).from _) (fun k hk => Below.heap_alloc W _ k (by have := hY k hk; omega)) (hI _ _ _ hi (Mild.of_turned (((Turned.refl [] W).alloc _).mono (fun k hk => by simp at hk)))) ⟨W.heap.size, heap_alloc_new W _, hs, rfl⟩)
  · rintro l pre x a' W hi ⟨k, hk, hb, rfl⟩ hsp
    exact hbody l pre x k W hk hb hi hsp

/-- .. whose variables lie in slots: the assign code turns no memory. -/
theorem range_turns_plain {α : Type} {g : Operand} {ps : Array Tmp} {assign body : Code} {Q : Exit → Act → World → Prop} {a : Act} {w : World}
    (hro : F.round = none) (h1 : 1 ≤ n) {gf : Nat} {lb : Array Value} (hg : a.eval g = .func (.func gf) #[] lb) (hFg : F.fn gf) (eg : ∀ args w, (callFunc gf args).run P w = .ok (.enter gf args) w)
    {encs : α → Array Value} {X Y : List Nat} {Sp : List α → Prop} {S Sx : List α → World → Prop} (hX : ∀ k ∈ X, k < w.heap.size) (hY : ∀ k ∈ Y, k < w.heap.size)
    (hseq : TurnSeq F (n - 1) P gf lb encs X Y Sp S Sx w) (hps : ∀ x, (encs x).size = ps.size)
    (hS : ∀ xs A B, S xs A → SameAt Y A B → S xs B) (hSx : ∀ xs A B, Sx xs A → SameAt Y A B → Sx xs B)
    (I : List α → World → Prop) (Ix : Code → List α → World → Prop) (hI : ∀ xs A B, I xs A → Mild X w.heap.size A B → I xs B) (hIx : ∀ c xs A B, Ix c xs A → Mild [] w.heap.size A B → Ix c xs B) (h0 : I [] w)
    (a₁ : α → Act)
    (hassign : ∀ (l : Nat) (x : α) (W : World) (K : Act → World → Prop), K (a₁ x) W →
      assign.wpIn (F.inRound l) (n - 1 - 1) P (Exit.then K (fun _ _ _ => False)) { tmps := (ps.zip (encs x)).foldl (fun t (p, v) => t.setIfInBounds p v) a.tmps, defers := [] } W)
    (hbody : ∀ (l : Nat) (pre : List α) (x : α) (W : World), I pre W → Sp (pre ++ [x]) → body.wpIn (F.inRound l) (n - 1 - 1) P (leftPost w.heap.size Y I Ix (pre ++ [x]) W) (a₁ x) W)
    (hdone : ∀ (D : Nat) (xs : List α) (W : World), w.heap.size ≤ D → S xs W → I xs W → W.heap[D]? = some (.deferred (some [])) → Q .normal { a with defers := { target := .collected D, args := #[] } :: a.defers } W)
    (hstop : ∀ (D : Nat) (c : Code) (xs : List α) (W : World), w.heap.size ≤ D → Sx xs W → Ix c xs W → W.heap[D]? = some (.deferred (some [])) → c.wpIn F n P Q { a with defers := { target := .collected D, args := #[] } :: a.defers } W) :
    (Code.rangeFunc g ps assign body).wpIn F n P Q a w := by
  refine range_turns hro h1 hg hFg eg hX hY hseq hps hS hSx I Ix hI hIx h0 (fun x a' _ => a' = a₁ x) (fun _ _ _ _ h _ => h) ?_ ?_ hdone hstop
  · intro l pre x W K hi hK
    exact hassign l x W K (hK _ _ (KeepsFrom.refl _ _) (SameAt.refl _ _) hi rfl)
  · rintro l pre x a' W hi rfl hsp
    exact hbody l pre x W hi hsp
end Go.Proofs.YtmcfjlkjijaflaaDoor

/- A list of like things, its cells in a row of one's own that a field of a block holds: what appends, removals and stores make of it. No program. -/
namespace Go.Proofs.YtmcfjlkjijaflaaDoor
open Go.RowKit

section
variable {α : Type}
/-- The cells of a list. -/
def cellsOf (enc : α → List Value) (L : List α) : List Value := L.flatMap enc
section
variable {enc : α → List Value} {k : Nat}
theorem cellsOf_len (hk : ∀ x, (enc x).length = k) (L : List α) : (cellsOf enc L).length = L.length * k := by
  induction L with
  | nil => simp [cellsOf]
  | cons s L ih =>
    simp only [cellsOf, List.flatMap_cons, List.length_append, List.length_cons, hk] at ih ⊢
    rw [ih, Nat.add_mul]
    omega
theorem cellsOf_append (L M : List α) : cellsOf enc (L ++ M) = cellsOf enc L ++ cellsOf enc M := by simp [cellsOf]
theorem cellsOf_one (x : α) : cellsOf enc [x] = enc x := by simp [cellsOf]
theorem cellsOf_snoc (L : List α) (x : α) : cellsOf enc (L ++ [x]) = cellsOf enc L ++ enc x := by simp [cellsOf]
theorem cellsOf_take (hk : ∀ x, (enc x).length = k) : ∀ (L : List α) (j : Nat), cellsOf enc (L.take j) = (cellsOf enc L).take (j * k)
  | [], j => by simp [cellsOf]
  | s :: L, 0 => by simp [cellsOf]
  | s :: L, j + 1 => by
    have ih := cellsOf_take hk L j
    have e : (j + 1) * k = (enc s).length + j * k := by rw [hk, Nat.add_mul]; omega
    simp only [cellsOf, List.take_succ_cons, List.flatMap_cons] at ih ⊢
    rw [ih, e, List.take_length_add_append]
theorem cellsOf_drop (hk : ∀ x, (enc x).length = k) : ∀ (L : List α) (j : Nat), cellsOf enc (L.drop j) = (cellsOf enc L).drop (j * k)
  | [], j => by simp [cellsOf]
  | s :: L, 0 => by simp [cellsOf]
  | s :: L, j + 1 => by
    have ih := cellsOf_drop hk L j
    have e : (j + 1) * k = (enc s).length + j * k := by rw [hk, Nat.add_mul]; omega
    simp only [cellsOf, List.drop_succ_cons, List.flatMap_cons] at ih ⊢
    rw [ih, e, List.drop_length_add_append]
theorem cellsOf_get (hk : ∀ x, (enc x).length = k) (L : List α) (j i : Nat) (hj : j < L.length) (hi : i < k) : (cellsOf enc L)[j * k + i]? = (enc L[j])[i]? := by
  have h := cellsOf_drop hk L j
  rw [List.drop_eq_getElem_cons hj] at h
  have h2 : ((cellsOf enc L).drop (j * k))[i]? = (enc L[j])[i]? := by
    rw [← h]
    simp only [cellsOf, List.flatMap_cons]
    rw [List.getElem?_append_left (by rw [hk]; exact hi)]
  rw [← h2, List.getElem?_drop]
/-- A cell stored. -/
theorem cellsOf_set (hk : ∀ x, (enc x).length = k) : ∀ (L : List α) (j i : Nat) (x : α) (u : Value) (hj : j < L.length), i < k → enc x = (enc L[j]).set i u → cellsOf enc (L.set j x) = (cellsOf enc L).set (j * k + i) u
  | s :: L, 0, i, x, u, _, hi, he => by
    simp only [List.getElem_cons_zero] at he
    simp only [cellsOf, List.set_cons_zero, List.flatMap_cons, Nat.zero_mul, Nat.zero_add, he]
    rw [List.set_append_left _ _ (by rw [hk]; exact hi)]
  | s :: L, j + 1, i, x, u, hj, hi, he => by
    have ih := cellsOf_set hk L j i x u (by simpa using hj) hi (by simpa using he)
    have e : (j + 1) * k + i = (enc s).length + (j * k + i) := by rw [hk, Nat.add_mul]; omega
    simp only [cellsOf, List.set_cons_succ, List.flatMap_cons] at ih ⊢
    rw [ih, e, List.set_append_right _ _ (by omega)]
    congr 2
    omega
theorem take_drop_erase (L : List α) (i : Nat) : L.take i ++ L.drop (i + 1) = L.eraseIdx i := (List.eraseIdx_eq_take_drop_succ ..).symm
end

/-- Block b, of type tS, holds the cells 'cs v', v a row of one's own with the cells of L (of type tE, k cells each). X: their blocks. -/
def LAt (tS tE : TypeId) (k : Nat) (enc : α → List Value) (cs : Value → Array Value) (w : World) (b : Nat) (X : List Nat) (L : List α) : Prop :=
  ∃ v, w.heap[b]? = some (.cells (cs v) tS (0, 0)) ∧ w.ownsRow 0 tE k v L.length (cellsOf enc L) ∧ X = b :: v.ownBlock.toList

section
variable {tS tE : TypeId} {k : Nat} {enc : α → List Value} {cs : Value → Array Value} {w w' : World} {b : Nat} {X Y : List Nat} {L : List α}
theorem LAt.keep (h : LAt tS tE k enc cs w b X L) (ht : Turned Y w w') (hd : ∀ k ∈ X, k ∉ Y) : LAt tS tE k enc cs w' b X L := by
  obtain ⟨v, h1, h2, rfl⟩ := h
  exact ⟨v, ht.same h1 (hd _ (by simp)), ownsRow_same h2 (fun k hk hl => ht.block k hl (hd k (List.mem_cons_of_mem _ hk))), rfl⟩
theorem LAt.lt (h : LAt tS tE k enc cs w b X L) : ∀ k ∈ X, k < w.heap.size := by
  obtain ⟨v, h1, h2, rfl⟩ := h
  intro k hk
  rcases List.mem_cons.1 hk with rfl | hk
  · exact lt_of_block h1
  · exact ownsRow_lt h2 k hk
theorem LAt.head (h : LAt tS tE k enc cs w b X L) : b ∈ X := by
  obtain ⟨v, h1, h2, rfl⟩ := h
  simp
theorem LAt.drewN (h : LAt tS tE k enc cs w b X L) (n : Nat) : LAt tS tE k enc cs (w.drewN n) b X L := h

/-- The field is turned to another row: with what went ahead. -/
theorem LAt.stored {w1 : World} {v v' : Value} {i : Nat} {M : List α} (hne : tS ≠ tE) (hcs : (cs v).setIfInBounds i v' = cs v')
    (hb : w1.heap[b]? = some (.cells (cs v) tS (0, 0))) (ho : w1.ownsRow 0 tE k v' M.length (cellsOf enc M)) (hX : b ∈ X) (hT : Turned X w w1) (hN : ∀ g ∈ v'.ownBlock.toList, g ∈ X ∨ w.heap.size ≤ g) :
    LAt tS tE k enc cs (w1.setCell ⟨b, i, none⟩ v') b (b :: v'.ownBlock.toList) M ∧ Turned X w (w1.setCell ⟨b, i, none⟩ v') ∧ Newer X w.heap.size (b :: v'.ownBlock.toList) := by
  refine ⟨⟨v', ?_, ownsRow_setCell_other ho (a := ⟨b, i, none⟩) (fun e => block_off hb ho hne e.symm) _, rfl⟩, hT.setCell (.inl hX) _, ?_⟩
  · rw [heap_setCell_same w1 b i _ _ _ hb, hcs]
  · intro j hj
    rcases List.mem_cons.1 hj with rfl | hj
    · exact .inl hX
    · exact hN j hj

/-- Behind an append onto the row: the block; and the field turned to the longer row. -/
theorem LAt.appended {W W2 W1 : World} {v v' : Value} {i : Nat} {M : List α} {n : Nat} {xs : List Value} (hne : tS ≠ tE) (hcs : (cs v).setIfInBounds i v' = cs v')
    (hb : W.heap[b]? = some (.cells (cs v) tS (0, 0))) (ho : W.ownsRow 0 tE k v n xs) (hT2 : Turned [] W W2) (hg : W2.grownBy W1 v.ownBlock)
    (hown : W1.ownsRow 0 tE k v' M.length (cellsOf enc M)) (hnew : ∀ g ∈ v'.ownBlock.toList, g ∈ v.ownBlock.toList ∨ W2.heap.size ≤ g) :
    W1.heap[b]? = some (.cells (cs v) tS (0, 0)) ∧ LAt tS tE k enc cs (W1.setCell ⟨b, i, none⟩ v') b (b :: v'.ownBlock.toList) M ∧ Turned (b :: v.ownBlock.toList) W (W1.setCell ⟨b, i, none⟩ v') ∧
      Newer (b :: v.ownBlock.toList) W.heap.size (b :: v'.ownBlock.toList) := by
  have hb2 := hT2.same hb (by simp)
  have hbl := lt_of_block hb2
  have hb1 : W1.heap[b]? = some (.cells (cs v) tS (0, 0)) := (hg.block b hbl (block_off hb ho hne)).trans hb2
  have hs := hT2.size
  have hT : Turned (b :: v.ownBlock.toList) W W1 := Turned.grown (hT2.mono (fun k hk => by simp at hk)) hg (fun k hk => .inl (List.mem_cons_of_mem _ (by simp [hk])))
  obtain ⟨h1, h2, h3⟩ := LAt.stored (w := W) hne hcs hb1 hown (X := b :: v.ownBlock.toList) (by simp) hT (fun g hg' => by
    rcases hnew g hg' with h | h
    · exact .inl (List.mem_cons_of_mem _ h)
    · exact .inr (by omega))
  exact ⟨hb1, h1, h2, h3⟩

/-- Another field of the block is turned. -/
theorem LAt.field {cs' : Value → Array Value} {i : Nat} {u : Value} (h : LAt tS tE k enc cs w b X L) (hne : tS ≠ tE) (hcs : ∀ v, (cs v).setIfInBounds i u = cs' v) :
    LAt tS tE k enc cs' (w.setCell ⟨b, i, none⟩ u) b X L ∧ Turned X w (w.setCell ⟨b, i, none⟩ u) := by
  obtain ⟨v, h1, h2, rfl⟩ := h
  refine ⟨⟨v, ?_, ownsRow_setCell_other h2 (a := ⟨b, i, none⟩) (fun e => block_off h1 h2 hne e.symm) _, rfl⟩, (Turned.refl _ w).setCell (.inl (by simp)) _⟩
  rw [heap_setCell_same w b i _ _ _ h1, hcs]
/-- A cell of an element is turned. -/
theorem LAt.cellSet {g n cap : Nat} (hk : ∀ x, (enc x).length = k) (hne : tS ≠ tE) (hb : w.heap[b]? = some (.cells (cs (.slice (some ⟨g, 0, none⟩) n cap)) tS (0, 0))) (ho : w.ownsRow 0 tE k (.slice (some ⟨g, 0, none⟩) n cap) L.length (cellsOf enc L))
    {j i : Nat} {x : α} {u : Value} (hj : j < L.length) (hi : i < k) (he : enc x = (enc L[j]).set i u) :
    LAt tS tE k enc cs (w.setCell ⟨g, j * k + i, none⟩ u) b [b, g] (L.set j x) ∧ Turned [b, g] w (w.setCell ⟨g, j * k + i, none⟩ u) := by
  have hbg : b ≠ g := fun h => block_off hb ho hne (by simp [Value.ownBlock, h])
  refine ⟨⟨.slice (some ⟨g, 0, none⟩) n cap, (Below.heap_setCell _ _ _ _ hbg).trans hb, ?_, by simp [Value.ownBlock]⟩, (Turned.refl _ w).setCell (.inl (by simp)) _⟩
  have hn : n = L.length := by
    obtain ⟨_, _, h1, _⟩ := ownsRow_shape ho
    simp at h1
    exact h1.2.1
  subst hn
  have h1 := (ho.stored (j * k + i) u).1
  rw [cellsOf_set hk L j i x u hj hi he, List.length_set]
  exact h1
/-- The cells of an element. -/
theorem row_cells {g n cap : Nat} (hk : ∀ x, (enc x).length = k) (ho : w.ownsRow 0 tE k (.slice (some ⟨g, 0, none⟩) n cap) L.length (cellsOf enc L)) {j : Nat} (hj : j < L.length) :
    ∀ i, i < k → w.cell? ⟨g, j * k + i, none⟩ = (enc L[j])[i]? ∧ w.frozen? ⟨g, j * k + i, none⟩ = false := by
  intro i hi
  have hn : n = L.length := by
    obtain ⟨_, _, h1, _⟩ := ownsRow_shape ho
    simp at h1
    exact h1.2.1
  subst hn
  have hlt : j * k + i < L.length * k := by
    have : (j + 1) * k ≤ L.length * k := Nat.mul_le_mul_right _ hj
    rw [Nat.add_mul] at this
    omega
  exact ⟨by rw [ho.cellAt _ hlt]; exact cellsOf_get hk L j i hj hi, ho.frozenAt _⟩
end
end

section
variable {α : Type} {tE : TypeId} {k : Nat} {enc : α → List Value} {W W' : World} {g n cap : Nat} {L : List α}
/-- The cells of a row's head, of its rest: what 'l[:j]', 'l[j:]' hand an append. -/
theorem cells_take (hk : ∀ x, (enc x).length = k) (h : W.ownsRow 0 tE k (.slice (some ⟨g, 0, none⟩) n cap) n (cellsOf enc L)) (hT : Turned [] W W') (j : Nat) :
    ∀ i u, (cellsOf enc (L.take j))[i]? = some u → W'.cell? ((⟨g, 0, none⟩ : Addr).add i) = some u := by
  intro i u hu
  rw [cellsOf_take hk, List.getElem?_take] at hu
  by_cases hi : i < j * k
  · rw [if_pos hi] at hu
    have h' := ownsRow_same (w' := W') h fun k' _ hl => hT.block k' hl (by simp)
    exact h'.cells (g := g) rfl i u hu
  · rw [if_neg hi] at hu
    cases hu
theorem cells_drop (hk : ∀ x, (enc x).length = k) (h : W.ownsRow 0 tE k (.slice (some ⟨g, 0, none⟩) n cap) n (cellsOf enc L)) (hT : Turned [] W W') (j : Nat) :
    ∀ i u, (cellsOf enc (L.drop j))[i]? = some u → W'.cell? ((⟨g, j * k, none⟩ : Addr).add i) = some u := by
  intro i u hu
  rw [cellsOf_drop hk, List.getElem?_drop] at hu
  have h' := ownsRow_same (w' := W') h fun k' _ hl => hT.block k' hl (by simp)
  have h2 := h'.cells (g := g) rfl _ u hu
  rw [Addr.add_lit] at h2 ⊢
  simpa using h2
/-- 'l[j+1:]' as the walk spells it. -/
theorem cells_tail (hk : ∀ x, (enc x).length = k) (h : W.ownsRow 0 tE k (.slice (some ⟨g, 0, none⟩) n cap) n (cellsOf enc L)) (hT : Turned [] W W') (j : Nat) (hc : L.length ≤ cap) :
    ∀ ad, (if cap = j then (some ⟨g, 0, none⟩ : Option Addr) else some ⟨g, j * k, none⟩) = some ad → ∀ i u, (cellsOf enc (L.drop j))[i]? = some u → W'.cell? (ad.add i) = some u := by
  intro ad had
  by_cases hcc : cap = j
  · rw [List.drop_eq_nil_of_le (by omega)]
    intro i u hu
    simp [cellsOf] at hu
  · rw [if_neg hcc] at had
    cases had
    exact cells_drop hk h hT j
theorem cells_one (h1 : ∀ x, ∀ u ∈ enc x, u.oneCell' = true) (L : List α) : ∀ u ∈ cellsOf enc L, u.oneCell' = true := by
  intro u hu
  obtain ⟨x, _, hx⟩ := List.mem_flatMap.1 hu
  exact h1 x u hx
end

/-- What a walk over the row wants. -/
theorem LAt.view {α : Type} {tS tE : TypeId} {k : Nat} {enc : α → List Value} {cs : Value → Array Value} {w : World} {b : Nat} {X : List Nat} {L : List α} (h : LAt tS tE k enc cs w b X L) :
    ∃ a cap, w.heap[b]? = some (.cells (cs (.slice a L.length cap)) tS (0, 0)) ∧ w.ownsRow 0 tE k (.slice a L.length cap) L.length (cellsOf enc L) ∧ X = b :: (Value.slice a L.length cap).ownBlock.toList ∧ L.length ≤ cap ∧ cap ≤ maxLen ∧
      ∀ j, j < L.length → ∃ g, a = some ⟨g, 0, none⟩ ∧ b ≠ g ∨ tS = tE := by
  obtain ⟨v, h1, h2, h3⟩ := h
  obtain ⟨a, cap, rfl, hc, hm⟩ := ownsRow_shape h2
  refine ⟨a, cap, h1, h2, h3, hc, hm, fun j hj => ?_⟩
  obtain ⟨g, cap', hv, _, _⟩ := ownsRow_pos h2 (by omega)
  simp only [Value.slice.injEq] at hv
  by_cases e : tS = tE
  · exact ⟨g, .inr e⟩
  · exact ⟨g, .inl ⟨hv.1, fun hg => block_off h1 h2 e (by simp [Value.ownBlock, hv.1, hg])⟩⟩

theorem cells2 {w : World} {b : Nat} {x y : Value} {t : TypeId} (h : w.heap[b]? = some (.cells #[x, y] t (0, 0))) :
    w.cell? ⟨b, 0, none⟩ = some x ∧ w.cell? ⟨b, 1, none⟩ = some y ∧ ∀ i, w.frozen? ⟨b, i, none⟩ = false := by
  refine ⟨by simp [World.cell?, h], by simp [World.cell?, h], fun i => frozen_of_row w b i _ t h⟩
section
variable {α : Type}
/-- The place of the first one of a kind; below 0. -/
def placeI (p : α → Bool) (L : List α) : Int := match L.findIdx? p with | some j => j | none => -1
theorem place_none {p : α → Bool} {L : List α} (h : ∀ j (hj : j < L.length), p L[j] = false) : placeI p L = -1 := by
  have : L.findIdx? p = none := by
    rw [List.findIdx?_eq_none_iff]
    intro x hx
    obtain ⟨j, hj, rfl⟩ := List.getElem_of_mem hx
    exact h j hj
  simp [placeI, this]
theorem place_some {p : α → Bool} {L : List α} {k : Nat} (hk : k < L.length) (hp : p L[k] = true) (h : ∀ j (hj : j < L.length), j < k → p L[j] = false) : placeI p L = k := by
  have : L.findIdx? p = some k := by
    rw [List.findIdx?_eq_some_iff_getElem]
    exact ⟨hk, hp, fun j hj => by simpa using h j (by omega) hj⟩
  simp [placeI, this]
theorem place_cases (p : α → Bool) (L : List α) : placeI p L = -1 ∧ (∀ x ∈ L, p x = false) ∨ ∃ k : Nat, ∃ hk : k < L.length, placeI p L = k ∧ p L[k] = true := by
  cases h : L.findIdx? p with
  | none =>
    left
    rw [List.findIdx?_eq_none_iff] at h
    exact ⟨place_none fun j hj => h _ (List.getElem_mem hj), fun x hx => h x hx⟩
  | some k =>
    right
    rw [List.findIdx?_eq_some_iff_getElem] at h
    obtain ⟨hk, h1, h2⟩ := h
    exact ⟨k, hk, place_some hk h1 fun j hj hjk => by simpa using h2 j hjk, h1⟩
theorem place_range (p : α → Bool) (L : List α) : -1 ≤ placeI p L ∧ placeI p L < L.length := by
  rcases place_cases p L with ⟨h, _⟩ | ⟨k, hk, h, _⟩ <;> rw [h] <;> omega
end

/-- An empty row in a new block. -/
theorem ownsRow_empty (w : World) (e : TypeId) (size : Nat) : (w.alloc (.cells #[] e (0, 0))).ownsRow 0 e size (.slice (some ⟨w.heap.size, 0, none⟩) 0 0) 0 [] :=
  ⟨by simp, .inr ⟨w.heap.size, 0, #[], rfl, Nat.zero_le _, heap_alloc_new w _, Nat.le_refl _, by simp [maxLen], by simp, by simp⟩⟩

section
variable {P : Program} (w : World)
/-- 'append(v, news..)', v a row of one's own, WHATEVER IS APPENDED, nothing too: where the longer row lies. -/
theorem run_append_any (t ty e : TypeId) (i : TypeInfo) (z : Value) (size bytes : Nat) (ht : P.underlying t = some (.slice e)) (hi : P.info? e = some i) (hz : i.zero = some z)
    (hsize : i.size = size) (hby : i.bytes = bytes) (hzs : z.cells.size = size) (hsz : 0 < size)
    (v : Value) (n : Nat) (xs : List Value) (hown : w.ownsRow 0 e size v n xs)
    (ao : Option Addr) (m c : Nat) (news : List Value) (hl : news.length = m * size) (hnone : ao = none → m = 0 ∧ c = 0) (hnews : ∀ ad, ao = some ad → ∀ j u, news[j]? = some u → w.cell? (ad.add j) = some u) (h1 : ∀ u ∈ news, u.oneCell' = true)
    (h63 : n + m ≤ maxLen) (hbytes : (n + m) * bytes ≤ 140737488355328) :
    ∃ a' cap' w', (Builtin.append_ #[t, t] ty #[v, .slice ao m c]).run P w = .ok (.slice a' (n + m) cap') w' ∧ w'.ownsRow 0 e size (.slice a' (n + m) cap') (n + m) (xs ++ news) ∧ w.grownBy w' v.ownBlock ∧
      (∀ g ∈ (Value.slice a' (n + m) cap').ownBlock.toList, g ∈ v.ownBlock.toList ∨ w.heap.size ≤ g) := by
  cases hao : ao with
  | none =>
    obtain ⟨rfl, rfl⟩ := hnone hao
    have hn : news = [] := List.eq_nil_of_length_eq_zero (by simpa using hl)
    subst hn
    have hr := run_append_owned_none (P := P) (w := w) 0 t ty e i size ht hi v n xs hown
    obtain ⟨a', cap', rfl, hc1, hc2⟩ := ownsRow_shape hown
    exact ⟨a', cap', w, hr, by simpa using hown, ⟨rfl, rfl, rfl, Nat.le_refl _, fun _ _ _ => rfl⟩, fun g hg => .inl hg⟩
  | some ad =>
    obtain ⟨v', w', hr, h2, h3, _, h5⟩ := run_append_own_at (P := P) w 0 t ty e i z size bytes ht hi hz hsize hby hzs hsz v n xs hown ad m c news hl (hnews ad hao) h1 h63 hbytes (Nat.zero_le _)
    obtain ⟨a', cap', rfl, hc1, hc2⟩ := ownsRow_shape h2
    refine ⟨a', cap', w', hr, h2, h3, fun g hg => ?_⟩
    rcases h5 with h5 | h5
    · exact .inl (by rw [← h5]; exact hg)
    · rw [h5] at hg
      simp at hg
      exact .inr (by omega)

theorem wp_append_any {o : Oper} {a : Act} {K : Act → World → Prop} {Q : Exit → Act → World → Prop} (s x : Operand) (t : TypeId)
    (ho : o.op = .call { callee := .builtin .append, args := #[s, x], argTypes := #[t, t] })
    (e : TypeId) (i : TypeInfo) (z : Value) (size bytes : Nat) (ht : P.underlying t = some (.slice e)) (hi : P.info? e = some i) (hz : i.zero = some z)
    (hsize : i.size = size) (hby : i.bytes = bytes) (hzs : z.cells.size = size) (hsz : 0 < size)
    (v : Value) (n : Nat) (xs : List Value) (hs : a.eval s = v) (hown : w.ownsRow 0 e size v n xs)
    (ao : Option Addr) (m c : Nat) (news : List Value) (hx : a.eval x = .slice ao m c) (hl : news.length = m * size) (hnone : ao = none → m = 0 ∧ c = 0) (hnews : ∀ ad, ao = some ad → ∀ j u, news[j]? = some u → w.cell? (ad.add j) = some u) (h1 : ∀ u ∈ news, u.oneCell' = true)
    (h63 : n + m ≤ maxLen) (hbytes : (n + m) * bytes ≤ 140737488355328)
    (h : ∀ a' cap' w', w'.ownsRow 0 e size (.slice a' (n + m) cap') (n + m) (xs ++ news) → w.grownBy w' v.ownBlock → (∀ g ∈ (Value.slice a' (n + m) cap').ownBlock.toList, g ∈ v.ownBlock.toList ∨ w.heap.size ≤ g) →
      K (a.put o.dst (.slice a' (n + m) cap')) w') : o.wp P a w K Q := by
  obtain ⟨a', cap', w', hr, h2, h3, h4⟩ := run_append_any (P := P) w t o.type e i z size bytes ht hi hz hsize hby hzs hsz v n xs hown ao m c news hl hnone hnews h1 h63 hbytes
  unfold Oper.wp execOp
  simp only [ho, resolve, invoke, builtin, Sem.run_bind, Sem.run_pure, Result.andThen_ok, List.map_toArray, List.map_cons, List.map_nil, hs, hx, hr]
  exact h a' cap' w' h2 h3 h4
/-- At the list of a plain region's operations. -/
theorem wpList_append_any {ops : Array Oper} {rest : List Oper} {o : Oper} {a : Act} {Q : Exit → Act → World → Prop} (hgd : o.guard = none) (s x : Operand) (t : TypeId)
    (ho : o.op = .call { callee := .builtin .append, args := #[s, x], argTypes := #[t, t] })
    (e : TypeId) (i : TypeInfo) (z : Value) (size bytes : Nat) (ht : P.underlying t = some (.slice e)) (hi : P.info? e = some i) (hz : i.zero = some z)
    (hsize : i.size = size) (hby : i.bytes = bytes) (hzs : z.cells.size = size) (hsz : 0 < size)
    (v : Value) (n : Nat) (xs : List Value) (hs : a.eval s = v) (hown : w.ownsRow 0 e size v n xs)
    (ao : Option Addr) (m c : Nat) (news : List Value) (hx : a.eval x = .slice ao m c) (hl : news.length = m * size) (hnone : ao = none → m = 0 ∧ c = 0) (hnews : ∀ ad, ao = some ad → ∀ j u, news[j]? = some u → w.cell? (ad.add j) = some u) (h1 : ∀ u ∈ news, u.oneCell' = true)
    (h63 : n + m ≤ maxLen) (hbytes : (n + m) * bytes ≤ 140737488355328)
    (h : ∀ a' cap' w', w'.ownsRow 0 e size (.slice a' (n + m) cap') (n + m) (xs ++ news) → w.grownBy w' v.ownBlock → (∀ g ∈ (Value.slice a' (n + m) cap').ownBlock.toList, g ∈ v.ownBlock.toList ∨ w.heap.size ≤ g) →
      wpList P ops Q rest (a.put o.dst (.slice a' (n + m) cap')) w') : wpList P ops Q (o :: rest) a w :=
  wpList_plain hgd fun _ hK => wp_append_any w s x t ho e i z size bytes ht hi hz hsize hby hzs hsz v n xs hs hown ao m c news hx hl hnone hnews h1 h63 hbytes fun a' cap' w' h2 h3 h4 => hK _ _ (h a' cap' w' h2 h3 h4)
/-- At a step of a region that draws its order. -/
theorem step_append_any {ops : Array Oper} {o : Oper} {a : Act} {K : Act → World → Prop} {Q : Exit → Act → World → Prop} {E : Prop} (hgd : o.guard = none) (s x : Operand) (t : TypeId)
    (ho : o.op = .call { callee := .builtin .append, args := #[s, x], argTypes := #[t, t] })
    (e : TypeId) (i : TypeInfo) (z : Value) (size bytes : Nat) (ht : P.underlying t = some (.slice e)) (hi : P.info? e = some i) (hz : i.zero = some z)
    (hsize : i.size = size) (hby : i.bytes = bytes) (hzs : z.cells.size = size) (hsz : 0 < size)
    (v : Value) (n : Nat) (xs : List Value) (hs : a.eval s = v) (hown : w.ownsRow 0 e size v n xs)
    (ao : Option Addr) (m c : Nat) (news : List Value) (hx : a.eval x = .slice ao m c) (hl : news.length = m * size) (hnone : ao = none → m = 0 ∧ c = 0) (hnews : ∀ ad, ao = some ad → ∀ j u, news[j]? = some u → w.cell? (ad.add j) = some u) (h1 : ∀ u ∈ news, u.oneCell' = true)
    (h63 : n + m ≤ maxLen) (hbytes : (n + m) * bytes ≤ 140737488355328)
    (h : ∀ a' cap' w', w'.ownsRow 0 e size (.slice a' (n + m) cap') (n + m) (xs ++ news) → w.grownBy w' v.ownBlock → (∀ g ∈ (Value.slice a' (n + m) cap').ownBlock.toList, g ∈ v.ownBlock.toList ∨ w.heap.size ≤ g) →
      K (a.put o.dst (.slice a' (n + m) cap')) w') : if Region.wanted o (yielded ops a.tmps) = true then Oper.wp P o a w K Q else E := by
  have hw : Region.wanted o (yielded ops a.tmps) = true := by simp [Region.wanted, hgd]
  rw [if_pos hw]
  exact wp_append_any w s x t ho e i z size bytes ht hi hz hsize hby hzs hsz v n xs hs hown ao m c news hx hl hnone hnews h1 h63 hbytes h
end
end Go.Proofs.YtmcfjlkjijaflaaDoor

/- What is told of cells abides the steps of a loop over a function; a region with calls in a round; a bool that is answered out of a cell. No program. -/
namespace Go.Proofs.YtmcfjlkjijaflaaDoor
open Go.RowKit

theorem cell1 {w : World} {b : Nat} {x : Value} {t : TypeId} (h : w.heap[b]? = some (.cells #[x] t (0, 0))) : w.cell? ⟨b, 0, none⟩ = some x := by simp [World.cell?, h]
/-- What lay in w lies so still. -/
theorem Turned.mild {X Y : List Nat} {N : Nat} {w A B : World} (h : Turned Y w A) (m : Mild X N A B) (hN : w.heap.size ≤ N) (hX : ∀ k ∈ X, w.heap.size ≤ k) : Turned Y w B :=
  ⟨m.os.trans h.os, m.tape.trans h.tape, m.output.trans h.output, Nat.le_trans h.size m.size, fun k hk hy => by
    have h1 := h.block k hk hy
    have h2 : A.heap[k]? = some (A.heap[k]'(by have := h.size; omega)) := Array.getElem?_eq_getElem _
    rw [m.same k _ h2 (fun hx => by have := hX k hx; omega) (.inl (by omega)), ← h2, h1]⟩
theorem Mild.cells {X : List Nat} {N k : Nat} {A B : World} {cs : Array Value} {t : TypeId} {f : Nat × Nat} (m : Mild X N A B) (h : A.heap[k]? = some (.cells cs t f)) (hx : k ∉ X) : B.heap[k]? = some (.cells cs t f) := m.same k _ h hx (.inr rfl)

theorem Turned.trans' {X Y : List Nat} {a b c : World} (h : Turned X a b) (g : Turned Y b c) (hs : ∀ k ∈ Y, a.heap.size ≤ k) : Turned X a c := h.trans g (fun k hk => .inr (hs k hk))
theorem Turned.put {X : List Nat} {a b : World} (h : Turned X a b) {l : Nat} (hl : a.heap.size ≤ l) (o : Obj) : Turned X a (b.putObj l o) :=
  h.grown (grownBy_putObj' b l o) (fun k e => .inr (by cases e; exact hl))
theorem bool_result {fn : Func} {p : Tmp} (hf : fn.results = #[.cell p 4]) {tmps : Array Value} {w : World} {B : Nat} {v : Value} (hp : tmps.getD p undef = .pointer (some ⟨B, 0, none⟩)) (h : w.heap[B]? = some (.cells #[v] 4 (0, 0))) :
    (results fn tmps).run Tryd.prog w = .ok v w := by
  have h0 := cell1 h
  have hp' : tmps[p]?.getD undef = .pointer (some ⟨B, 0, none⟩) := by simpa using hp
  simp [results, hf, hp', loadVar, go_sem, h0, asAddr, Sem.run_bind, Result.andThen]
/-- A REGION THAT DRAWS ITS ORDER, LOADS NEXT TO CALLS, IN A ROUND. -/
theorem wpRound_held {P : Program} {id r n : Nat} {Q : Exit → Act → World → Prop} {a : Act} {w : World} {l : List Oper} (S : World → Prop) (hnd : noDefer l = true) (hQ : ¬ LetsOut Q) (hm : P.follows .mixedOrders = true) (hS : S w.drew)
    (h : S w.drew → wpAnyH P .any l.toArray Q S l.toArray.size (Array.replicate l.toArray.size false) a w.drew) : (Code.region id l.toArray true).wpIn (Fence.wide.inRound r) n P Q a w :=
  wpIn_region_any hm (wpAnyIn_of_wpAny (by simpa using hnd) hQ _ _ _ _ (wpAny_of_held _ _ _ _ (h hS)))
/-- What is told of cells abides. -/
theorem LAt.mild {α : Type} {tS tE : TypeId} {k : Nat} {enc : α → List Value} {cs : Value → Array Value} {A B : World} {b : Nat} {Z X : List Nat} {N : Nat} {L : List α} (h : LAt tS tE k enc cs A b Z L) (m : Mild X N A B) (hd : ∀ k ∈ Z, k ∉ X) : LAt tS tE k enc cs B b Z L := by
  obtain ⟨v, h1, h2, rfl⟩ := h
  refine ⟨v, m.cells h1 (hd _ (by simp)), ownsRow_same h2 (fun k hk _ => ?_), rfl⟩
  obtain ⟨cur, hc⟩ := ownsRow_type h2 k hk
  rw [m.cells hc (hd k (List.mem_cons_of_mem _ hk)), hc]
theorem LAt.isCells {α : Type} {tS tE : TypeId} {k : Nat} {enc : α → List Value} {cs : Value → Array Value} {A : World} {b : Nat} {Z : List Nat} {L : List α} (h : LAt tS tE k enc cs A b Z L) : ∀ k ∈ Z, ∃ c t, A.heap[k]? = some (.cells c t (0, 0)) := by
  obtain ⟨v, h1, h2, rfl⟩ := h
  intro k hk
  rcases List.mem_cons.1 hk with rfl | hk
  · exact ⟨_, _, h1⟩
  · obtain ⟨cur, hc⟩ := ownsRow_type h2 k hk
    exact ⟨cur, _, hc⟩
theorem LAt.kinds {α : Type} {tS tE : TypeId} {k : Nat} {enc : α → List Value} {cs : Value → Array Value} {A : World} {b : Nat} {Z : List Nat} {L : List α} (h : LAt tS tE k enc cs A b Z L) : ∀ k ∈ Z, (∃ c, A.heap[k]? = some (.cells c tS (0, 0))) ∨ (∃ c, A.heap[k]? = some (.cells c tE (0, 0))) := by
  obtain ⟨v, h1, h2, rfl⟩ := h
  intro k hk
  rcases List.mem_cons.1 hk with rfl | hk
  · exact .inl ⟨_, h1⟩
  · obtain ⟨cur, hc⟩ := ownsRow_type h2 k hk
    exact .inr ⟨cur, hc⟩
theorem keepsOthers_turned {Z : List Nat} {A B : World} (h : Turned Z A B) (hz : ∀ k ∈ Z, ∃ c t, A.heap[k]? = some (.cells c t (0, 0))) : KeepsOthers A B :=
  ⟨h.size, fun k o hk ho => (h.block k (Array.getElem?_eq_some_iff.1 hk).1 (fun hx => by
    obtain ⟨c, t, hc⟩ := hz k hx
    rw [hk] at hc
    cases hc
    cases ho)).trans hk⟩
theorem Turned.mild2 {X Z : List Nat} {N : Nat} {w A B : World} (h : Turned Z w A) (m : Mild X N A B) (hN : w.heap.size ≤ N) (hX : ∀ k ∈ X, k ∈ Z) : Turned Z w B :=
  ⟨m.os.trans h.os, m.tape.trans h.tape, m.output.trans h.output, Nat.le_trans h.size m.size, fun k hk hy => by
    have h1 := h.block k hk hy
    have h2 : A.heap[k]? = some (A.heap[k]'(by have := h.size; omega)) := Array.getElem?_eq_getElem _
    rw [m.same k _ h2 (fun hx => hy (hX k hx)) (.inl (by omega)), ← h2, h1]⟩
end Go.Proofs.YtmcfjlkjijaflaaDoor

/- A region that draws its order, in a round of a loop over a function: what its loads read abides till its last operation, which waits for them all, and may turn it. No program. -/
namespace Go.Proofs.YtmcfjlkjijaflaaDoor
open Go.RowKit

/-- Does operation e wait for operation i? -/
def waitsFor (md : Region.Mode) (ops : Array Oper) (e i : Nat) : Bool :=
  match ops[e]? with
  | some o => o.after.any fun d => Region.binds md d && d.on == i
  | none => false
/-- Whatever order is drawn; S is shown behind each operation but number e. -/
def wpAnyE (P : Program) (md : Region.Mode) (ops : Array Oper) (Q : Exit → Act → World → Prop) (S : World → Prop) (e : Nat) : Nat → Array Bool → Act → World → Prop
  | 0, done, a, w => Region.ready md ops done = [] ∧ Q .normal a w
  | fuel + 1, done, a, w => (Region.ready md ops done = [] → Q .normal a w) ∧
    ∀ i ∈ Region.ready md ops done, wpOp P ops Q i (fun a' w' => (i = e ∨ S w') ∧ wpAnyE P md ops Q S e fuel (done.setIfInBounds i true) a' w') a w

section
variable {P : Program} {md : Region.Mode} {ops : Array Oper} {Q : Exit → Act → World → Prop} {S : World → Prop} {e : Nat}
theorem wpAny_of_E : ∀ (fuel : Nat) (done : Array Bool) (a : Act) (w : World), wpAnyE P md ops Q S e fuel done a w → wpAny P md ops Q fuel done a w
  | 0, _, _, _, h => h
  | fuel + 1, _, _, _, h => ⟨h.1, fun i hi => wpOp_mono (fun a' w' h' => wpAny_of_E fuel _ a' w' h'.2) (h.2 i hi)⟩
/-- What yields in every world that meets S, and for which number e waits, may be taken first. -/
theorem wpAnyE_take {i : Nat} {oi : Oper} {v : Value} {a : Act} {w : World} (hi : ops[i]? = some oi) (hs : Region.noSelect ops = true) (he : waitsFor md ops e i = true)
    (hQ : ∀ c a w, Q (.panic c) (a.put oi.dst v) w → Q (.panic c) a w) :
    ∀ {fuel : Nat} {done : Array Bool}, Region.free md ops done i = true → (Region.ready md ops done).contains i = true → YieldsIf P ops S oi v a → S w →
      wpAnyE P md ops Q S e fuel (done.setIfInBounds i true) (a.put oi.dst v) w → wpAnyE P md ops Q S e (fuel + 1) done a w := by
  have hsel := Region.noSelect_spec hs
  intro fuel done hf hr
  have hfree := Region.free_spec hi hf
  have hr' : i ∈ Region.ready md ops done := by simpa using hr
  clear hf hr
  -- the order that is drawn: number i now, or another one ahead of it
  suffices H : ∀ (fuel : Nat) (done : Array Bool) (a : Act) (w : World), (∀ j oj, ops[j]? = some oj → j ≠ i → done.getD j true = false → (∀ d ∈ oj.after, Region.binds md d = true → d.on ≠ i) → oi.apart ops oj = true) →
      i ∈ Region.ready md ops done → YieldsIf P ops S oi v a → S w → wpAnyE P md ops Q S e fuel (done.setIfInBounds i true) (a.put oi.dst v) w → wpAnyE P md ops Q S e (fuel + 1) done a w from H fuel done a w hfree hr'
  intro fuel
  induction fuel with
  | zero =>
    intro done a w _ hr hy hS h
    refine ⟨fun h0 => by simp [h0] at hr, fun j hj => ?_⟩
    by_cases hji : j = i
    · subst hji
      exact hy.wpOp hi hS ⟨.inr hS, h⟩
    · have := ready_mono hj hji
      simp [h.1] at this
  | succ fuel ih =>
    intro done a w hfr hr hy hS h
    refine ⟨fun h0 => by simp [h0] at hr, fun j hj => ?_⟩
    by_cases hji : j = i
    · subst hji
      exact hy.wpOp hi hS ⟨.inr hS, h⟩
    obtain ⟨hjd, oj, hoj, hall⟩ := mem_ready.1 hj
    have hno : ∀ d ∈ oj.after, Region.binds md d = true → d.on ≠ i := by
      rintro d hd hb rfl
      have h1 := hall d hd hb
      have h0 := (mem_ready.1 hr).1
      simp only [Array.getD_eq_getD_getElem?] at h0 h1
      cases hq : done[d.on]? with
      | none => simp [hq] at h0 h1
      | some q => simp [hq] at h0 h1; rw [h0] at h1; cases h1
    have hje : j ≠ e := by
      rintro rfl
      unfold waitsFor at he
      rw [hoj] at he
      obtain ⟨k, hk, hd⟩ := Array.any_eq_true.1 he
      simp only [Bool.and_eq_true, beq_iff_eq] at hd
      exact hno _ (Array.getElem_mem hk) hd.1 hd.2
    have hstep := wpOp_putIf hoj (hfr j oj hoj hji hjd hno) (fun cs b => hsel i oi cs b hi) (fun cs b => hsel j oj cs b hoj) hQ hy (h.2 j (ready_mono hj hji))
    refine wpOp_mono (fun a' w' hk => ?_) hstep
    obtain ⟨hy', hS', hrest⟩ := hk
    have hS2 : S w' := hS'.resolve_left hje
    refine ⟨.inr hS2, ih _ a' w' (fun k ok hk hki hun hn => hfr k ok hk hki ?_ hn) (ready_mono hr (Ne.symm hji)) hy' hS2 ?_⟩
    · by_cases hjk : j = k
      · subst hjk; exact hjd
      · rwa [getD_set_ne true hjk] at hun
    · rwa [Array.setIfInBounds_comm _ _ hji]

/-- Which operations may come up; behind each S is shown, but behind number e. -/
def ReadyE (P : Program) (md : Region.Mode) (ops : Array Oper) (Q : Exit → Act → World → Prop) (S : World → Prop) (e fuel : Nat) (done : Array Bool) (a : Act) (w : World) (rs : List Nat) : Prop :=
  ∀ i ∈ rs, wpOp P ops Q i (fun a' w' => (i = e ∨ S w') ∧ wpAnyE P md ops Q S e fuel (done.setIfInBounds i true) a' w') a w
theorem ReadyE.nil {fuel : Nat} {done : Array Bool} {a : Act} {w : World} : ReadyE P md ops Q S e fuel done a w [] := fun _ h => by cases h
theorem ReadyE.cons {fuel : Nat} {done : Array Bool} {a : Act} {w : World} {i : Nat} {o : Oper} {rs : List Nat} (ho : ops[i]? = some o)
    (h : ∀ K' : Act → World → Prop, Shut (∀ a w, (i = e ∨ S w) → wpAnyE P md ops Q S e fuel (done.setIfInBounds i true) a w → K' a w) → if Region.wanted o (yielded ops a.tmps) = true then Oper.wp P o a w K' Q else K' (a.put o.dst undef) w)
    (hs : ReadyE P md ops Q S e fuel done a w rs) : ReadyE P md ops Q S e fuel done a w (i :: rs) := fun j hj => by
  rcases List.mem_cons.1 hj with rfl | hj
  · exact wpOp_step ho fun K' hK => h K' fun a w h1 h2 => hK a w ⟨h1, h2⟩
  · exact hs j hj
theorem wpAnyE_ready {rs : List Nat} {fuel : Nat} {done : Array Bool} {a : Act} {w : World} (hr : Region.ready md ops done = rs) (hne : rs ≠ []) (h : ReadyE P md ops Q S e fuel done a w rs) : wpAnyE P md ops Q S e (fuel + 1) done a w :=
  ⟨fun h0 => absurd (hr ▸ h0) hne, hr ▸ h⟩
theorem wpAnyE_done {done : Array Bool} {a : Act} {w : World} (hr : Region.ready md ops done = []) (h : Q .normal a w) : ∀ fuel, wpAnyE P md ops Q S e fuel done a w
  | 0 => ⟨hr, h⟩
  | _ + 1 => ⟨fun _ => h, by rw [hr]; simp⟩
end
/-- .. in a round. -/
theorem wpRound_last {P : Program} {id r n : Nat} {Q : Exit → Act → World → Prop} {a : Act} {w : World} {l : List Oper} (S : World → Prop) (e : Nat) (hnd : noDefer l = true) (hQ : ¬ LetsOut Q) (hm : P.follows .mixedOrders = true) (hS : S w.drew)
    (h : S w.drew → wpAnyE P .any l.toArray Q S e l.toArray.size (Array.replicate l.toArray.size false) a w.drew) : (Code.region id l.toArray true).wpIn (Fence.wide.inRound r) n P Q a w :=
  wpIn_region_any hm (wpAnyIn_of_wpAny (by simpa using hnd) hQ _ _ _ _ (wpAny_of_E _ _ _ _ (h hS)))
/-- .. outside of a round. -/
theorem wp_region_last {P : Program} {id : Nat} {Q : Exit → Act → World → Prop} {a : Act} {w : World} {ops : Array Oper} (S : World → Prop) (e : Nat) (hm : P.follows .mixedOrders = true) (hS : S w.drew)
    (h : S w.drew → wpAnyE P .any ops Q S e ops.size (Array.replicate ops.size false) a w.drew) : (Code.region id ops true).wp P Q a w :=
  wp_region_any hm (wpAny_of_E _ _ _ _ (h hS))
end Go.Proofs.YtmcfjlkjijaflaaDoor
