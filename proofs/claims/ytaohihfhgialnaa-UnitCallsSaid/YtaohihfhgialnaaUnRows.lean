/-
  The three lists that UnitLag grows: ticks, weights, reps; what an append makes of them. No program.
-/
import Derived.Test.YtaohihfhgialnaaUnSaid
import Derived.Test.YtaohihfhgialnaaLst
import Derived.Laws.OwnMore
import Derived.Laws.Cover1
namespace Go.Proofs.Ytaohihfhgialnaa
open Go.RowKit

/-- A list of numbers as it is read, told by place. -/
structure NArg (k : IntKind) (w : World) (ao : Option Addr) (b off n : Nat) (f : Nat → Int) : Prop where
  at_ : 0 < n → ao = some ⟨b, off, none⟩ ∧ b < w.heap.size
  cells : ∀ i, i < n → w.cell? ⟨b, off + i, none⟩ = some (.int k (f i))
theorem NArg.below {k : IntKind} {w w' : World} {ao : Option Addr} {b off n : Nat} {f : Nat → Int} (h : NArg k w ao b off n f) (hb : Below w.heap.size w w') : NArg k w' ao b off n f := by
  refine ⟨fun h0 => ⟨(h.at_ h0).1, Nat.lt_of_lt_of_le (h.at_ h0).2 hb.size⟩, fun i hi => ?_⟩
  have hl := (h.at_ (by omega)).2
  exact (hb.cell (p := ⟨b, off + i, none⟩) hl).trans (h.cells i hi)
theorem NArg.view {k : IntKind} {w : World} {ao : Option Addr} {b off n : Nat} {f : Nat → Int} (h : NArg k w ao b off n f) {i : Nat} (hi : i < n) : ao = some ⟨b, off, none⟩ ∧ w.cell? ⟨b, off + i, none⟩ = some (.int k (f i)) :=
  ⟨(h.at_ (by omega)).1, h.cells i hi⟩

/-- The three lists. -/
structure UlR (w V : World) (v10 v11 v12 : Value) (T W R : List Int) : Prop where
  r10 : V.ownsRow 0 3 1 v10 T.length (T.map (Value.int .i64))
  r11 : V.ownsRow 0 3 1 v11 W.length (W.map (Value.int .i64))
  r12 : V.ownsRow 0 23 1 v12 R.length (R.map (Value.int .u64))
  off : ∀ g ∈ v10.ownBlock.toList, g ∉ v11.ownBlock.toList
  n10 : ∀ g ∈ v10.ownBlock.toList, w.heap.size ≤ g
  n11 : ∀ g ∈ v11.ownBlock.toList, w.heap.size ≤ g
  n12 : ∀ g ∈ v12.ownBlock.toList, w.heap.size ≤ g
  bel : Below w.heap.size w V
section
variable {w V V' W1 : World} {v10 v11 v12 v' : Value} {T W R : List Int} {x : Int}
theorem UlR.start (h : Below w.heap.size w V) : UlR w V (.slice none 0 0) (.slice none 0 0) (.slice none 0 0) [] [] [] :=
  ⟨World.ownsRow_nil _ _ _ _, World.ownsRow_nil _ _ _ _, World.ownsRow_nil _ _ _ _, by simp [Value.ownBlock], by simp [Value.ownBlock], by simp [Value.ownBlock], by simp [Value.ownBlock], h⟩
theorem UlR.keep (h : UlR w V v10 v11 v12 T W R) (hb : Below V.heap.size V V') : UlR w V' v10 v11 v12 T W R :=
  ⟨ownsRow_same h.r10 (fun k _ hl => hb.block k hl), ownsRow_same h.r11 (fun k _ hl => hb.block k hl), ownsRow_same h.r12 (fun k _ hl => hb.block k hl), h.off, h.n10, h.n11, h.n12, h.bel.trans (hb.mono h.bel.size)⟩
theorem UlR.alloc (h : UlR w V v10 v11 v12 T W R) (o : Obj) : UlR w (V.alloc o) v10 v11 v12 T W R := h.keep ((Below.refl _ _).alloc (Nat.le_refl _) o)
theorem UlR.drewN (h : UlR w V v10 v11 v12 T W R) (q : Nat) : UlR w (V.drewN q) v10 v11 v12 T W R := h.keep (below_drews V q)
theorem UlR.drew (h : UlR w V v10 v11 v12 T W R) : UlR w V.drew v10 v11 v12 T W R := h.keep (Below.refl _ _).drew
theorem ne_of_off {a b : Value} (h : ∀ g ∈ a.ownBlock.toList, g ∉ b.ownBlock.toList) : a.ownBlock = none ∨ a.ownBlock ≠ b.ownBlock := by
  cases ha : a.ownBlock with
  | none => exact .inl rfl
  | some g =>
    refine .inr fun e => h g (by simp [ha]) (by simp [← e])
theorem UlR.app10 (h : UlR w V v10 v11 v12 T W R) (hown : W1.ownsRow 0 3 1 v' (T.length + 1) (T.map (Value.int .i64) ++ [.int .i64 x])) (hg : V.grownBy W1 v10.ownBlock) (hnew : ∀ g ∈ v'.ownBlock.toList, g ∈ v10.ownBlock.toList ∨ V.heap.size ≤ g) :
    UlR w W1 v' v11 v12 (T ++ [x]) W R := by
  have hb := h.bel.size
  have hl11 := ownsRow_lt h.r11
  refine ⟨by simpa using hown, h.r11.kept hg (ne_of_off fun g hg1 hg2 => h.off g hg2 hg1), h.r12.kept hg (rows_off h.r12 h.r10 (by decide)), fun g hg1 hg2 => ?_, fun g hg1 => ?_, h.n11, h.n12, h.bel.grown hg hb (fun k hk => h.n10 k (by simp [hk]))⟩
  · rcases hnew g hg1 with e | e
    · exact h.off g e hg2
    · have := hl11 g hg2
      omega
  · rcases hnew g hg1 with e | e
    · exact h.n10 g e
    · omega
theorem UlR.app11 (h : UlR w V v10 v11 v12 T W R) (hown : W1.ownsRow 0 3 1 v' (W.length + 1) (W.map (Value.int .i64) ++ [.int .i64 x])) (hg : V.grownBy W1 v11.ownBlock) (hnew : ∀ g ∈ v'.ownBlock.toList, g ∈ v11.ownBlock.toList ∨ V.heap.size ≤ g) :
    UlR w W1 v10 v' v12 T (W ++ [x]) R := by
  have hb := h.bel.size
  have hl10 := ownsRow_lt h.r10
  refine ⟨h.r10.kept hg (ne_of_off h.off), by simpa using hown, h.r12.kept hg (rows_off h.r12 h.r11 (by decide)), fun g hg1 hg2 => ?_, h.n10, fun g hg1 => ?_, h.n12, h.bel.grown hg hb (fun k hk => h.n11 k (by simp [hk]))⟩
  · rcases hnew g hg2 with e | e
    · exact h.off g hg1 e
    · have := hl10 g hg1
      omega
  · rcases hnew g hg1 with e | e
    · exact h.n11 g e
    · omega
theorem UlR.app12 (h : UlR w V v10 v11 v12 T W R) (hown : W1.ownsRow 0 23 1 v' (R.length + 1) (R.map (Value.int .u64) ++ [.int .u64 x])) (hg : V.grownBy W1 v12.ownBlock) (hnew : ∀ g ∈ v'.ownBlock.toList, g ∈ v12.ownBlock.toList ∨ V.heap.size ≤ g) :
    UlR w W1 v10 v11 v' T W (R ++ [x]) := by
  have hb := h.bel.size
  refine ⟨h.r10.kept hg (rows_off h.r10 h.r12 (by decide)), h.r11.kept hg (rows_off h.r11 h.r12 (by decide)), by simpa using hown, h.off, h.n10, h.n11, fun g hg1 => ?_, h.bel.grown hg hb (fun k hk => h.n12 k (by simp [hk]))⟩
  rcases hnew g hg1 with e | e
  · exact h.n12 g e
  · omega
theorem map_cell {k : IntKind} {e : TypeId} {L : List Int} {g cap n : Nat} (h : V.ownsRow 0 e 1 (.slice (some ⟨g, 0, none⟩) n cap) n (L.map (Value.int k))) (hn : n = L.length) {i : Nat} (hi : i < n) {y : Int} (hy : L[i]? = some y) : V.cell? ⟨g, i, none⟩ = some (.int k y) := by
  rw [h.cellAt i (by omega), List.getElem?_map, hy]
  rfl
end
theorem new_one (W : World) (a : Value) (t : TypeId) : ∀ (j : Nat) (u : Value), [a][j]? = some u → (W.alloc (.cells #[a] t)).cell? ((⟨W.heap.size, 0, none⟩ : Addr).add j) = some u := by
  intro j u hj
  have hh := heap_alloc_new W (.cells #[a] t)
  rw [Addr.add_lit]
  simp only [World.cell?, hh]
  match j, hj with
  | 0, hj => simpa using hj

/-! The numbers. -/
def wtU (be : Nat → Int) (i : Nat) : Int := 1 + be i % 16
def repU (nu be : Nat → Int) (i : Nat) : Int := nu i * lockR (wtU be i)
def floU (nu be : Nat → Int) : Nat → Int
  | 0 => 18446744073709551615
  | i + 1 => if repU nu be i < floU nu be i then repU nu be i else floU nu be i
def rng (f : Nat → Int) (n : Nat) : List Int := (List.range n).map f
theorem rng_len (f : Nat → Int) (n : Nat) : (rng f n).length = n := by simp [rng]
theorem rng_succ (f : Nat → Int) (n : Nat) : rng f (n + 1) = rng f n ++ [f n] := by simp [rng, List.range_succ]
theorem rng_get (f : Nat → Int) {n i : Nat} (h : i < n) : (rng f n)[i]? = some (f i) := by simp [rng, h]
theorem wt_range (be : Nat → Int) (i : Nat) : 1 ≤ wtU be i ∧ wtU be i ≤ 16 := by unfold wtU; omega
theorem lock_mul {w : Int} (h0 : 1 ≤ w) (h1 : w ≤ 16) : lockR w * w = 720720 ∧ 0 < lockR w ∧ lockR w ≤ 720720 := by
  obtain ⟨k, rfl⟩ : ∃ k : Nat, w = k := ⟨w.toNat, by omega⟩
  have hk : k ≤ 16 := by omega
  have h2 : 1 ≤ k := by omega
  have all : ∀ k : Fin 17, 1 ≤ k.val → lockR (k.val : Int) * (k.val : Int) = 720720 ∧ 0 < lockR (k.val : Int) ∧ lockR (k.val : Int) ≤ 720720 := by decide +kernel
  exact all ⟨k, by omega⟩ h2
theorem rep_range {nu be : Nat → Int} {i : Nat} (h0 : 0 ≤ nu i) (h1 : nu i ≤ 65535) : 0 ≤ repU nu be i ∧ repU nu be i ≤ 47232385200 := by
  obtain ⟨a, b⟩ := wt_range be i
  obtain ⟨_, c, d⟩ := lock_mul a b
  unfold repU
  refine ⟨Int.mul_nonneg h0 (by omega), ?_⟩
  have := Int.mul_le_mul h1 d (by omega) (by omega)
  omega
theorem flo_range {nu be : Nat → Int} : ∀ {i : Nat}, (∀ j, j < i → 0 ≤ nu j ∧ nu j ≤ 65535) → 0 ≤ floU nu be i ∧ floU nu be i ≤ 18446744073709551615
  | 0, _ => by simp [floU]
  | i + 1, h => by
    obtain ⟨a, b⟩ := flo_range (nu := nu) (be := be) (i := i) (fun j hj => h j (by omega))
    obtain ⟨c, d⟩ := rep_range (be := be) (h i (by omega)).1 (h i (by omega)).2
    unfold floU
    split <;> omega
theorem flo_le {nu be : Nat → Int} : ∀ {i j : Nat}, j < i → floU nu be i ≤ repU nu be j
  | i + 1, j, h => by
    unfold floU
    rcases Nat.lt_or_ge j i with h1 | h1
    · have := flo_le (nu := nu) (be := be) h1
      split <;> omega
    · have : j = i := by omega
      subst this
      split <;> omega
section
variable {w V W1 : World} {v10 v11 v12 v' : Value} {T W R : List Int} {f : Nat → Int} {i : Nat} {x : Int}
theorem UlR.r10n (h : UlR w V v10 v11 v12 (rng f i) W R) : V.ownsRow 0 3 1 v10 i ((rng f i).map (Value.int .i64)) := by
  have e := h.r10
  rwa [rng_len] at e
theorem UlR.r11n (h : UlR w V v10 v11 v12 T (rng f i) R) : V.ownsRow 0 3 1 v11 i ((rng f i).map (Value.int .i64)) := by
  have e := h.r11
  rwa [rng_len] at e
theorem UlR.r12n (h : UlR w V v10 v11 v12 T W (rng f i)) : V.ownsRow 0 23 1 v12 i ((rng f i).map (Value.int .u64)) := by
  have e := h.r12
  rwa [rng_len] at e
theorem UlR.a10 (h : UlR w V v10 v11 v12 (rng f i) W R) (hown : W1.ownsRow 0 3 1 v' (i + 1) ((rng f i).map (Value.int .i64) ++ [.int .i64 x])) (hg : V.grownBy W1 v10.ownBlock) (hnew : ∀ g ∈ v'.ownBlock.toList, g ∈ v10.ownBlock.toList ∨ V.heap.size ≤ g) (hx : f i = x) :
    UlR w W1 v' v11 v12 (rng f (i + 1)) W R := by
  rw [rng_succ, hx]
  exact h.app10 (by rw [rng_len]; exact hown) hg hnew
theorem UlR.a11 (h : UlR w V v10 v11 v12 T (rng f i) R) (hown : W1.ownsRow 0 3 1 v' (i + 1) ((rng f i).map (Value.int .i64) ++ [.int .i64 x])) (hg : V.grownBy W1 v11.ownBlock) (hnew : ∀ g ∈ v'.ownBlock.toList, g ∈ v11.ownBlock.toList ∨ V.heap.size ≤ g) (hx : f i = x) :
    UlR w W1 v10 v' v12 T (rng f (i + 1)) R := by
  rw [rng_succ, hx]
  exact h.app11 (by rw [rng_len]; exact hown) hg hnew
theorem UlR.a12 (h : UlR w V v10 v11 v12 T W (rng f i)) (hown : W1.ownsRow 0 23 1 v' (i + 1) ((rng f i).map (Value.int .u64) ++ [.int .u64 x])) (hg : V.grownBy W1 v12.ownBlock) (hnew : ∀ g ∈ v'.ownBlock.toList, g ∈ v12.ownBlock.toList ∨ V.heap.size ≤ g) (hx : f i = x) :
    UlR w W1 v10 v11 v' T W (rng f (i + 1)) := by
  rw [rng_succ, hx]
  exact h.app12 (by rw [rng_len]; exact hown) hg hnew
end
theorem row_iarg {V : World} {e : TypeId} {L : List Int} {g cap n : Nat} (h : V.ownsRow 0 e 1 (.slice (some ⟨g, 0, none⟩) n cap) n (L.map (Value.int .i64))) (hn : n = L.length) : IArg V (some ⟨g, 0, none⟩) g 0 L := by
  refine ⟨fun _ => ⟨rfl, ownsRow_lt h g (by simp [Value.ownBlock])⟩, fun i hi => ?_⟩
  rw [Nat.zero_add]
  exact map_cell h hn (by omega) (List.getElem?_eq_getElem hi)
theorem one_i64 (x : Int) (k : IntKind) : ∀ u ∈ [Value.int k x], u.oneCell' = true := by
  intro u hu
  simp at hu
  subst hu
  rfl
/-- The law's end. -/
theorem lag_end {nu be : Nat → Int} {n : Nat} {g : Int} (h0 : 0 < n) (h6 : n ≤ 6) (hg : 1 ≤ g) (hg2 : g ≤ 32) (hnu : ∀ j, j < n → 0 ≤ nu j ∧ nu j ≤ 65535)
    (h : ∀ j, j < n → repU nu be j ≤ floU nu be n + lockR (wtU be j) * g) : fairR (rng nu n) (rng (wtU be) n) ((n : Int) * g) = true := by
  have hl : (rng nu n).length = n := rng_len _ _
  have e := lag_fair (N := 720720) (F := floU nu be n) (q := g) (ts := rng nu n) (ws := rng (wtU be) n) (by omega) hg (by rw [hl, rng_len]) (by omega) (by omega) (by
      rw [hl]
      have : (n : Int) * g ≤ 6 * 32 := Int.mul_le_mul (by omega) hg2 (by omega) (by omega)
      omega) (fun t ht => by
      obtain ⟨j, hj, rfl⟩ := List.mem_map.1 ht
      have := hnu j (by simpa using hj)
      omega) (fun x hx => by
      obtain ⟨j, hj, rfl⟩ := List.mem_map.1 hx
      have := wt_range be j
      omega) (fun y hy => by
      obtain ⟨j, hj, rfl⟩ := List.mem_iff_getElem.1 hy
      have hjn : j < n := by
        rw [List.length_zip, hl, rng_len] at hj
        omega
      rw [List.getElem_zip]
      have e1 : (rng nu n)[j]'(by omega) = nu j := by simp [rng]
      have e2 : (rng (wtU be) n)[j]'(by rw [rng_len]; omega) = wtU be j := by simp [rng]
      rw [e1, e2]
      obtain ⟨a, b⟩ := wt_range be j
      obtain ⟨c, d, _⟩ := lock_mul a b
      exact ⟨by simp only; omega, lockR (wtU be j), d, c, flo_le hjn, h j hjn⟩)
  rw [hl] at e
  exact e
theorem infoI64 : (Try.prog.info? 3).map (fun i => (i.zero, i.size, i.bytes)) = some (some (.int .i64 0), 1, 8) := by kernel_rfl
theorem infoU64 : (Try.prog.info? 23).map (fun i => (i.zero, i.size, i.bytes)) = some (some (.int .u64 0), 1, 8) := by kernel_rfl
end Go.Proofs.Ytaohihfhgialnaa
