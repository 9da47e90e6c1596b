/-
  The program's table in memory: its buckets of lines, its seats, what is due; each block has one owner.
-/
import Derived.Test.YtiffgkmmibhklaaFqAllW
import Derived.Test.YtiffgkmmibhklaaHbDueE
import Derived.Test.YtiffgkmmibhklaaGA
import Derived.Test.YtiffgkmmibhklaaWqSaid
namespace Go.Proofs.Ytiffgkmmibhklaa
open Go.RowKit Go.Maps

abbrev tTb : TypeId := 63
abbrev tSl : TypeId := 107
abbrev tLn : TypeId := 111
abbrev tSt : TypeId := 66
abbrev tMs : TypeId := 58
/-- A line: its key, its queue's block, all blocks of that, its last ticket, who stands in it. -/
structure Ln where
  key : Int
  qb : Nat
  X : List Nat
  l : Int
  P : List (Pl Wt)
abbrev encL (x : Ln) : List Value := [.int .i64 x.key, .pointer (some ⟨x.qb, 0, none⟩)]
theorem encL_len (x : Ln) : (encL x).length = 2 := rfl
theorem encL_one (x : Ln) : ∀ u ∈ encL x, u.oneCell' = true := by
  intro u hu
  simp at hu
  rcases hu with rfl | rfl <;> rfl
/-- A seat. -/
abbrev seatV (s : Nat × Int) : Value := .agg #[.pointer (some ⟨s.1, 0, none⟩), .int .i64 s.2]
abbrev seat0 : Value := .agg #[.pointer none, .int .i64 0]
/-- Who owns a block. -/
inductive Co where
  | tab
  | row
  | map
  | due
  | buc (i : Nat)
  | que (q : Nat)

/-- The table but for what is due: g0: the row of buckets, sv: each bucket's slice, gm: the map of seats, hb: the heap of what is due, Xh: its blocks. -/
structure WlP (w : World) (b : Nat) (X : List Nat) (m e : Int) (nB : Nat) (R : Nat → List Ln) (f : Int → Option (Nat × Int)) (s : Nat) (g0 cap gm hb : Nat) (Xh : List Nat) (sv : Nat → Value) (DD : DataW Value) (col : Nat → Co) : Prop where
  tab : w.heap[b]? = some (.cells #[.int .i64 m, .int .i64 e, .slice (some ⟨g0, 0, none⟩) nB cap, .map (some gm), .pointer (some ⟨hb, 0, none⟩)] tTb (0, 0))
  row : w.ownsRow 0 tSl 1 (.slice (some ⟨g0, 0, none⟩) nB cap) nB ((List.range nB).map sv)
  buc : ∀ i, i < nB → w.ownsRow 0 tLn 2 (sv i) (R i).length (cellsOf encL (R i))
  que : ∀ i, i < nB → ∀ x ∈ R i, Wq.FQ w x.qb x.X e x.l x.P
  map : w.ownsMap Try.prog tN valElem gm (Maps.size DD) DD
  siz : Maps.size DD = s
  red : ReadsV DD (fun i => (f i).map seatV)
  xt : b ∈ X
  xr : g0 ∈ X
  xm : gm ∈ X
  xh : ∀ k ∈ Xh, k ∈ X
  xb : ∀ i, i < nB → ∀ k ∈ (sv i).ownBlock.toList, k ∈ X
  xq : ∀ i, i < nB → ∀ x ∈ R i, ∀ k ∈ x.X, k ∈ X
  lt : ∀ k ∈ X, k < w.heap.size
  ct : col b = .tab
  cr : col g0 = .row
  cm : col gm = .map
  ch : ∀ k ∈ Xh, col k = .due
  cb : ∀ i, i < nB → ∀ k ∈ (sv i).ownBlock.toList, col k = .buc i
  cq : ∀ i, i < nB → ∀ x ∈ R i, ∀ k ∈ x.X, col k = .que x.qb

/-! ### what lies as it lay -/
theorem fq_at {w w' : World} {b : Nat} {X : List Nat} {m l : Int} {P : List (Pl Wt)} (h : Wq.FQ w b X m l P) (hs : ∀ k ∈ X, w'.heap[k]? = w.heap[k]?) : Wq.FQ w' b X m l P := by
  obtain ⟨S, F, f, fst, lst, ⟨ab, gm, Z, D, h1, ⟨sv, fv, a1, a2, a3, rfl⟩, h3, h4, h5, rfl⟩, r⟩ := h
  exact ⟨S, F, f, fst, lst, ⟨ab, gm, _, D, (hs b (by simp)).trans h1, ⟨sv, fv, (hs ab (by simp)).trans a1, ownsRow_same a2 (fun k hk _ => hs k (by simp [hk])), ownsRow_same a3 (fun k hk _ => hs k (by simp [hk])), rfl⟩, ownsMap_same h3 (hs gm (by simp)), h4, h5, rfl⟩, r⟩

section
variable {w w' : World} {b : Nat} {X Y : List Nat} {m e : Int} {nB : Nat} {R : Nat → List Ln} {f : Int → Option (Nat × Int)} {s g0 cap gm hb : Nat} {Xh : List Nat} {sv : Nat → Value} {DD : DataW Value} {col : Nat → Co}
/-- What turns blocks of one owner alone. -/
theorem WlP.own (h : WlP w b X m e nB R f s g0 cap gm hb Xh sv DD col) {c : Co} (ht : Turned Y w w') (hY : ∀ k ∈ Y, k < w.heap.size → col k = c) :
    (c ≠ .tab → w'.heap[b]? = some (.cells #[.int .i64 m, .int .i64 e, .slice (some ⟨g0, 0, none⟩) nB cap, .map (some gm), .pointer (some ⟨hb, 0, none⟩)] tTb (0, 0))) ∧
      (c ≠ .row → w'.ownsRow 0 tSl 1 (.slice (some ⟨g0, 0, none⟩) nB cap) nB ((List.range nB).map sv)) ∧
      (∀ i, i < nB → c ≠ .buc i → w'.ownsRow 0 tLn 2 (sv i) (R i).length (cellsOf encL (R i))) ∧
      (∀ i, i < nB → ∀ x ∈ R i, c ≠ .que x.qb → Wq.FQ w' x.qb x.X e x.l x.P) ∧
      (c ≠ .map → w'.ownsMap Try.prog tN valElem gm (Maps.size DD) DD) ∧ ∀ k ∈ X, k < w'.heap.size := by
  have same : ∀ k ∈ X, col k ≠ c → w'.heap[k]? = w.heap[k]? := fun k hk hc => ht.block k (h.lt k hk) (fun hy => hc (hY k hy (h.lt k hk)))
  refine ⟨fun hc => (same b h.xt (by rw [h.ct]; exact hc.symm)).trans h.tab, fun hc => ownsRow_same h.row (fun k hk _ => ?_), fun i hi hc => ownsRow_same (h.buc i hi) (fun k hk _ => same k (h.xb i hi k hk) (by rw [h.cb i hi k hk]; exact hc.symm)),
    fun i hi x hx hc => fq_at (h.que i hi x hx) (fun k hk => same k (h.xq i hi x hx k hk) (by rw [h.cq i hi x hx k hk]; exact hc.symm)), fun hc => ownsV_same h.map (same gm h.xm (by rw [h.cm]; exact hc.symm)), fun k hk => Nat.lt_of_lt_of_le (h.lt k hk) ht.size⟩
  simp [Value.ownBlock] at hk
  subst hk
  exact same _ h.xr (by rw [h.cr]; exact hc.symm)
theorem WlP.same (h : WlP w b X m e nB R f s g0 cap gm hb Xh sv DD col) (hs : ∀ k ∈ X, w'.heap[k]? = w.heap[k]?) : WlP w' b X m e nB R f s g0 cap gm hb Xh sv DD col where
  tab := (hs b h.xt).trans h.tab
  row := ownsRow_same h.row (fun k hk _ => hs k (by simp [Value.ownBlock] at hk; subst hk; exact h.xr))
  buc := fun i hi => ownsRow_same (h.buc i hi) (fun k hk _ => hs k (h.xb i hi k hk))
  que := fun i hi x hx => fq_at (h.que i hi x hx) (fun k hk => hs k (h.xq i hi x hx k hk))
  map := ownsV_same h.map (hs gm h.xm)
  siz := h.siz
  red := h.red
  xt := h.xt
  xr := h.xr
  xm := h.xm
  xh := h.xh
  xb := h.xb
  xq := h.xq
  lt := fun k hk => by
    have h1 := h.lt k hk
    have h2 := (hs k hk).trans (Array.getElem?_eq_getElem h1)
    exact (Array.getElem?_eq_some_iff.1 h2).1
  ct := h.ct
  cr := h.cr
  cm := h.cm
  ch := h.ch
  cb := h.cb
  cq := h.cq
theorem WlP.keep (h : WlP w b X m e nB R f s g0 cap gm hb Xh sv DD col) (ht : Turned Y w w') (hd : ∀ k ∈ X, k ∉ Y) : WlP w' b X m e nB R f s g0 cap gm hb Xh sv DD col :=
  h.same fun k hk => ht.block k (h.lt k hk) (hd k hk)
theorem WlP.keep0 (h : WlP w b X m e nB R f s g0 cap gm hb Xh sv DD col) (ht : Turned [] w w') : WlP w' b X m e nB R f s g0 cap gm hb Xh sv DD col := h.keep ht (by simp)

/-- What is due has turned. -/
theorem WlP.dueTurned (h : WlP w b X m e nB R f s g0 cap gm hb Xh sv DD col) {Xh' : List Nat} (ht : Turned Xh w w') (hn : Newer Xh w.heap.size Xh') (hlt : ∀ k ∈ Xh', k < w'.heap.size) :
    ∃ col', WlP w' b (X ++ Xh') m e nB R f s g0 cap gm hb Xh' sv DD col' ∧ Turned X w w' ∧ Newer X w.heap.size (X ++ Xh') := by
  obtain ⟨o1, o2, o3, o4, o5, o6⟩ := h.own (c := .due) ht (fun k hk _ => h.ch k hk)
  have hold : ∀ k, k < w.heap.size → (if k < w.heap.size then col k else Co.due) = col k := fun k hk => if_pos hk
  refine ⟨fun k => if k < w.heap.size then col k else .due, ⟨o1 (by simp), o2 (by simp), fun i hi => o3 i hi (by simp), fun i hi x hx => o4 i hi x hx (by simp), o5 (by simp), h.siz, h.red, by simp [h.xt], by simp [h.xr], by simp [h.xm], fun k hk => by simp [hk], fun i hi k hk => List.mem_append_left _ (h.xb i hi k hk), fun i hi x hx k hk => List.mem_append_left _ (h.xq i hi x hx k hk), ?_, ?_, ?_, ?_, ?_, ?_, ?_⟩, ht.mono (fun k hk => .inl (h.xh k hk)), ?_⟩
  · intro k hk
    rcases List.mem_append.1 hk with hk | hk
    · exact o6 k hk
    · exact hlt k hk
  · rw [hold _ (h.lt _ h.xt)]; exact h.ct
  · rw [hold _ (h.lt _ h.xr)]; exact h.cr
  · rw [hold _ (h.lt _ h.xm)]; exact h.cm
  · intro k hk
    rcases hn k hk with h1 | h1
    · rw [hold k (h.lt k (h.xh k h1))]; exact h.ch k h1
    · exact if_neg (by omega)
  · intro i hi k hk
    rw [hold k (h.lt k (h.xb i hi k hk))]; exact h.cb i hi k hk
  · intro i hi x hx k hk
    rw [hold k (h.lt k (h.xq i hi x hx k hk))]; exact h.cq i hi x hx k hk
  · intro k hk
    rcases List.mem_append.1 hk with hk | hk
    · exact .inl hk
    · rcases hn k hk with h1 | h1
      · exact .inl (h.xh k h1)
      · exact .inr h1
/-- The map has turned. -/
theorem WlP.mapTurned (h : WlP w b X m e nB R f s g0 cap gm hb Xh sv DD col) {DD' : DataW Value} {f' : Int → Option (Nat × Int)} (ht : Turned [gm] w w') (hm : w'.ownsMap Try.prog tN valElem gm (Maps.size DD') DD') (hr : ReadsV DD' (fun i => (f' i).map seatV)) :
    WlP w' b X m e nB R f' (Maps.size DD') g0 cap gm hb Xh sv DD' col ∧ Turned X w w' := by
  obtain ⟨o1, o2, o3, o4, o5, o6⟩ := h.own (c := .map) ht (fun k hk _ => by simp at hk; rw [hk]; exact h.cm)
  exact ⟨⟨o1 (by simp), o2 (by simp), fun i hi => o3 i hi (by simp), fun i hi x hx => o4 i hi x hx (by simp), hm, rfl, hr, h.xt, h.xr, h.xm, h.xh, h.xb, h.xq, o6, h.ct, h.cr, h.cm, h.ch, h.cb, h.cq⟩, ht.mono (fun k hk => .inl (by simp at hk; rw [hk]; exact h.xm))⟩

/-- One line is another one, in whichever bucket it is. -/
def updQ (R : Nat → List Ln) (q : Nat) (x' : Ln) : Nat → List Ln := fun i => (R i).map fun y => if y.qb = q then x' else y
theorem updQ_len (R : Nat → List Ln) (q : Nat) (x' : Ln) (i : Nat) : (updQ R q x' i).length = (R i).length := by simp [updQ]
theorem updQ_mem {R : Nat → List Ln} {q : Nat} {x' : Ln} {i : Nat} {y : Ln} (h : y ∈ updQ R q x' i) : (y = x' ∧ ∃ z ∈ R i, z.qb = q) ∨ (y ∈ R i ∧ y.qb ≠ q) := by
  obtain ⟨z, hz, rfl⟩ := List.mem_map.1 h
  by_cases e : z.qb = q
  · rw [if_pos e]
    exact .inl ⟨rfl, z, hz, e⟩
  · rw [if_neg e]
    exact .inr ⟨hz, e⟩
theorem updQ_cells {R : Nat → List Ln} {q : Nat} {x' : Ln} (hq : x'.qb = q) (i : Nat) (hk : ∀ y ∈ R i, y.qb = q → y.key = x'.key) : cellsOf encL (updQ R q x' i) = cellsOf encL (R i) := by
  unfold updQ cellsOf
  rw [List.flatMap_map]
  have : ∀ (L : List Ln), (∀ y ∈ L, y.qb = q → y.key = x'.key) → L.flatMap (fun a => encL (if a.qb = q then x' else a)) = L.flatMap encL := by
    intro L
    induction L with
    | nil => simp
    | cons y L ih =>
      intro h
      rw [List.flatMap_cons, List.flatMap_cons, ih (fun z hz => h z (List.mem_cons_of_mem _ hz))]
      by_cases e : y.qb = q
      · rw [if_pos e, encL, encL, h y (by simp) e, hq, e]
      · rw [if_neg e]
  exact this _ hk

/-- A queue has turned. -/
theorem WlP.queTurned (h : WlP w b X m e nB R f s g0 cap gm hb Xh sv DD col) {i : Nat} {x x' : Ln} (hi : i < nB) (hx : x ∈ R i) (hkey : x'.key = x.key) (hqb : x'.qb = x.qb) (hone : ∀ j, j < nB → ∀ y ∈ R j, y.qb = x.qb → y.key = x.key)
    (ht : Turned x.X w w') (hn : Newer x.X w.heap.size x'.X) (hq : Wq.FQ w' x'.qb x'.X e x'.l x'.P) :
    ∃ col', WlP w' b (X ++ x'.X) m e nB (updQ R x.qb x') f s g0 cap gm hb Xh sv DD col' ∧ Turned X w w' ∧ Newer X w.heap.size (X ++ x'.X) := by
  obtain ⟨o1, o2, o3, o4, o5, o6⟩ := h.own (c := .que x.qb) ht (fun k hk _ => h.cq i hi x hx k hk)
  have hold : ∀ k, k < w.heap.size → (if k < w.heap.size then col k else Co.que x.qb) = col k := fun k hk => if_pos hk
  refine ⟨fun k => if k < w.heap.size then col k else .que x.qb, ⟨o1 (by simp), o2 (by simp), fun j hj => ?_, fun j hj y hy => ?_, o5 (by simp), h.siz, h.red, by simp [h.xt], by simp [h.xr], by simp [h.xm], fun k hk => List.mem_append_left _ (h.xh k hk), fun j hj k hk => List.mem_append_left _ (h.xb j hj k hk), fun j hj y hy k hk => ?_, ?_, ?_, ?_, ?_, ?_, ?_, ?_⟩, ht.mono (fun k hk => .inl (h.xq i hi x hx k hk)), ?_⟩
  · rw [updQ_len, updQ_cells hqb j (fun y hy e => (hone j hj y hy e).trans hkey.symm)]
    exact o3 j hj (by simp)
  · rcases updQ_mem hy with ⟨rfl, _⟩ | ⟨hy, hne⟩
    · exact hq
    · exact o4 j hj y hy (by simp; exact fun e => hne e.symm)
  · rcases updQ_mem hy with ⟨rfl, _⟩ | ⟨hy, hne⟩
    · exact List.mem_append_right _ hk
    · exact List.mem_append_left _ (h.xq j hj y hy k hk)
  · intro k hk
    rcases List.mem_append.1 hk with hk | hk
    · exact o6 k hk
    · exact hq.lt k hk
  · rw [hold _ (h.lt _ h.xt)]; exact h.ct
  · rw [hold _ (h.lt _ h.xr)]; exact h.cr
  · rw [hold _ (h.lt _ h.xm)]; exact h.cm
  · intro k hk
    rw [hold k (h.lt k (h.xh k hk))]; exact h.ch k hk
  · intro j hj k hk
    rw [hold k (h.lt k (h.xb j hj k hk))]; exact h.cb j hj k hk
  · intro j hj y hy k hk
    rcases updQ_mem hy with ⟨rfl, _⟩ | ⟨hy, hne⟩
    · rw [hqb]
      rcases hn k hk with h1 | h1
      · rw [hold k (h.lt k (h.xq i hi x hx k h1))]; exact h.cq i hi x hx k h1
      · exact if_neg (by omega)
    · rw [hold k (h.lt k (h.xq j hj y hy k hk))]; exact h.cq j hj y hy k hk
  · intro k hk
    rcases List.mem_append.1 hk with hk | hk
    · exact .inl hk
    · rcases hn k hk with h1 | h1
      · exact .inl (h.xq i hi x hx k h1)
      · exact .inr h1
/-- A new queue, in no line as yet, is owned by itself. -/
theorem WlP.queNew (h : WlP w b X m e nB R f s g0 cap gm hb Xh sv DD col) {q : Nat} {Xq : List Nat} {l : Int} {P : List (Pl Wt)} (ht : Turned [] w w') (hq : Wq.FQ w' q Xq e l P) (hn : ∀ k ∈ Xq, w.heap.size ≤ k) :
    ∃ col', WlP w' b (X ++ Xq) m e nB R f s g0 cap gm hb Xh sv DD col' ∧ (∀ k ∈ Xq, col' k = .que q) ∧ Newer X w.heap.size (X ++ Xq) ∧ ∀ j, j < nB → ∀ y ∈ R j, y.qb ≠ q := by
  have h' := h.keep0 ht
  have hold : ∀ k, k < w.heap.size → (if k < w.heap.size then col k else Co.que q) = col k := fun k hk => if_pos hk
  refine ⟨fun k => if k < w.heap.size then col k else .que q, ⟨h'.tab, h'.row, h'.buc, h'.que, h'.map, h.siz, h.red, by simp [h.xt], by simp [h.xr], by simp [h.xm], fun k hk => List.mem_append_left _ (h.xh k hk), fun j hj k hk => List.mem_append_left _ (h.xb j hj k hk), fun j hj y hy k hk => List.mem_append_left _ (h.xq j hj y hy k hk), ?_, ?_, ?_, ?_, ?_, ?_, ?_⟩, fun k hk => if_neg (by have := hn k hk; omega), ?_, fun j hj y hy e => ?_⟩
  · intro k hk
    rcases List.mem_append.1 hk with hk | hk
    · exact h'.lt k hk
    · exact hq.lt k hk
  · rw [hold _ (h.lt _ h.xt)]; exact h.ct
  · rw [hold _ (h.lt _ h.xr)]; exact h.cr
  · rw [hold _ (h.lt _ h.xm)]; exact h.cm
  · intro k hk
    rw [hold k (h.lt k (h.xh k hk))]; exact h.ch k hk
  · intro j hj k hk
    rw [hold k (h.lt k (h.xb j hj k hk))]; exact h.cb j hj k hk
  · intro j hj y hy k hk
    rw [hold k (h.lt k (h.xq j hj y hy k hk))]; exact h.cq j hj y hy k hk
  · intro k hk
    rcases List.mem_append.1 hk with hk | hk
    · exact .inl hk
    · exact .inr (hn k hk)
  · have h1 := (h.que j hj y hy).lt _ (h.que j hj y hy).head
    rw [e] at h1
    have := hn q hq.head
    omega
/-- One bucket's lines. -/
def updR (R : Nat → List Ln) (i : Nat) (L : List Ln) : Nat → List Ln := fun j => if j = i then L else R j
theorem updR_same (R : Nat → List Ln) (i : Nat) (L : List Ln) : updR R i L i = L := by simp [updR]
theorem updR_other {R : Nat → List Ln} {i j : Nat} {L : List Ln} (h : j ≠ i) : updR R i L j = R j := by simp [updR, h]
theorem range_set (sv : Nat → Value) (nB i : Nat) (v : Value) : ((List.range nB).map sv).set i v = (List.range nB).map (fun j => if j = i then v else sv j) := by
  refine List.ext_getElem (by simp) fun k h1 h2 => ?_
  simp only [List.getElem_set, List.getElem_map, List.getElem_range]
  by_cases e : i = k
  · rw [if_pos e, if_pos e.symm]
  · rw [if_neg e, if_neg (fun h => e h.symm)]
/-- A bucket's row is another one, where it lay or new, and its slice is stored: w1: behind what made the row. -/
theorem WlP.bucTurned (h : WlP w b X m e nB R f s g0 cap gm hb Xh sv DD col) {i : Nat} (hi : i < nB) {w1 : World} {v' : Value} {L : List Ln} (ht : Turned (sv i).ownBlock.toList w w1) (hn : Newer (sv i).ownBlock.toList w.heap.size v'.ownBlock.toList) (hr : w1.ownsRow 0 tLn 2 v' L.length (cellsOf encL L))
    (hq : ∀ x ∈ L, Wq.FQ w1 x.qb x.X e x.l x.P ∧ (∀ k ∈ x.X, k ∈ X) ∧ ∀ k ∈ x.X, col k = .que x.qb) :
    ∃ col', WlP (w1.setCell ⟨g0, i, none⟩ v') b (X ++ v'.ownBlock.toList) m e nB (updR R i L) f s g0 cap gm hb Xh (fun j => if j = i then v' else sv j) DD col' ∧ Turned X w (w1.setCell ⟨g0, i, none⟩ v') ∧ Newer X w.heap.size (X ++ v'.ownBlock.toList) := by
  obtain ⟨o1, o2, o3, o4, o5, o6⟩ := h.own (c := .buc i) ht (fun k hk _ => h.cb i hi k hk)
  have hold : ∀ k, k < w.heap.size → (if k < w.heap.size then col k else Co.buc i) = col k := fun k hk => if_pos hk
  have tg : Turned [g0] w1 (w1.setCell ⟨g0, i, none⟩ v') := (Turned.refl [g0] w1).setCell (.inl (by simp)) _
  have ne : ∀ k ∈ X, col k ≠ .row → k ≠ g0 := fun k hk hc e => hc (by rw [e]; exact h.cr)
  have s1 : ∀ k ∈ X, col k ≠ .row → (w1.setCell ⟨g0, i, none⟩ v').heap[k]? = w1.heap[k]? := fun k hk hc => tg.block k (o6 k hk) (by simp; exact ne k hk hc)
  have vb : ∀ k ∈ v'.ownBlock.toList, k ≠ g0 := fun k hk e => by
    rcases hn k hk with h1 | h1
    · have := h.cb i hi k h1
      rw [e, h.cr] at this
      cases this
    · have := h.lt _ h.xr
      omega
  refine ⟨fun k => if k < w.heap.size then col k else .buc i, ⟨?_, ?_, fun j hj => ?_, fun j hj y hy => ?_, ?_, h.siz, h.red, by simp [h.xt], by simp [h.xr], by simp [h.xm], fun k hk => List.mem_append_left _ (h.xh k hk), fun j hj k hk => ?_, fun j hj y hy k hk => ?_, ?_, ?_, ?_, ?_, ?_, ?_, ?_⟩, ?_, ?_⟩
  · exact (s1 b h.xt (by rw [h.ct]; simp)).trans (o1 (by simp))
  · have h2 := ((o2 (by simp)).stored i v').1
    rw [range_set] at h2
    exact h2
  · by_cases e : j = i
    · subst e
      rw [updR_same, if_pos rfl]
      exact ownsRow_setCell_other hr (a := ⟨g0, j, none⟩) (fun e => vb g0 (by simp [e]) rfl) _
    · rw [updR_other e, if_neg e]
      refine ownsRow_setCell_other (o3 j hj (by simp; exact fun h => e h.symm)) (a := ⟨g0, i, none⟩) (fun e2 => ?_) _
      have := h.cb j hj g0 (by simp [e2])
      rw [h.cr] at this
      cases this
  · by_cases e : j = i
    · subst e
      rw [updR_same] at hy
      obtain ⟨q1, q2, q3⟩ := hq y hy
      exact fq_at q1 (fun k hk => s1 k (q2 k hk) (by rw [q3 k hk]; simp))
    · rw [updR_other e] at hy
      exact fq_at (o4 j hj y hy (by simp)) (fun k hk => s1 k (h.xq j hj y hy k hk) (by rw [h.cq j hj y hy k hk]; simp))
  · exact ownsV_same (o5 (by simp)) (s1 gm h.xm (by rw [h.cm]; simp))
  · by_cases e : j = i
    · subst e
      rw [if_pos rfl] at hk
      exact List.mem_append_right _ hk
    · rw [if_neg e] at hk
      exact List.mem_append_left _ (h.xb j hj k hk)
  · by_cases e : j = i
    · subst e
      rw [updR_same] at hy
      exact List.mem_append_left _ ((hq y hy).2.1 k hk)
    · rw [updR_other e] at hy
      exact List.mem_append_left _ (h.xq j hj y hy k hk)
  · intro k hk
    have hsz : (w1.setCell ⟨g0, i, none⟩ v').heap.size = w1.heap.size := by simp [World.setCell]
    rw [hsz]
    rcases List.mem_append.1 hk with hk | hk
    · exact o6 k hk
    · exact ownsRow_lt hr k hk
  · rw [hold _ (h.lt _ h.xt)]; exact h.ct
  · rw [hold _ (h.lt _ h.xr)]; exact h.cr
  · rw [hold _ (h.lt _ h.xm)]; exact h.cm
  · intro k hk
    rw [hold k (h.lt k (h.xh k hk))]; exact h.ch k hk
  · intro j hj k hk
    by_cases e : j = i
    · subst e
      rw [if_pos rfl] at hk
      rcases hn k hk with h1 | h1
      · rw [hold k (h.lt k (h.xb j hj k h1))]; exact h.cb j hj k h1
      · exact if_neg (by omega)
    · rw [if_neg e] at hk
      rw [hold k (h.lt k (h.xb j hj k hk))]; exact h.cb j hj k hk
  · intro j hj y hy k hk
    by_cases e : j = i
    · subst e
      rw [updR_same] at hy
      rw [hold k (h.lt k ((hq y hy).2.1 k hk))]; exact (hq y hy).2.2 k hk
    · rw [updR_other e] at hy
      rw [hold k (h.lt k (h.xq j hj y hy k hk))]; exact h.cq j hj y hy k hk
  · exact (ht.mono (fun k hk => .inl (h.xb i hi k hk))).setCell (.inl h.xr) _
  · intro k hk
    rcases List.mem_append.1 hk with hk | hk
    · exact .inl hk
    · rcases hn k hk with h1 | h1
      · exact .inl (h.xb i hi k h1)
      · exact .inr h1
end
end Go.Proofs.Ytiffgkmmibhklaa
