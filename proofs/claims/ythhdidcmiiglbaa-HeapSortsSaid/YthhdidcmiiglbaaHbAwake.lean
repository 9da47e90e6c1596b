/-
  awake: what is due.
-/
import Derived.Test.YthhdidcmiiglbaaHbDueS
import Derived.Shelf.Abstract
namespace Go.Proofs.Ythhdidcmiiglbaa
open Go.RowKit Go.Maps Go.Shelf
attribute [local go_sem] Oper.semAt_some

def stA : ByteArray := ⟨#[97]⟩
def stB : ByteArray := ⟨#[98]⟩
/-- What lay in w lies so still. -/
theorem Turned.mild {X Y : List Nat} {N : Nat} {w A B : World} (h : Turned Y w A) (m : Mild X N A B) (hN : w.heap.size ≤ N) (hX : ∀ k ∈ X, w.heap.size ≤ k) : Turned Y w B :=
  ⟨m.os.trans h.os, m.tape.trans h.tape, m.output.trans h.output, Nat.le_trans h.size m.size, fun k hk hy => by
    have h1 := h.block k hk hy
    have h2 : A.heap[k]? = some (A.heap[k]'(by have := h.size; omega)) := Array.getElem?_eq_getElem _
    rw [m.same k _ h2 (fun hx => by have := hX k hx; omega) (.inl (by omega)), ← h2, h1]⟩
theorem Mild.cells {X : List Nat} {N k : Nat} {A B : World} {cs : Array Value} {t : TypeId} {f : Nat × Nat} (m : Mild X N A B) (h : A.heap[k]? = some (.cells cs t f)) (hx : k ∉ X) : B.heap[k]? = some (.cells cs t f) := m.same k _ h hx (.inr rfl)

theorem Turned.trans' {X Y : List Nat} {a b c : World} (h : Turned X a b) (g : Turned Y b c) (hs : ∀ k ∈ Y, a.heap.size ≤ k) : Turned X a c := h.trans g (fun k hk => .inr (hs k hk))
theorem Turned.put {X : List Nat} {a b : World} (h : Turned X a b) {l : Nat} (hl : a.heap.size ≤ l) (o : Obj) : Turned X a (b.putObj l o) :=
  h.grown (grownBy_putObj' b l o) (fun k e => .inr (by cases e; exact hl))
theorem bool_result {fn : Func} {p : Tmp} (hf : fn.results = #[.cell p 4]) {tmps : Array Value} {w : World} {B : Nat} {v : Value} (hp : tmps.getD p undef = .pointer (some ⟨B, 0, none⟩)) (h : w.heap[B]? = some (.cells #[v] 4 (0, 0))) :
    (results fn tmps).run Try.prog w = .ok v w := by
  have h0 := St.one_cell' h
  have hp' : tmps[p]?.getD undef = .pointer (some ⟨B, 0, none⟩) := by simpa using hp
  simp [results, hf, hp', loadVar, go_sem, h0, asAddr, Sem.run_bind, Result.andThen]
/-- What stands while awake runs: the heap is new, what lay in w lies so still, the answer's cell is there. -/
def AwS (w W : World) (b : Nat) (X : List Nat) (m : Int) (D : List (Hm ByteArray)) : Prop :=
  St.HpC W b X m D ∧ (∀ k ∈ X, w.heap.size < k) ∧ Turned [] w W ∧ W.heap[w.heap.size]? = some (.cells #[.bool false] 4 (0, 0))
theorem AwS.step {w W W' : World} {b : Nat} {X X' : List Nat} {m : Int} {D D' : List (Hm ByteArray)} (h : AwS w W b X m D) (h' : St.HpC W' b X' m D') (t : Turned X W W') (n : Newer X W.heap.size X') : AwS w W' b X' m D' := by
  obtain ⟨h1, h2, h3, h4⟩ := h
  refine ⟨h', fun k hk => ?_, h3.trans' t (fun k hk => by have := h2 k hk; omega), t.same h4 (fun hx => by have := h2 _ hx; omega)⟩
  rcases n k hk with h | h
  · exact h2 k h
  · have := lt_of_block h4
    omega
theorem AwS.later {w W W' : World} {b : Nat} {X : List Nat} {m : Int} {D : List (Hm ByteArray)} (h : AwS w W b X m D) (t : Turned [] W W') : AwS w W' b X m D :=
  ⟨h.1.keep t (by simp), h.2.1, h.2.2.1.j t, t.same h.2.2.2 (by simp)⟩

theorem Pops.due {α : Type} {u : Int} {D xs D' : List (Hm α)} (h : Pops u D xs D') : ∀ z ∈ xs, z.1 ≤ u := by
  induction h with
  | none => simp
  | more _ _ _ h4 ih =>
    intro z hz
    rcases List.mem_append.1 hz with hz | hz
    · exact ih z hz
    · simp at hz
      rw [hz]
      exact h4
/-- Those that are due come off, no others. -/
theorem Pops.filter {α : Type} {u : Int} {D xs D' : List (Hm α)} (h : Pops u D xs D') : (D.filter fun z => decide (z.1 ≤ u)).Perm (xs ++ D'.filter fun z => decide (z.1 ≤ u)) := by
  have h1 := h.perm.filter (fun z => decide (z.1 ≤ u))
  have e : (xs.filter fun z => decide (z.1 ≤ u)) = xs := List.filter_eq_self.2 (fun z hz => by simpa using h.due z hz)
  rw [List.filter_append, e] at h1
  exact h1
abbrev dA : List (Hm ByteArray) := [] ++ [(5, 1, stA)] ++ [(3, 2, stB)]
theorem dA_filter : (dA.filter fun z => decide (z.1 ≤ 4)) = [(3, 2, stB)] := by simp [dA]
theorem dA_one {pre D' : List (Hm ByteArray)} {x : Hm ByteArray} (h : Pops 4 dA (pre ++ [x]) D') : pre = [] ∧ x = (3, 2, stB) := by
  have h1 := h.filter
  rw [dA_filter] at h1
  have h2 := h1.length_eq
  simp at h2
  have h3 : pre = [] := List.eq_nil_of_length_eq_zero (by omega)
  refine ⟨h3, ?_⟩
  have h4 := h1.mem_iff.2 (List.mem_append_left _ (List.mem_append_right _ (List.mem_singleton.2 rfl)))
  simpa using h4
theorem dA_done {xs D' : List (Hm ByteArray)} (h : Pops 4 dA xs D') (ha : ∀ y ∈ D', 4 < y.1) : xs.length = 1 ∧ D'.Perm [(5, 1, stA)] := by
  have h1 := h.filter
  rw [dA_filter, List.filter_eq_nil_iff.2 (fun z hz => by have := ha z hz; simp; omega), List.append_nil] at h1
  have h2 : xs = [(3, 2, stB)] := List.perm_singleton.1 h1.symm
  subst h2
  refine ⟨rfl, ?_⟩
  have h3 := h.perm
  have h4 : dA.Perm ((3, 2, stB) :: [(5, 1, stA)]) := List.Perm.swap _ _ _
  exact (h4.symm.trans h3).cons_inv.symm
/-- What stands while its loop runs, beside the count. -/
def AwI (w : World) (P : Nat) (W : World) : Prop := Turned [] w W ∧ W.heap[w.heap.size]? = some (.cells #[.bool false] 4 (0, 0)) ∧ P + 2 ≤ W.heap.size

set_option maxRecDepth 100000 in
set_option maxHeartbeats 4000000 in
theorem awake_any (w : World) : Calls Try.prog 5 #[] w fun e w' => e = .returned (.bool true) ∧ Turned [] w w' := by
  refine callsIn_wide.1 (?_ : CallsIn Fence.wide 20 _ _ _ _ _)
  refine callsIn_of_wp_marks Try.func5 rfl trivial ?_ rfl
  simp only [Try.ntmps5, List.size_toArray, List.length_nil, Nat.reduceSub, Array.replicate_succ, Array.replicate_zero, List.push_toArray, List.append_toArray, List.nil_append, List.cons_append]
  refine wpIn_wide.2 ?_
  go_wp2_with fail
  obtain ⟨W0, hW0⟩ : ∃ W0, w.alloc (.cells #[.bool false] 4) = W0 := ⟨_, rfl⟩
  have r0 : W0.heap[w.heap.size]? = some (.cells #[.bool false] 4 (0, 0)) := hW0 ▸ heap_alloc_new w _
  have t0 : Turned [] w W0 := hW0 ▸ (Turned.refl [] w).alloc _
  have z0 : W0.heap.size = w.heap.size + 1 := by rw [← hW0]; simp
  rw [hW0]
  refine (St.new_any 5 _).mono ?_
  rintro e W1 ⟨rfl, h1, t1⟩
  have A1 : AwS w W1 (W0.heap.size + 1) [W0.heap.size, W0.heap.size + 1] 5 [] := ⟨h1, fun k hk => by simp at hk; omega, t0.j t1, t1.same r0 (by simp)⟩
  have H1 := Lib.hid A1
  obtain ⟨b, hb⟩ : ∃ b, W0.heap.size + 1 = b := ⟨_, rfl⟩
  rw [hb] at H1 ⊢
  clear h1 t1 r0 t0 hW0 z0 hb A1
  go_wp2_with fail
  refine (St.push_yes H1.out.1 (5, 1, stA) (by decide) (by simp) (by decide) (by simp)).mono ?_
  rintro e W2 ⟨rfl, X2, h2, t2, n2⟩
  have H2 := Lib.hid (H1.out.step h2 t2 n2)
  clear h2 t2 n2
  go_wp2_with fail
  refine (St.push_yes H2.out.1 (3, 2, stB) (by decide) (by simp) (by decide) (by simp)).mono ?_
  rintro e W3 ⟨rfl, X3, h3, t3, n3⟩
  have H3 := Lib.hid (H2.out.step h3 t3 n3)
  clear h3 t3 n3
  go_wp2_with fail
  refine (St.len_any H3.out.1).mono ?_
  rintro e W4 ⟨rfl, rfl⟩
  go_wp2_with fail
  obtain ⟨C, hC⟩ : ∃ C, W3.heap.size = C := ⟨_, rfl⟩
  obtain ⟨W4, hW4⟩ : ∃ W4, W3.alloc (.cells #[.int .i64 0] 3) = W4 := ⟨_, rfl⟩
  have t34 : Turned [] W3 W4 := hW4 ▸ (Turned.refl [] W3).alloc _
  have c4 : W4.heap[C]? = some (.cells #[.int .i64 0] 3 (0, 0)) := by rw [← hC, ← hW4]; exact heap_alloc_new W3 _
  have H4 := Lib.hid (H3.out.later t34)
  have hCX : C ∉ X3 := fun hx => by have := H3.out.1.lt _ hx; omega
  have hCw : w.heap.size < C := by have := lt_of_block H3.out.2.2.2; omega
  rw [hW4, hC]
  clear hW4 t34 hC
  refine (St.due_any _ 4 W4).mono ?_
  rintro e W6 ⟨rfl, hW6⟩
  obtain ⟨P, hP⟩ : ∃ P, W4.heap.size = P := ⟨_, rfl⟩
  rw [hP]
  have t46 : Turned [] W4 W6 := hW6 ▸ ((Turned.refl [] W4).alloc _).alloc _
  have z6 : W6.heap.size = P + 2 := by rw [hW6]; simp; omega
  have p0 : W6.heap[P]? = some (.cells #[.pointer (some ⟨b, 0, none⟩)] St.tPh (0, 0)) := by
    rw [hW6, ← hP]
    exact (Below.heap_alloc _ _ _ (by simp)).trans (heap_alloc_new W4 _)
  have p1 : W6.heap[P + 1]? = some (.cells #[.int .u64 4] 28 (0, 0)) := by
    rw [hW6, ← hP]
    have := heap_alloc_new (W4.alloc (.cells #[.pointer (some ⟨b, 0, none⟩)] St.tPh)) (.cells #[.int .u64 4] 28)
    simp only [World.size_alloc] at this
    exact this
  have c6 := t46.same c4 (by simp)
  have H6 := Lib.hid (H4.out.later t46)
  have hPX : P ∉ X3 ∧ P + 1 ∉ X3 := ⟨fun hx => by have := H4.out.1.lt _ hx; omega, fun hx => by have := H4.out.1.lt _ hx; omega⟩
  have hPw : w.heap.size ≤ P := by rw [← hP]; exact H4.out.2.2.1.size
  have hCP : C < P := by rw [← hP]; exact lt_of_block c4
  have C6 := Lib.hid c6
  have P0 := Lib.hid p0
  have P1 := Lib.hid p1
  have ZX := Lib.hid (fun k (hk : k ∈ X3) => H6.out.1.lt k hk)
  clear c4 c6 p0 p1 t46 hW6
  go_wp2_with fail
  refine (wpIn_wide (n := 20)).1 ?_
  refine range_turns_boxed rfl (by omega) (gf := 39) (lb := #[.pointer (some ⟨P, 0, none⟩), .pointer (some ⟨P + 1, 0, none⟩)]) rfl trivial (enters_of Try.func39 (by kernel_rfl) rfl)
    (X := X3) (Y := P :: (P + 1) :: X3) ZX.out (by intro k hk; simp at hk; rcases hk with rfl | rfl | hk; omega; omega; exact ZX.out k hk)
    (St.due1_seq (by omega) H6.out.1 P0.out P1.out hPX.1 hPX.2) (fun _ => rfl) ?hS ?hSx
    (fun pre W => AwI w P W ∧ (W.heap[C]? = some (.cells #[.int .i64 (pre.length : Nat)] 3 (0, 0))))
    (fun _ _ _ => False) ?hI (fun _ _ _ _ h _ => h.elim) ?h0 ?hsz St.tKy (fun x => #[.int .u64 x.1, .int .i64 x.2.1]) ?a1 ?assign ?body ?done ?stop
  case hS =>
    rintro xs A B ⟨D', h1, h2, h3⟩ hs
    exact ⟨D', h1, h2.at_ (fun k hk => hs k (by simp [hk])), h3⟩
  case hSx =>
    rintro xs A B ⟨D', h1, h2⟩ hs
    exact ⟨D', h1, h2.at_ (fun k hk => hs k (by simp [hk]))⟩
  case hI =>
    rintro xs A B ⟨⟨h1, h2, h3⟩, h4⟩ m
    rw [z6] at m
    exact ⟨⟨h1.mild m (by omega) (fun k hk => by have := H6.out.2.1 k hk; omega), m.cells h2 (fun hx => by have := H6.out.2.1 _ hx; omega), Nat.le_trans h3 m.size⟩, m.cells h4 hCX⟩
  case h0 => exact ⟨⟨H6.out.2.2.1, H6.out.2.2.2, by omega⟩, C6.out⟩
  case hsz =>
    rintro xs W ⟨⟨_, _, h3⟩, _⟩
    omega
  case assign =>
    intro l x Bk W K hBk hK
    gi_wp2
    exact hK
  case body =>
    rintro l pre x Bk W hk hbk ⟨hI, hc⟩ ⟨D', hp⟩
    obtain ⟨rfl, rfl⟩ := dA_one hp
    obtain ⟨k0, k1, _⟩ := two_cells hk
    have c0 := St.one_cell' hc
    have cf := frozen_of_row W C 0 _ _ hc
    have eb : stB.toList = [98] := by kernel_rfl
    have HI := Lib.hid hI
    have HC := Lib.hid hc
    simp only [List.length_nil] at c0
    clear hp hk hI hc
    gi_wp2
    refine ⟨(KeepsOthers.setCell _ _ _).from _, fun k hk => Below.heap_setCell _ _ _ _ (fun e => ?_), ⟨HI.out.1.setCell (.inr (by simp; omega)) _, (Below.heap_setCell _ _ _ _ (by simp; omega)).trans HI.out.2.1, by simp [World.setCell]; exact HI.out.2.2⟩, ?_⟩
    · simp only at e
      subst e
      simp at hk
      rcases hk with rfl | rfl | hk
      · omega
      · omega
      · exact hCX hk
    · rw [heap_setCell_same _ _ _ _ _ _ HC.out]
      rfl
  case done =>
    rintro D xs W hD ⟨D', hp, hh, ha⟩ ⟨hI, hc⟩ hK
    obtain ⟨hx, hd⟩ := dA_done hp ha
    have c0 := St.one_cell' hc
    rw [hx] at c0
    have HH := Lib.hid (hh.perm hd)
    have HI := Lib.hid hI
    have HKK := Lib.hid hK
    clear hp ha hc hh hd hI hK
    go_wp2_with fail
    refine (St.len_any HH.out).mono ?_
    rintro e W8 ⟨rfl, rfl⟩
    go_wp2_with fail
    refine (show Calls Try.prog 28 #[.pointer (some ⟨b, 0, none⟩), .int .i64 1, .int .u64 9] W _ from St.move_some HH.out (k := 0) (by simp) 9).mono ?_
    rintro e W9 ⟨rfl, h9, t9⟩
    have nX : ∀ k, k ∈ X3 → w.heap.size < k ∧ k < P + 2 := fun k hk => ⟨H6.out.2.1 k hk, by rw [← z6]; exact ZX.out k hk⟩
    have R9 := t9.same HI.out.2.1 (fun hx => by have := nX _ hx; omega)
    have K9 := t9.same HKK.out (fun hx => by have := nX _ hx; omega)
    have T9 : Turned [] w W9 := HI.out.1.trans' t9 (fun k hk => by have := nX k hk; omega)
    have r9 := St.one_cell' R9
    have rf := frozen_of_row W9 w.heap.size 0 _ _ R9
    have HR9 := Lib.hid R9
    have HK9 := Lib.hid K9
    have HT9 := Lib.hid T9
    clear h9 t9 R9 K9 T9
    go_wp2
    have hDr : D ≠ w.heap.size := by omega
    have hkd : (W9.setCell ⟨w.heap.size, 0, none⟩ (.bool true)).heap[D]? = some (.deferred (some [])) := (Below.heap_setCell _ _ _ _ (by simpa using hDr)).trans HK9.out
    refine ⟨by simp, .inl ⟨_, _, rfl, run_takeDeferred hkd, ?_⟩⟩
    have hr : ((W9.setCell ⟨w.heap.size, 0, none⟩ (.bool true)).putObj D (.deferred none)).heap[w.heap.size]? = some (.cells #[.bool true] 4 (0, 0)) := by
      refine (World.putObj_heap_other (Ne.symm hDr)).trans ?_
      rw [heap_setCell_same _ _ _ _ _ _ HR9.out]
      rfl
    exact ⟨_, bool_result rfl rfl hr, rfl, (HT9.out.setCell (.inr (by simp)) _).put (by omega) _⟩
  case stop =>
    rintro D c xs W _ _ h _
    exact h.elim
end Go.Proofs.Ythhdidcmiiglbaa
