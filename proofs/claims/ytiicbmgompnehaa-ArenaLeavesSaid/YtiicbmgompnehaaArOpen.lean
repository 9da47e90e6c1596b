/-
  (*Arena[int]).open.
-/
import Derived.Test.YtiicbmgompnehaaArHas
import Derived.Test.YtiicbmgompnehaaArApp
namespace Go.Proofs.Ytiicbmgompnehaa
open Go.RowKit

theorem infoSlotI : (Try.prog.info? 65).map (fun i => (i.zero, i.size, i.bytes)) = some (some (.agg #[.int .i64 0, .bool false]), 2, 16) := by kernel_rfl
theorem infoInt : (Try.prog.info? 3).map (fun i => (i.zero, i.size, i.bytes)) = some (some (.int .i64 0), 1, 8) := by kernel_rfl
theorem infoBool : (Try.prog.info? 4).map (fun i => (i.zero, i.size, i.bytes)) = some (some (.bool false), 1, 1) := by kernel_rfl

theorem two_new (w : World) (x y : Value) (t : TypeId) : ∀ j u, [x, y][j]? = some u → (w.alloc (.cells #[x, y] t)).cell? ((⟨w.heap.size, 0, none⟩ : Addr).add j) = some u := by
  intro j u hj
  have hh := heap_alloc_new w (.cells #[x, y] t)
  rw [Addr.add_lit]
  simp only [World.cell?, hh]
  match j, hj with
  | 0, hj => simpa using hj
  | 1, hj => simpa using hj
theorem one_new (w : World) (x : Value) (t : TypeId) : ∀ j u, [x][j]? = some u → (w.alloc (.cells #[x] t)).cell? ((⟨w.heap.size, 0, none⟩ : Addr).add j) = some u := by
  intro j u hj
  have hh := heap_alloc_new w (.cells #[x] t)
  rw [Addr.add_lit]
  simp only [World.cell?, hh]
  match j, hj with
  | 0, hj => simpa using hj

theorem one_new_at (w : World) (B : Nat) (hB : w.heap.size = B) (x : Value) (t : TypeId) : ∀ j u, [x][j]? = some u → (w.alloc (.cells #[x] t)).cell? ((⟨B, 0, none⟩ : Addr).add j) = some u := by
  subst hB
  exact one_new w x t

set_option maxHeartbeats 400000 in
theorem open_new {w : World} {b : Nat} {X : List Nat} {m : Int} {S : List (Int × Bool)} (h : ArI w b X m S []) (hS : S.length ≤ 1000000) :
    Calls Try.prog 29 #[.pointer (some ⟨b, 0, none⟩)] w fun e w' => e = .returned (.int .i64 (S.length : Int)) ∧ ∃ X', ArI w' b X' m (S ++ [(0, false)]) [] ∧ Turned X w w' ∧ Newer X w.heap.size X' := by
  obtain ⟨sv, fv, h1, h2, h3, rfl⟩ := h
  obtain ⟨_, c1, c2, hf⟩ := cells3 h1
  obtain ⟨a, cap, hsv, _, _⟩ := ownsRow_shape h2
  obtain ⟨a', cap', hfv, _, _⟩ := ownsRow_shape h3
  obtain ⟨i0, hi, hz0, hz1, hz2⟩ := info_parts infoSlotI
  have hf1 := hf 1
  have hf2 := hf 2
  have H1 := Lib.hid h1
  have H2 := Lib.hid h2
  have H3 := Lib.hid h3
  have HS := Lib.hid hsv
  have hsl := hS
  rw [hsv] at c1
  rw [hfv] at c2
  clear h1 h2 h3 hf hsv hfv hS
  go_enter Try.func29, Try.ntmps29
  go_wp2_with (at_builtin; refine wpList_append_at _ rfl _ _ 61 rfl 65 i0 (.agg #[.int .i64 0, .bool false]) 2 16 Try.underlying61 hi hz0 hz1 hz2 rfl (by decide) _ S.length (slots encI S) rfl (by rw [← HS.out]; exact H2.out.alloc _) ⟨w.heap.size, 0, none⟩ 1 1 [.int .i64 0, .bool false] rfl (by decide) rfl (two_new _ _ _ _) (by intro u hu; simp at hu; rcases hu with rfl | rfl <;> rfl) (by unfold maxLen; omega) (by omega) ?_)
  intro g cp w1 hown hgrow hw _ _
  rw [← HS.out] at hgrow hw
  obtain ⟨hb1, _⟩ := ArAt.appended1 (k := 1) H1.out H2.out H3.out (by decide) (by decide) _ hgrow
  have R := ArAt.appended2 (k := 1) H1.out H2.out H3.out (by decide) (by decide) (by decide) _ hgrow (n := S.length + 1) (T := S ++ [(0, false)]) (by simp) (by rw [slots_append]; exact hown) (by simpa using hw)
  obtain ⟨_, d1, _, hf⟩ := cells3 hb1
  have e1 := hf 1
  have RR := Lib.hid R
  clear hown hgrow hw R hb1 hf c1 c2 hf1 hf2
  go_wp2
  go_ret
  exact ⟨rfl, RR.out⟩
theorem places_snoc (F : List Nat) (f : Nat) : places (F ++ [f]) = places F ++ [.int .i64 (f : Int)] := by simp [places]

section
variable {α : Type} {tA tS : TypeId} {enc : α → List Value} {k : Nat} {w : World} {b : Nat} {m : Int} {S : List (α × Bool)} {F : List Nat} {sv : Value}
/-- Behind 'a.free = a.free[:last]'. -/
theorem ArAt.popped {f g cap : Nat} (h1 : w.heap[b]? = some (.cells #[.int .i64 m, sv, .slice (some ⟨g, 0, none⟩) (F.length + 1) cap] tA (0, 0))) (h2 : w.ownsRow 0 tS (k + 1) sv S.length (slots enc S))
    (h3 : w.ownsRow 0 3 1 (.slice (some ⟨g, 0, none⟩) (F.length + 1) cap) (F.length + 1) (places (F ++ [f]))) (n1 : tA ≠ tS) (n2 : tA ≠ 3) :
    ArAt tA tS enc k (w.setCell ⟨b, 2, none⟩ (.slice (some ⟨g, 0, none⟩) F.length cap)) b (b :: (sv.ownBlock.toList ++ [g])) m S F ∧ Turned (b :: (sv.ownBlock.toList ++ [g])) w (w.setCell ⟨b, 2, none⟩ (.slice (some ⟨g, 0, none⟩) F.length cap)) := by
  have h4 := ownsRow_cut h3 (k := F.length) (by omega)
  rw [places_snoc, Nat.mul_one, List.take_left' (by rw [places_len])] at h4
  refine ⟨⟨sv, .slice (some ⟨g, 0, none⟩) F.length cap, ?_, ownsRow_setCell_other h2 (a := ⟨b, 2, none⟩) (fun e => block_off h1 h2 n1 e.symm) _, ownsRow_setCell_other h4 (a := ⟨b, 2, none⟩) (fun e => block_off h1 h4 n2 e.symm) _, rfl⟩, ?_⟩
  · rw [heap_setCell_same w b 2 _ _ _ h1]
    rfl
  · exact (Turned.refl _ w).setCell (.inl (by simp)) _
end

set_option maxHeartbeats 400000 in
theorem open_old {w : World} {b : Nat} {X : List Nat} {m : Int} {S : List (Int × Bool)} {F : List Nat} {f : Nat} (h : ArI w b X m S (F ++ [f])) (hF : F.length ≤ 1000000) :
    Calls Try.prog 29 #[.pointer (some ⟨b, 0, none⟩)] w fun e w' => e = .returned (.int .i64 (f : Int)) ∧ ArI w' b X m S F ∧ Turned X w w' := by
  obtain ⟨sv, fv, h1, h2, h3, rfl⟩ := h
  have hl : (F ++ [f]).length = F.length + 1 := by simp
  rw [hl] at h3
  obtain ⟨g, cap, rfl, hc, hm⟩ := ownsRow_pos h3 (by omega)
  obtain ⟨_, c1, c2, hf⟩ := cells3 h1
  have R := ArAt.popped (k := 1) h1 h2 h3 (by decide) (by decide)
  have hf2 := hf 2
  have hcell : w.cell? ⟨g, F.length, none⟩ = some (.int .i64 (f : Int)) := by
    rw [h3.cellAt _ (by omega), places_snoc, List.getElem?_append_right (by rw [places_len]; omega), places_len]
    simp
  have i0 : (0 : Int) ≤ (F.length : Int) := by omega
  have i1 : (F.length : Int) < (F.length : Int) + 1 := by omega
  have i2 : F.length ≤ cap := by omega
  have RR := Lib.hid R
  clear h1 h2 h3 hf R hl
  go_enter Try.func29, Try.ntmps29
  go_wp2
  go_ret
  exact ⟨rfl, RR.out⟩
end Go.Proofs.Ytiicbmgompnehaa
