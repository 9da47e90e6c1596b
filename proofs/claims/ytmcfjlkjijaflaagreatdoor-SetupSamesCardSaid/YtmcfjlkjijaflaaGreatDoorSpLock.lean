/-
  The program's line of a lock. (Made by gen_splock.py.)
-/
import Derived.Test.YtmcfjlkjijaflaaGreatDoorGAM
import Derived.Test.YtmcfjlkjijaflaaGreatDoorGAA
namespace Go.Proofs.YtmcfjlkjijaflaaGreatDoor
open Go.RowKit

def lkN (sh : Bool) : List Nm := if sh then [(⟨#[115, 108, 105, 99, 101]⟩, 16, 1), (⟨#[99, 114, 105, 116]⟩, 32, 2), (⟨#[114, 101, 97, 100]⟩, 16, 3), (⟨#[119, 114, 105, 116, 101]⟩, 16, 4)] else [(⟨#[115, 108, 105, 99, 101]⟩, 16, 1), (⟨#[99, 114, 105, 116]⟩, 32, 2)]
def lkF (sh : Bool) : ByteArray := if sh then ⟨#[115, 104, 97, 114, 101, 100]⟩ else ⟨#[108, 111, 99, 107]⟩
theorem number_info : (Tryz.prog.info? 102).map (fun i => (i.zero, i.size, i.bytes)) = some (some (.agg #[.string ⟨#[]⟩, .int .i64 0, .int .i64 0, .pointer none]), 4, 40) := by kernel_rfl
/-- What lockLine holds behind its line is made: blocks n of numbers, l of the line. -/
structure LkM (w V : World) (T n l : Nat) (sh : Bool) : Prop where
  res : V.heap[w.heap.size]? = some (.cells #[.string ⟨#[]⟩, .slice none 0 0] 58 (0, 0))
  spn : V.heap[w.heap.size + 1]? = some (.cells #[.int .i64 1, .int .i64 16] 100 (0, 0))
  num : V.heap[n]? = some (.cells #[.string ⟨#[115, 108, 105, 99, 101]⟩, .int .i64 1, .int .i64 16, .pointer (some ⟨T, 1, none⟩), .string ⟨#[99, 114, 105, 116]⟩, .int .i64 1, .int .i64 32, .pointer (some ⟨T, 2, none⟩)] 102 (0, 0))
  lin : V.heap[l]? = some (.cells #[.string ⟨#[108, 111, 99, 107]⟩, .slice (some ⟨n, 0, none⟩) 2 2] 58 (0, 0))
  lck : V.cell? ⟨T, 0, none⟩ = some (.bool sh)
  bel : Below w.heap.size w V
  hn : w.heap.size + 1 < n
  hl : w.heap.size + 1 < l
  ne : n ≠ l
theorem LkM.a (w : World) {T : Nat} {sh : Bool} (hT : T < w.heap.size) (d : w.cell? ⟨T, 0, none⟩ = some (.bool sh)) :
    LkM w (((((w.alloc (.cells #[.string ⟨#[]⟩, .slice none 0 0] 58)).alloc (.cells #[.int .i64 1, .int .i64 16] 100)).alloc (.cells #[.string ⟨#[115, 108, 105, 99, 101]⟩, .int .i64 1, .int .i64 16, .pointer (some ⟨T, 1, none⟩), .string ⟨#[99, 114, 105, 116]⟩, .int .i64 1, .int .i64 32, .pointer (some ⟨T, 2, none⟩)] 102)).alloc (.cells #[.string ⟨#[108, 111, 99, 107]⟩, .slice (some ⟨w.heap.size + 1 + 1, 0, none⟩) 2 2] 58)).drew) T (w.heap.size + 1 + 1) (w.heap.size + 1 + 1 + 1) sh := by
  have hb : Below w.heap.size w (((((w.alloc (.cells #[.string ⟨#[]⟩, .slice none 0 0] 58)).alloc (.cells #[.int .i64 1, .int .i64 16] 100)).alloc (.cells #[.string ⟨#[115, 108, 105, 99, 101]⟩, .int .i64 1, .int .i64 16, .pointer (some ⟨T, 1, none⟩), .string ⟨#[99, 114, 105, 116]⟩, .int .i64 1, .int .i64 32, .pointer (some ⟨T, 2, none⟩)] 102)).alloc (.cells #[.string ⟨#[108, 111, 99, 107]⟩, .slice (some ⟨w.heap.size + 1 + 1, 0, none⟩) 2 2] 58)).drew) := (((((Below.refl _ w).alloc (Nat.le_refl _) _).alloc (by simp only [World.size_alloc]; omega) _).alloc (by simp only [World.size_alloc]; omega) _).alloc (by simp only [World.size_alloc]; omega) _).drew
  have h1 := heap_alloc_new w (.cells #[.string ⟨#[]⟩, .slice none 0 0] 58)
  have h2 := heap_alloc_new (w.alloc (.cells #[.string ⟨#[]⟩, .slice none 0 0] 58)) (.cells #[.int .i64 1, .int .i64 16] 100)
  have h3 := heap_alloc_new ((w.alloc (.cells #[.string ⟨#[]⟩, .slice none 0 0] 58)).alloc (.cells #[.int .i64 1, .int .i64 16] 100)) (.cells #[.string ⟨#[115, 108, 105, 99, 101]⟩, .int .i64 1, .int .i64 16, .pointer (some ⟨T, 1, none⟩), .string ⟨#[99, 114, 105, 116]⟩, .int .i64 1, .int .i64 32, .pointer (some ⟨T, 2, none⟩)] 102)
  have h4 := heap_alloc_new (((w.alloc (.cells #[.string ⟨#[]⟩, .slice none 0 0] 58)).alloc (.cells #[.int .i64 1, .int .i64 16] 100)).alloc (.cells #[.string ⟨#[115, 108, 105, 99, 101]⟩, .int .i64 1, .int .i64 16, .pointer (some ⟨T, 1, none⟩), .string ⟨#[99, 114, 105, 116]⟩, .int .i64 1, .int .i64 32, .pointer (some ⟨T, 2, none⟩)] 102)) (.cells #[.string ⟨#[108, 111, 99, 107]⟩, .slice (some ⟨w.heap.size + 1 + 1, 0, none⟩) 2 2] 58)
  simp only [World.size_alloc] at h2 h3 h4
  refine ⟨?_, ?_, ?_, h4, (hb.cell (p := ⟨T, 0, none⟩) hT).trans d, hb, by omega, by omega, by omega⟩
  · exact (Below.heap_alloc _ _ _ (by simp only [World.size_alloc]; omega)).trans ((Below.heap_alloc _ _ _ (by simp only [World.size_alloc]; omega)).trans ((Below.heap_alloc _ _ _ (by simp)).trans h1))
  · exact (Below.heap_alloc _ _ _ (by simp only [World.size_alloc]; omega)).trans ((Below.heap_alloc _ _ _ (by simp)).trans h2)
  · exact (Below.heap_alloc _ _ _ (by simp)).trans h3
theorem LkM.b (w : World) {T : Nat} {sh : Bool} (hT : T < w.heap.size) (d : w.cell? ⟨T, 0, none⟩ = some (.bool sh)) :
    LkM w (((((w.alloc (.cells #[.string ⟨#[]⟩, .slice none 0 0] 58)).alloc (.cells #[.int .i64 1, .int .i64 16] 100)).alloc (.cells #[.string ⟨#[108, 111, 99, 107]⟩, .slice (some ⟨w.heap.size + 1 + 1 + 1, 0, none⟩) 2 2] 58)).alloc (.cells #[.string ⟨#[115, 108, 105, 99, 101]⟩, .int .i64 1, .int .i64 16, .pointer (some ⟨T, 1, none⟩), .string ⟨#[99, 114, 105, 116]⟩, .int .i64 1, .int .i64 32, .pointer (some ⟨T, 2, none⟩)] 102)).drew) T (w.heap.size + 1 + 1 + 1) (w.heap.size + 1 + 1) sh := by
  have hb : Below w.heap.size w (((((w.alloc (.cells #[.string ⟨#[]⟩, .slice none 0 0] 58)).alloc (.cells #[.int .i64 1, .int .i64 16] 100)).alloc (.cells #[.string ⟨#[108, 111, 99, 107]⟩, .slice (some ⟨w.heap.size + 1 + 1 + 1, 0, none⟩) 2 2] 58)).alloc (.cells #[.string ⟨#[115, 108, 105, 99, 101]⟩, .int .i64 1, .int .i64 16, .pointer (some ⟨T, 1, none⟩), .string ⟨#[99, 114, 105, 116]⟩, .int .i64 1, .int .i64 32, .pointer (some ⟨T, 2, none⟩)] 102)).drew) := (((((Below.refl _ w).alloc (Nat.le_refl _) _).alloc (by simp only [World.size_alloc]; omega) _).alloc (by simp only [World.size_alloc]; omega) _).alloc (by simp only [World.size_alloc]; omega) _).drew
  have h1 := heap_alloc_new w (.cells #[.string ⟨#[]⟩, .slice none 0 0] 58)
  have h2 := heap_alloc_new (w.alloc (.cells #[.string ⟨#[]⟩, .slice none 0 0] 58)) (.cells #[.int .i64 1, .int .i64 16] 100)
  have h3 := heap_alloc_new ((w.alloc (.cells #[.string ⟨#[]⟩, .slice none 0 0] 58)).alloc (.cells #[.int .i64 1, .int .i64 16] 100)) (.cells #[.string ⟨#[108, 111, 99, 107]⟩, .slice (some ⟨w.heap.size + 1 + 1 + 1, 0, none⟩) 2 2] 58)
  have h4 := heap_alloc_new (((w.alloc (.cells #[.string ⟨#[]⟩, .slice none 0 0] 58)).alloc (.cells #[.int .i64 1, .int .i64 16] 100)).alloc (.cells #[.string ⟨#[108, 111, 99, 107]⟩, .slice (some ⟨w.heap.size + 1 + 1 + 1, 0, none⟩) 2 2] 58)) (.cells #[.string ⟨#[115, 108, 105, 99, 101]⟩, .int .i64 1, .int .i64 16, .pointer (some ⟨T, 1, none⟩), .string ⟨#[99, 114, 105, 116]⟩, .int .i64 1, .int .i64 32, .pointer (some ⟨T, 2, none⟩)] 102)
  simp only [World.size_alloc] at h2 h3 h4
  refine ⟨?_, ?_, h4, ?_, (hb.cell (p := ⟨T, 0, none⟩) hT).trans d, hb, by omega, by omega, by omega⟩
  · exact (Below.heap_alloc _ _ _ (by simp only [World.size_alloc]; omega)).trans ((Below.heap_alloc _ _ _ (by simp only [World.size_alloc]; omega)).trans ((Below.heap_alloc _ _ _ (by simp)).trans h1))
  · exact (Below.heap_alloc _ _ _ (by simp only [World.size_alloc]; omega)).trans ((Below.heap_alloc _ _ _ (by simp)).trans h2)
  · exact (Below.heap_alloc _ _ _ (by simp)).trans h3
theorem NArg.two {w : World} {nb T : Nat} (h : w.heap[nb]? = some (.cells #[.string ⟨#[115, 108, 105, 99, 101]⟩, .int .i64 1, .int .i64 16, .pointer (some ⟨T, 1, none⟩), .string ⟨#[99, 114, 105, 116]⟩, .int .i64 1, .int .i64 32, .pointer (some ⟨T, 2, none⟩)] 102 (0, 0))) : NArg w nb 0 T [(⟨#[115, 108, 105, 99, 101]⟩, 16, 1), (⟨#[99, 114, 105, 116]⟩, 32, 2)] := by
  refine ⟨⟨_, _, h⟩, fun i hi => ?_⟩
  have : i = 0 ∨ i = 1 := by simp at hi; omega
  rcases this with rfl | rfl <;> simp [World.cell?, h]
theorem NArg.four {w : World} {T : Nat} {v : Value} (h : w.ownsRow 0 102 4 v 4 (([.string ⟨#[115, 108, 105, 99, 101]⟩, .int .i64 1, .int .i64 16, .pointer (some ⟨T, 1, none⟩), .string ⟨#[99, 114, 105, 116]⟩, .int .i64 1, .int .i64 32, .pointer (some ⟨T, 2, none⟩)] : List Value) ++ [.string ⟨#[114, 101, 97, 100]⟩, .int .i64 1, .int .i64 16, .pointer (some ⟨T, 3, none⟩), .string ⟨#[119, 114, 105, 116, 101]⟩, .int .i64 1, .int .i64 16, .pointer (some ⟨T, 4, none⟩)])) : ∃ nb nc, v = .slice (some ⟨nb, 0, none⟩) 4 nc ∧ NArg w nb 0 T [(⟨#[115, 108, 105, 99, 101]⟩, 16, 1), (⟨#[99, 114, 105, 116]⟩, 32, 2), (⟨#[114, 101, 97, 100]⟩, 16, 3), (⟨#[119, 114, 105, 116, 101]⟩, 16, 4)] := by
  obtain ⟨g, cap, rfl, -, -⟩ := ownsRow_pos h (by decide)
  refine ⟨g, cap, rfl, ?_, fun i hi => ?_⟩
  · obtain ⟨cur, hc⟩ := ownsRow_type h g (by simp [Value.ownBlock])
    exact ⟨_, _, hc⟩
  · have e : ∀ k, k < 16 → w.cell? ⟨g, k, none⟩ = (([.string ⟨#[115, 108, 105, 99, 101]⟩, .int .i64 1, .int .i64 16, .pointer (some ⟨T, 1, none⟩), .string ⟨#[99, 114, 105, 116]⟩, .int .i64 1, .int .i64 32, .pointer (some ⟨T, 2, none⟩)] : List Value) ++ [.string ⟨#[114, 101, 97, 100]⟩, .int .i64 1, .int .i64 16, .pointer (some ⟨T, 3, none⟩), .string ⟨#[119, 114, 105, 116, 101]⟩, .int .i64 1, .int .i64 16, .pointer (some ⟨T, 4, none⟩)])[k]? := fun k hk => h.cellAt k (by simpa using hk)
    have : i = 0 ∨ i = 1 ∨ i = 2 ∨ i = 3 := by simp at hi; omega
    rcases this with rfl | rfl | rfl | rfl <;> exact ⟨e _ (by omega), e _ (by omega), e _ (by omega), e _ (by omega)⟩
theorem two_row {w : World} {n T : Nat} (h : w.heap[n]? = some (.cells #[.string ⟨#[115, 108, 105, 99, 101]⟩, .int .i64 1, .int .i64 16, .pointer (some ⟨T, 1, none⟩), .string ⟨#[99, 114, 105, 116]⟩, .int .i64 1, .int .i64 32, .pointer (some ⟨T, 2, none⟩)] 102 (0, 0))) : w.ownsRow 0 102 4 (.slice (some ⟨n, 0, none⟩) 2 2) 2 [.string ⟨#[115, 108, 105, 99, 101]⟩, .int .i64 1, .int .i64 16, .pointer (some ⟨T, 1, none⟩), .string ⟨#[99, 114, 105, 116]⟩, .int .i64 1, .int .i64 32, .pointer (some ⟨T, 2, none⟩)] :=
  ⟨rfl, .inr ⟨n, 2, _, rfl, Nat.zero_le _, h, Nat.le_refl _, by decide, rfl, rfl⟩⟩
theorem more_at {W : World} {g T : Nat} (hg : W.heap.size = g) : ∀ (j : Nat) (u : Value), ([.string ⟨#[114, 101, 97, 100]⟩, .int .i64 1, .int .i64 16, .pointer (some ⟨T, 3, none⟩), .string ⟨#[119, 114, 105, 116, 101]⟩, .int .i64 1, .int .i64 16, .pointer (some ⟨T, 4, none⟩)] : List Value)[j]? = some u → (W.alloc (.cells #[.string ⟨#[114, 101, 97, 100]⟩, .int .i64 1, .int .i64 16, .pointer (some ⟨T, 3, none⟩), .string ⟨#[119, 114, 105, 116, 101]⟩, .int .i64 1, .int .i64 16, .pointer (some ⟨T, 4, none⟩)] 102)).cell? ((⟨g, 0, none⟩ : Addr).add j) = some u := by
  subst hg
  intro j u hu
  have h := heap_alloc_new W (.cells #[.string ⟨#[114, 101, 97, 100]⟩, .int .i64 1, .int .i64 16, .pointer (some ⟨T, 3, none⟩), .string ⟨#[119, 114, 105, 116, 101]⟩, .int .i64 1, .int .i64 16, .pointer (some ⟨T, 4, none⟩)] 102)
  have e : ((⟨W.heap.size, 0, none⟩ : Addr).add j) = ⟨W.heap.size, j, none⟩ := by
    cases j <;> simp [Addr.add]
  rw [e]
  have hj : j < 8 := by
    obtain ⟨hj, -⟩ := List.getElem?_eq_some_iff.1 hu
    simpa using hj
  rw [cell_at h (by simpa using hj)]
  have := (List.getElem?_eq_some_iff.1 hu).2
  simpa using this
theorem more_ones (T : Nat) : ∀ u ∈ ([.string ⟨#[114, 101, 97, 100]⟩, .int .i64 1, .int .i64 16, .pointer (some ⟨T, 3, none⟩), .string ⟨#[119, 114, 105, 116, 101]⟩, .int .i64 1, .int .i64 16, .pointer (some ⟨T, 4, none⟩)] : List Value), u.oneCell' = true := by
  intro u hu
  simp only [List.mem_cons, List.not_mem_nil, or_false] at hu
  rcases hu with rfl | rfl | rfl | rfl | rfl | rfl | rfl | rfl <;> rfl
set_option maxRecDepth 100000 in
set_option maxHeartbeats 6400000 in
theorem lockline_plain (T : Nat) (w : World) (hT : T < w.heap.size) (d : w.cell? ⟨T, 0, none⟩ = some (.bool false)) :
    Calls Tryz.prog 53 #[.pointer (some ⟨T, 0, none⟩)] w (LineP ⟨#[108, 111, 99, 107]⟩ [(⟨#[115, 108, 105, 99, 101]⟩, 16, 1), (⟨#[99, 114, 105, 116]⟩, 32, 2)] T w) := by
  go_enter Tryz.func53, Tryz.ntmps53
  go_wp2_with fail
  go_region_held3 (fun _ => True)
    (first | exact trivial)
    (fail)
  · have hm := LkM.a w hT d
    obtain ⟨V, hV⟩ : ∃ V, (((((w.alloc (.cells #[.string ⟨#[]⟩, .slice none 0 0] 58)).alloc (.cells #[.int .i64 1, .int .i64 16] 100)).alloc (.cells #[.string ⟨#[115, 108, 105, 99, 101]⟩, .int .i64 1, .int .i64 16, .pointer (some ⟨T, 1, none⟩), .string ⟨#[99, 114, 105, 116]⟩, .int .i64 1, .int .i64 32, .pointer (some ⟨T, 2, none⟩)] 102)).alloc (.cells #[.string ⟨#[108, 111, 99, 107]⟩, .slice (some ⟨w.heap.size + 1 + 1, 0, none⟩) 2 2] 58)).drew) = V := ⟨_, rfl⟩
    obtain ⟨B3, hB3⟩ : ∃ B, w.heap.size + 1 + 1 + 1 = B := ⟨_, rfl⟩
    obtain ⟨B2, hB2⟩ : ∃ B, w.heap.size + 1 + 1 = B := ⟨_, rfl⟩
    rw [hV] at hm ⊢
    rw [hB3] at hm ⊢
    rw [hB2] at hm ⊢
    clear hV hB3 hB2 d
    have HM := Lib.hid hm
    have dT := hm.lck
    obtain ⟨l0, l1⟩ := two_cells hm.lin
    have fl0 := not_frozen hm.lin 0
    have fl1 := not_frozen hm.lin 1
    obtain ⟨z0, z1⟩ := two_cells hm.res
    have fz0 := not_frozen hm.res 0
    have fz1 := not_frozen hm.res 1
    have n1 : B2 ≠ B3 := hm.ne
    have n2 : w.heap.size ≠ B3 := by have := hm.hl; omega
    have n3 : w.heap.size ≠ B2 := by have := hm.hn; omega
    have n4 : B3 ≠ w.heap.size := by have := hm.hl; omega
    clear hm
    go_wp2
    have hr : ∀ a b, ((V.setCell ⟨w.heap.size, 0, none⟩ a).setCell ⟨w.heap.size, 1, none⟩ b).heap[B2]? = V.heap[B2]? := fun a b => (Below.heap_setCell _ _ _ _ (by show B2 ≠ w.heap.size; omega)).trans (Below.heap_setCell _ _ _ _ (by show B2 ≠ w.heap.size; omega))
    refine bodyPost_ret (line_res rfl rfl (two_stored HM.out.res)) rfl ?_
    exact ⟨_, _, rfl, NArg.two ((hr _ _).trans HM.out.num), by have := HM.out.hn; omega, (HM.out.bel.setCell (Nat.le_refl _) _).setCell (Nat.le_refl _) _⟩
  · have hm := LkM.b w hT d
    obtain ⟨V, hV⟩ : ∃ V, (((((w.alloc (.cells #[.string ⟨#[]⟩, .slice none 0 0] 58)).alloc (.cells #[.int .i64 1, .int .i64 16] 100)).alloc (.cells #[.string ⟨#[108, 111, 99, 107]⟩, .slice (some ⟨w.heap.size + 1 + 1 + 1, 0, none⟩) 2 2] 58)).alloc (.cells #[.string ⟨#[115, 108, 105, 99, 101]⟩, .int .i64 1, .int .i64 16, .pointer (some ⟨T, 1, none⟩), .string ⟨#[99, 114, 105, 116]⟩, .int .i64 1, .int .i64 32, .pointer (some ⟨T, 2, none⟩)] 102)).drew) = V := ⟨_, rfl⟩
    obtain ⟨B3, hB3⟩ : ∃ B, w.heap.size + 1 + 1 + 1 = B := ⟨_, rfl⟩
    obtain ⟨B2, hB2⟩ : ∃ B, w.heap.size + 1 + 1 = B := ⟨_, rfl⟩
    rw [hV] at hm ⊢
    rw [hB3] at hm ⊢
    rw [hB2] at hm ⊢
    clear hV hB3 hB2 d
    have HM := Lib.hid hm
    have dT := hm.lck
    obtain ⟨l0, l1⟩ := two_cells hm.lin
    have fl0 := not_frozen hm.lin 0
    have fl1 := not_frozen hm.lin 1
    obtain ⟨z0, z1⟩ := two_cells hm.res
    have fz0 := not_frozen hm.res 0
    have fz1 := not_frozen hm.res 1
    have n1 : B3 ≠ B2 := hm.ne
    have n2 : w.heap.size ≠ B2 := by have := hm.hl; omega
    have n3 : w.heap.size ≠ B3 := by have := hm.hn; omega
    have n4 : B2 ≠ w.heap.size := by have := hm.hl; omega
    clear hm
    go_wp2
    have hr : ∀ a b, ((V.setCell ⟨w.heap.size, 0, none⟩ a).setCell ⟨w.heap.size, 1, none⟩ b).heap[B3]? = V.heap[B3]? := fun a b => (Below.heap_setCell _ _ _ _ (by show B3 ≠ w.heap.size; omega)).trans (Below.heap_setCell _ _ _ _ (by show B3 ≠ w.heap.size; omega))
    refine bodyPost_ret (line_res rfl rfl (two_stored HM.out.res)) rfl ?_
    exact ⟨_, _, rfl, NArg.two ((hr _ _).trans HM.out.num), by have := HM.out.hn; omega, (HM.out.bel.setCell (Nat.le_refl _) _).setCell (Nat.le_refl _) _⟩
set_option maxRecDepth 100000 in
set_option maxHeartbeats 6400000 in
theorem lockline_shared (T : Nat) (w : World) (hT : T < w.heap.size) (d : w.cell? ⟨T, 0, none⟩ = some (.bool true)) :
    Calls Tryz.prog 53 #[.pointer (some ⟨T, 0, none⟩)] w (LineP ⟨#[115, 104, 97, 114, 101, 100]⟩ [(⟨#[115, 108, 105, 99, 101]⟩, 16, 1), (⟨#[99, 114, 105, 116]⟩, 32, 2), (⟨#[114, 101, 97, 100]⟩, 16, 3), (⟨#[119, 114, 105, 116, 101]⟩, 16, 4)] T w) := by
  obtain ⟨i0, hi0, hz0, hz1, hz2⟩ := info_parts number_info
  go_enter Tryz.func53, Tryz.ntmps53
  go_wp2_with fail
  go_region_held3 (fun _ => True)
    (first | exact trivial)
    (fail)
  · have hm := LkM.a w hT d
    obtain ⟨V, hV⟩ : ∃ V, (((((w.alloc (.cells #[.string ⟨#[]⟩, .slice none 0 0] 58)).alloc (.cells #[.int .i64 1, .int .i64 16] 100)).alloc (.cells #[.string ⟨#[115, 108, 105, 99, 101]⟩, .int .i64 1, .int .i64 16, .pointer (some ⟨T, 1, none⟩), .string ⟨#[99, 114, 105, 116]⟩, .int .i64 1, .int .i64 32, .pointer (some ⟨T, 2, none⟩)] 102)).alloc (.cells #[.string ⟨#[108, 111, 99, 107]⟩, .slice (some ⟨w.heap.size + 1 + 1, 0, none⟩) 2 2] 58)).drew) = V := ⟨_, rfl⟩
    obtain ⟨B3, hB3⟩ : ∃ B, w.heap.size + 1 + 1 + 1 = B := ⟨_, rfl⟩
    obtain ⟨B2, hB2⟩ : ∃ B, w.heap.size + 1 + 1 = B := ⟨_, rfl⟩
    rw [hV] at hm ⊢
    rw [hB3] at hm ⊢
    rw [hB2] at hm ⊢
    clear hV hB3 hB2 d
    have HM := Lib.hid hm
    have dT := hm.lck
    obtain ⟨l0, l1⟩ := two_cells hm.lin
    have fl0 := not_frozen hm.lin 0
    have fl1 := not_frozen hm.lin 1
    obtain ⟨z0, z1⟩ := two_cells hm.res
    have fz0 := not_frozen hm.res 0
    have fz1 := not_frozen hm.res 1
    have n1 : B2 ≠ B3 := hm.ne
    have n2 : w.heap.size ≠ B3 := by have := hm.hl; omega
    have n3 : w.heap.size ≠ B2 := by have := hm.hn; omega
    have n4 : B3 ≠ w.heap.size := by have := hm.hl; omega
    clear hm
    go_wp2_with fail
    obtain ⟨V2, hV2⟩ : ∃ V2, V.setCell ⟨B3, 0, none⟩ (.string ⟨#[115, 104, 97, 114, 101, 100]⟩) = V2 := ⟨_, rfl⟩
    have hb2 : ∀ k, k ≠ B3 → V2.heap[k]? = V.heap[k]? := fun k hk => by rw [← hV2]; exact Below.heap_setCell _ _ _ _ hk
    have hl2 : V2.heap[B3]? = some (.cells #[.string ⟨#[115, 104, 97, 114, 101, 100]⟩, .slice (some ⟨B2, 0, none⟩) 2 2] 58 (0, 0)) := by
      rw [← hV2, heap_setCell_same _ _ _ _ _ _ HM.out.lin]
      rfl
    have HB2 : Hid (Below w.heap.size w V2) := Lib.hid (by rw [← hV2]; exact HM.out.bel.setCell (by show w.heap.size ≤ B3; have := HM.out.hl; omega) _)
    rw [hV2]
    have HR2 := Lib.hid ((hb2 _ n2).trans HM.out.res)
    have HS2 := Lib.hid ((hb2 _ (by have := HM.out.hl; omega)).trans HM.out.spn)
    have HN2 := Lib.hid ((hb2 _ n1).trans HM.out.num)
    have HL2 := Lib.hid hl2
    have HLN := Lib.hid HM.out.hn
    have HLL := Lib.hid HM.out.hl
    have HV0 := Lib.hid (fun (W : World) (hs : ∀ k, k < V2.heap.size → W.heap[k]? = V2.heap[k]?) => (by
      have a := two_cells ((hs _ (lt_of_block HL2.out)).trans HL2.out)
      have b := two_cells ((hs _ (lt_of_block HS2.out)).trans HS2.out)
      exact ⟨a.2, b.1, b.2⟩ : W.cell? ⟨B3, 1, none⟩ = some (.slice (some ⟨B2, 0, none⟩) 2 2) ∧ W.cell? ⟨w.heap.size + 1, 0, none⟩ = some (.int .i64 1) ∧ W.cell? ⟨w.heap.size + 1, 1, none⟩ = some (.int .i64 16)))
    have hS1 := HV0.out V2.drew (fun k _ => rfl)
    clear hV2 hb2 hl2 dT l0 l1 fl0 fl1 z0 z1 fz0 fz1 HM
    have hmix : Tryz.prog.follows .mixedOrders = true := by kernel_rfl
    refine wp_region_noPanic ?_
    refine wp_region_last (fun V => V.cell? ⟨B3, 1, none⟩ = some (.slice (some ⟨B2, 0, none⟩) 2 2) ∧ V.cell? ⟨w.heap.size + 1, 0, none⟩ = some (.int .i64 1) ∧ V.cell? ⟨w.heap.size + 1, 1, none⟩ = some (.int .i64 16)) 15 hmix hS1 (fun hS0 => ?_)
    refine wpAnyE_take (i := 0) (v := ?_) rfl (by kernel_rfl) (by kernel_rfl) (fun _ _ _ h => h) (by kernel_rfl) (by kernel_rfl) (Or.inl ⟨by rfl, ?hy⟩) (by assumption) ?_
    case hy =>
      intro w hSw
      (try dsimp only at hSw)
      go_simp
      try with_reducible rfl
    (try simp only [List.getElem_toArray])
    (try simp only [List.getElem_cons_succ])
    (try simp only [List.getElem_cons_zero])
    (try simp only [Act.put])
    (try simp only [List.setIfInBounds_toArray])
    (try simp only [List.set_cons_succ])
    (try simp only [List.set_cons_zero])
    refine wpAnyE_take (i := 1) (v := ?_) rfl (by kernel_rfl) (by kernel_rfl) (fun _ _ _ h => h) (by kernel_rfl) (by kernel_rfl) (Or.inl ⟨by rfl, ?hy⟩) (by assumption) ?_
    case hy =>
      intro w hSw
      (try dsimp only at hSw)
      go_simp
      try with_reducible rfl
    (try simp only [List.getElem_toArray])
    (try simp only [List.getElem_cons_succ])
    (try simp only [List.getElem_cons_zero])
    (try simp only [Act.put])
    (try simp only [List.setIfInBounds_toArray])
    (try simp only [List.set_cons_succ])
    (try simp only [List.set_cons_zero])
    refine wpAnyE_take (i := 2) (v := ?_) rfl (by kernel_rfl) (by kernel_rfl) (fun _ _ _ h => h) (by kernel_rfl) (by kernel_rfl) (Or.inl ⟨by rfl, ?hy⟩) (by assumption) ?_
    case hy =>
      intro w hSw
      (try dsimp only at hSw)
      go_simp
      try with_reducible rfl
    (try simp only [List.getElem_toArray])
    (try simp only [List.getElem_cons_succ])
    (try simp only [List.getElem_cons_zero])
    (try simp only [Act.put])
    (try simp only [List.setIfInBounds_toArray])
    (try simp only [List.set_cons_succ])
    (try simp only [List.set_cons_zero])
    refine wpAnyE_take (i := 3) (v := ?_) rfl (by kernel_rfl) (by kernel_rfl) (fun _ _ _ h => h) (by kernel_rfl) (by kernel_rfl) (Or.inl ⟨by rfl, ?hy⟩) (by assumption) ?_
    case hy =>
      intro w hSw
      (try dsimp only at hSw)
      go_simp
      try with_reducible rfl
    (try simp only [List.getElem_toArray])
    (try simp only [List.getElem_cons_succ])
    (try simp only [List.getElem_cons_zero])
    (try simp only [Act.put])
    (try simp only [List.setIfInBounds_toArray])
    (try simp only [List.set_cons_succ])
    (try simp only [List.set_cons_zero])
    refine wpAnyE_take (i := 4) (v := ?_) rfl (by kernel_rfl) (by kernel_rfl) (fun _ _ _ h => h) (by kernel_rfl) (by kernel_rfl) (Or.inl ⟨by rfl, ?hy⟩) (by assumption) ?_
    case hy =>
      intro w hSw
      (try dsimp only at hSw)
      go_simp
      try with_reducible rfl
    (try simp only [List.getElem_toArray])
    (try simp only [List.getElem_cons_succ])
    (try simp only [List.getElem_cons_zero])
    (try simp only [Act.put])
    (try simp only [List.setIfInBounds_toArray])
    (try simp only [List.set_cons_succ])
    (try simp only [List.set_cons_zero])
    refine wpAnyE_take (i := 5) (v := ?_) rfl (by kernel_rfl) (by kernel_rfl) (fun _ _ _ h => h) (by kernel_rfl) (by kernel_rfl) (Or.inl ⟨by rfl, ?hy⟩) (by assumption) ?_
    case hy =>
      intro w hSw
      (try dsimp only at hSw)
      go_simp
      try with_reducible rfl
    (try simp only [List.getElem_toArray])
    (try simp only [List.getElem_cons_succ])
    (try simp only [List.getElem_cons_zero])
    (try simp only [Act.put])
    (try simp only [List.setIfInBounds_toArray])
    (try simp only [List.set_cons_succ])
    (try simp only [List.set_cons_zero])
    refine wpAnyE_take (i := 6) (v := ?_) rfl (by kernel_rfl) (by kernel_rfl) (fun _ _ _ h => h) (by kernel_rfl) (by kernel_rfl) (Or.inl ⟨by rfl, ?hy⟩) (by assumption) ?_
    case hy =>
      intro w hSw
      (try dsimp only at hSw)
      go_simp
      try with_reducible rfl
    (try simp only [List.getElem_toArray])
    (try simp only [List.getElem_cons_succ])
    (try simp only [List.getElem_cons_zero])
    (try simp only [Act.put])
    (try simp only [List.setIfInBounds_toArray])
    (try simp only [List.set_cons_succ])
    (try simp only [List.set_cons_zero])
    refine wpAnyE_take (i := 7) (v := ?_) rfl (by kernel_rfl) (by kernel_rfl) (fun _ _ _ h => h) (by kernel_rfl) (by kernel_rfl) (Or.inl ⟨by rfl, ?hy⟩) (by assumption) ?_
    case hy =>
      intro w hSw
      (try dsimp only at hSw)
      go_simp
      try with_reducible rfl
    (try simp only [List.getElem_toArray])
    (try simp only [List.getElem_cons_succ])
    (try simp only [List.getElem_cons_zero])
    (try simp only [Act.put])
    (try simp only [List.setIfInBounds_toArray])
    (try simp only [List.set_cons_succ])
    (try simp only [List.set_cons_zero])
    refine wpAnyE_take (i := 8) (v := ?_) rfl (by kernel_rfl) (by kernel_rfl) (fun _ _ _ h => h) (by kernel_rfl) (by kernel_rfl) (Or.inl ⟨by rfl, ?hy⟩) (by assumption) ?_
    case hy =>
      intro w hSw
      (try dsimp only at hSw)
      go_simp
      try with_reducible rfl
    (try simp only [List.getElem_toArray])
    (try simp only [List.getElem_cons_succ])
    (try simp only [List.getElem_cons_zero])
    (try simp only [Act.put])
    (try simp only [List.setIfInBounds_toArray])
    (try simp only [List.set_cons_succ])
    (try simp only [List.set_cons_zero])
    refine wpAnyE_take (i := 9) (v := ?_) rfl (by kernel_rfl) (by kernel_rfl) (fun _ _ _ h => h) (by kernel_rfl) (by kernel_rfl) (Or.inl ⟨by rfl, ?hy⟩) (by assumption) ?_
    case hy =>
      intro w hSw
      (try dsimp only at hSw)
      go_simp
      try with_reducible rfl
    (try simp only [List.getElem_toArray])
    (try simp only [List.getElem_cons_succ])
    (try simp only [List.getElem_cons_zero])
    (try simp only [Act.put])
    (try simp only [List.setIfInBounds_toArray])
    (try simp only [List.set_cons_succ])
    (try simp only [List.set_cons_zero])
    refine wpAnyE_take (i := 10) (v := ?_) rfl (by kernel_rfl) (by kernel_rfl) (fun _ _ _ h => h) (by kernel_rfl) (by kernel_rfl) (Or.inl ⟨by rfl, ?hy⟩) (by assumption) ?_
    case hy =>
      intro w hSw
      (try dsimp only at hSw)
      go_simp
      try with_reducible rfl
    (try simp only [List.getElem_toArray])
    (try simp only [List.getElem_cons_succ])
    (try simp only [List.getElem_cons_zero])
    (try simp only [Act.put])
    (try simp only [List.setIfInBounds_toArray])
    (try simp only [List.set_cons_succ])
    (try simp only [List.set_cons_zero])
    refine wpAnyE_take (i := 11) (v := ?_) rfl (by kernel_rfl) (by kernel_rfl) (fun _ _ _ h => h) (by kernel_rfl) (by kernel_rfl) (Or.inl ⟨by rfl, ?hy⟩) (by assumption) ?_
    case hy =>
      intro w hSw
      (try dsimp only at hSw)
      go_simp
      try with_reducible rfl
    (try simp only [List.getElem_toArray])
    (try simp only [List.getElem_cons_succ])
    (try simp only [List.getElem_cons_zero])
    (try simp only [Act.put])
    (try simp only [List.setIfInBounds_toArray])
    (try simp only [List.set_cons_succ])
    (try simp only [List.set_cons_zero])
    refine wpAnyE_ready (rs := [12]) (by kernel_rfl) (by simp) ?_
    refine ReadyE.cons rfl (fun K' hK => ?_) ReadyE.nil
    go_simp
    have hA := HV0.out (V2.drew.alloc (.cells #[.string ⟨#[114, 101, 97, 100]⟩, .int .i64 1, .int .i64 16, .pointer (some ⟨T, 3, none⟩), .string ⟨#[119, 114, 105, 116, 101]⟩, .int .i64 1, .int .i64 16, .pointer (some ⟨T, 4, none⟩)] 102)) (fun k hk => Below.heap_alloc _ _ _ (by simpa using hk))
    refine hK.out _ _ (.inr ?_) ?_
    · exact hA
    clear hK K'
    (try simp only [List.getElem_toArray])
    (try simp only [List.getElem_cons_succ])
    (try simp only [List.getElem_cons_zero])
    (try simp only [Act.put])
    (try simp only [List.setIfInBounds_toArray])
    (try simp only [List.set_cons_succ])
    (try simp only [List.set_cons_zero])
    refine wpAnyE_ready (rs := [13]) (by kernel_rfl) (by simp) ?_
    refine ReadyE.cons rfl (fun K' hK => ?_) ReadyE.nil
    refine step_append_any _ rfl (.tmp 24) (.tmp 35) 56 rfl 102 i0 (.agg #[.string ⟨#[]⟩, .int .i64 0, .int .i64 0, .pointer none]) 4 40 Tryz.underlying56 hi0 hz0 hz1 hz2 rfl (by decide) (.slice (some ⟨B2, 0, none⟩) 2 2) 2 [.string ⟨#[115, 108, 105, 99, 101]⟩, .int .i64 1, .int .i64 16, .pointer (some ⟨T, 1, none⟩), .string ⟨#[99, 114, 105, 116]⟩, .int .i64 1, .int .i64 32, .pointer (some ⟨T, 2, none⟩)] rfl (two_row (T := T) ((Below.heap_alloc _ _ _ (by have := lt_of_block HN2.out; simpa using this)).trans HN2.out)) (some ⟨V2.heap.size, 0, none⟩) 2 2 [.string ⟨#[114, 101, 97, 100]⟩, .int .i64 1, .int .i64 16, .pointer (some ⟨T, 3, none⟩), .string ⟨#[119, 114, 105, 116, 101]⟩, .int .i64 1, .int .i64 16, .pointer (some ⟨T, 4, none⟩)] rfl rfl (by intro h; cases h) (by intro ad had; cases had; exact more_at rfl) (more_ones T) (by decide) (by decide) ?_
    intro a' cap' w4 hown hg hnew
    have hk4 : ∀ k, k < V2.heap.size → k ≠ B2 → w4.heap[k]? = V2.heap[k]? := fun k hk hne => (hg.block k (by simp; omega) (by simp [Value.ownBlock]; omega)).trans (Below.heap_alloc _ _ _ (by simpa using hk))
    have hl4 := (hk4 _ (lt_of_block HL2.out) (by omega)).trans HL2.out
    have hs4 := (hk4 _ (lt_of_block HS2.out) (by have := HLN.out; omega)).trans HS2.out
    have hr4 := (hk4 _ (lt_of_block HR2.out) n3).trans HR2.out
    have c4 := two_cells hl4
    have d4 := two_cells hs4
    have hS4 := And.intro c4.2 (And.intro d4.1 d4.2)
    refine hK.out _ _ (.inr ?_) ?_
    · exact hS4
    clear hK K'
    (try simp only [List.getElem_toArray])
    (try simp only [List.getElem_cons_succ])
    (try simp only [List.getElem_cons_zero])
    (try simp only [Act.put])
    (try simp only [List.setIfInBounds_toArray])
    (try simp only [List.set_cons_succ])
    (try simp only [List.set_cons_zero])
    have hb4 : Below w.heap.size w w4 := HB2.out.trans (by
      have h5 : Below V2.heap.size V2 (V2.drew.alloc (.cells #[.string ⟨#[114, 101, 97, 100]⟩, .int .i64 1, .int .i64 16, .pointer (some ⟨T, 3, none⟩), .string ⟨#[119, 114, 105, 116, 101]⟩, .int .i64 1, .int .i64 16, .pointer (some ⟨T, 4, none⟩)] 102)) := (Below.refl _ _).drew.alloc (by simp) _
      exact (h5.mono HB2.out.size).grown hg (by have := HB2.out.size; simp; omega) (fun k hk => by have := HLN.out; simp [Value.ownBlock] at hk; omega))
    obtain ⟨nb, nc, hv, hna⟩ := NArg.four (T := T) hown
    injection hv with e1 e2 e3
    subst e1
    subst e3
    have hnb : nb ≠ B3 ∧ w.heap.size < nb := by
      rcases hnew nb (by simp [Value.ownBlock]) with h | h
      · simp [Value.ownBlock] at h
        have := HLN.out
        omega
      · have h1 := lt_of_block HL2.out
        have h2 := HB2.out.size
        simp at h
        omega
    refine wpAnyE_take (i := 14) (v := ?_) rfl (by kernel_rfl) (by kernel_rfl) (fun _ _ _ h => h) (by kernel_rfl) (by kernel_rfl) (Or.inl ⟨by rfl, ?hy⟩) (by assumption) ?_
    case hy =>
      intro w hSw
      (try dsimp only at hSw)
      go_simp
      try with_reducible rfl
    (try simp only [List.getElem_toArray])
    (try simp only [List.getElem_cons_succ])
    (try simp only [List.getElem_cons_zero])
    (try simp only [Act.put])
    (try simp only [List.setIfInBounds_toArray])
    (try simp only [List.set_cons_succ])
    (try simp only [List.set_cons_zero])
    have f4 := not_frozen hl4 1
    have f40 := not_frozen hl4 0
    obtain ⟨c40, c41⟩ := c4
    refine wpAnyE_ready (rs := [15]) (by kernel_rfl) (by simp) ?_
    refine ReadyE.cons rfl (fun K' hK => ?_) ReadyE.nil
    go_simp
    refine hK.out _ _ (.inl rfl) ?_
    clear hK K'
    refine wpAnyE_done (by kernel_rfl) ?_ _
    refine NoPanic.normal ?_
    (try simp only [List.getElem_toArray])
    (try simp only [List.getElem_cons_succ])
    (try simp only [List.getElem_cons_zero])
    (try simp only [Act.put])
    (try simp only [List.setIfInBounds_toArray])
    (try simp only [List.set_cons_succ])
    (try simp only [List.set_cons_zero])
    obtain ⟨W5, hW5⟩ : ∃ W5, w4.setCell ⟨B3, 1, none⟩ (.slice (some ⟨nb, 0, none⟩) (2 + 2) cap') = W5 := ⟨_, rfl⟩
    have hl5 : W5.heap[B3]? = some (.cells #[.string ⟨#[115, 104, 97, 114, 101, 100]⟩, .slice (some ⟨nb, 0, none⟩) 4 cap'] 58 (0, 0)) := by
      rw [← hW5, heap_setCell_same _ _ _ _ _ _ hl4]
      rfl
    have hr5 : W5.heap[w.heap.size]? = some (.cells #[.string ⟨#[]⟩, .slice none 0 0] 58 (0, 0)) := by
      rw [← hW5]
      exact (Below.heap_setCell _ _ _ _ n2).trans hr4
    have HN5 := Lib.hid (hna.same (w' := W5) (by rw [← hW5]; exact Below.heap_setCell _ _ _ _ hnb.1))
    have HB5 : Hid (Below w.heap.size w W5) := Lib.hid (by rw [← hW5]; exact hb4.setCell (by show w.heap.size ≤ B3; have := HLL.out; omega) _)
    have HNB := Lib.hid hnb
    have HR5 := Lib.hid hr5
    rw [hW5]
    obtain ⟨l0, l1⟩ := two_cells hl5
    obtain ⟨z0, z1⟩ := two_cells hr5
    have fz0 := not_frozen hr5 0
    have fz1 := not_frozen hr5 1
    clear hW5 hl5 hr5 hna hb4 hnb f4 f40 c40 c41 hS4 hl4 hs4 hr4 hk4 hown hg hnew d4 hA hS0 hS1 HV0
    go_wp2
    refine bodyPost_ret (line_res rfl rfl (two_stored HR5.out)) rfl ?_
    have hr : ∀ a b, ((W5.setCell ⟨w.heap.size, 0, none⟩ a).setCell ⟨w.heap.size, 1, none⟩ b).heap[nb]? = W5.heap[nb]? := fun a b => (Below.heap_setCell _ _ _ _ (by show nb ≠ w.heap.size; have := HNB.out.2; omega)).trans (Below.heap_setCell _ _ _ _ (by show nb ≠ w.heap.size; have := HNB.out.2; omega))
    exact ⟨nb, cap', rfl, HN5.out.same (hr _ _), by have := HNB.out.2; omega, (HB5.out.setCell (Nat.le_refl _) _).setCell (Nat.le_refl _) _⟩
  · have hm := LkM.b w hT d
    obtain ⟨V, hV⟩ : ∃ V, (((((w.alloc (.cells #[.string ⟨#[]⟩, .slice none 0 0] 58)).alloc (.cells #[.int .i64 1, .int .i64 16] 100)).alloc (.cells #[.string ⟨#[108, 111, 99, 107]⟩, .slice (some ⟨w.heap.size + 1 + 1 + 1, 0, none⟩) 2 2] 58)).alloc (.cells #[.string ⟨#[115, 108, 105, 99, 101]⟩, .int .i64 1, .int .i64 16, .pointer (some ⟨T, 1, none⟩), .string ⟨#[99, 114, 105, 116]⟩, .int .i64 1, .int .i64 32, .pointer (some ⟨T, 2, none⟩)] 102)).drew) = V := ⟨_, rfl⟩
    obtain ⟨B3, hB3⟩ : ∃ B, w.heap.size + 1 + 1 + 1 = B := ⟨_, rfl⟩
    obtain ⟨B2, hB2⟩ : ∃ B, w.heap.size + 1 + 1 = B := ⟨_, rfl⟩
    rw [hV] at hm ⊢
    rw [hB3] at hm ⊢
    rw [hB2] at hm ⊢
    clear hV hB3 hB2 d
    have HM := Lib.hid hm
    have dT := hm.lck
    obtain ⟨l0, l1⟩ := two_cells hm.lin
    have fl0 := not_frozen hm.lin 0
    have fl1 := not_frozen hm.lin 1
    obtain ⟨z0, z1⟩ := two_cells hm.res
    have fz0 := not_frozen hm.res 0
    have fz1 := not_frozen hm.res 1
    have n1 : B3 ≠ B2 := hm.ne
    have n2 : w.heap.size ≠ B2 := by have := hm.hl; omega
    have n3 : w.heap.size ≠ B3 := by have := hm.hn; omega
    have n4 : B2 ≠ w.heap.size := by have := hm.hl; omega
    clear hm
    go_wp2_with fail
    obtain ⟨V2, hV2⟩ : ∃ V2, V.setCell ⟨B2, 0, none⟩ (.string ⟨#[115, 104, 97, 114, 101, 100]⟩) = V2 := ⟨_, rfl⟩
    have hb2 : ∀ k, k ≠ B2 → V2.heap[k]? = V.heap[k]? := fun k hk => by rw [← hV2]; exact Below.heap_setCell _ _ _ _ hk
    have hl2 : V2.heap[B2]? = some (.cells #[.string ⟨#[115, 104, 97, 114, 101, 100]⟩, .slice (some ⟨B3, 0, none⟩) 2 2] 58 (0, 0)) := by
      rw [← hV2, heap_setCell_same _ _ _ _ _ _ HM.out.lin]
      rfl
    have HB2 : Hid (Below w.heap.size w V2) := Lib.hid (by rw [← hV2]; exact HM.out.bel.setCell (by show w.heap.size ≤ B2; have := HM.out.hl; omega) _)
    rw [hV2]
    have HR2 := Lib.hid ((hb2 _ n2).trans HM.out.res)
    have HS2 := Lib.hid ((hb2 _ (by have := HM.out.hl; omega)).trans HM.out.spn)
    have HN2 := Lib.hid ((hb2 _ n1).trans HM.out.num)
    have HL2 := Lib.hid hl2
    have HLN := Lib.hid HM.out.hn
    have HLL := Lib.hid HM.out.hl
    have HV0 := Lib.hid (fun (W : World) (hs : ∀ k, k < V2.heap.size → W.heap[k]? = V2.heap[k]?) => (by
      have a := two_cells ((hs _ (lt_of_block HL2.out)).trans HL2.out)
      have b := two_cells ((hs _ (lt_of_block HS2.out)).trans HS2.out)
      exact ⟨a.2, b.1, b.2⟩ : W.cell? ⟨B2, 1, none⟩ = some (.slice (some ⟨B3, 0, none⟩) 2 2) ∧ W.cell? ⟨w.heap.size + 1, 0, none⟩ = some (.int .i64 1) ∧ W.cell? ⟨w.heap.size + 1, 1, none⟩ = some (.int .i64 16)))
    have hS1 := HV0.out V2.drew (fun k _ => rfl)
    clear hV2 hb2 hl2 dT l0 l1 fl0 fl1 z0 z1 fz0 fz1 HM
    have hmix : Tryz.prog.follows .mixedOrders = true := by kernel_rfl
    refine wp_region_noPanic ?_
    refine wp_region_last (fun V => V.cell? ⟨B2, 1, none⟩ = some (.slice (some ⟨B3, 0, none⟩) 2 2) ∧ V.cell? ⟨w.heap.size + 1, 0, none⟩ = some (.int .i64 1) ∧ V.cell? ⟨w.heap.size + 1, 1, none⟩ = some (.int .i64 16)) 15 hmix hS1 (fun hS0 => ?_)
    refine wpAnyE_take (i := 0) (v := ?_) rfl (by kernel_rfl) (by kernel_rfl) (fun _ _ _ h => h) (by kernel_rfl) (by kernel_rfl) (Or.inl ⟨by rfl, ?hy⟩) (by assumption) ?_
    case hy =>
      intro w hSw
      (try dsimp only at hSw)
      go_simp
      try with_reducible rfl
    (try simp only [List.getElem_toArray])
    (try simp only [List.getElem_cons_succ])
    (try simp only [List.getElem_cons_zero])
    (try simp only [Act.put])
    (try simp only [List.setIfInBounds_toArray])
    (try simp only [List.set_cons_succ])
    (try simp only [List.set_cons_zero])
    refine wpAnyE_take (i := 1) (v := ?_) rfl (by kernel_rfl) (by kernel_rfl) (fun _ _ _ h => h) (by kernel_rfl) (by kernel_rfl) (Or.inl ⟨by rfl, ?hy⟩) (by assumption) ?_
    case hy =>
      intro w hSw
      (try dsimp only at hSw)
      go_simp
      try with_reducible rfl
    (try simp only [List.getElem_toArray])
    (try simp only [List.getElem_cons_succ])
    (try simp only [List.getElem_cons_zero])
    (try simp only [Act.put])
    (try simp only [List.setIfInBounds_toArray])
    (try simp only [List.set_cons_succ])
    (try simp only [List.set_cons_zero])
    refine wpAnyE_take (i := 2) (v := ?_) rfl (by kernel_rfl) (by kernel_rfl) (fun _ _ _ h => h) (by kernel_rfl) (by kernel_rfl) (Or.inl ⟨by rfl, ?hy⟩) (by assumption) ?_
    case hy =>
      intro w hSw
      (try dsimp only at hSw)
      go_simp
      try with_reducible rfl
    (try simp only [List.getElem_toArray])
    (try simp only [List.getElem_cons_succ])
    (try simp only [List.getElem_cons_zero])
    (try simp only [Act.put])
    (try simp only [List.setIfInBounds_toArray])
    (try simp only [List.set_cons_succ])
    (try simp only [List.set_cons_zero])
    refine wpAnyE_take (i := 3) (v := ?_) rfl (by kernel_rfl) (by kernel_rfl) (fun _ _ _ h => h) (by kernel_rfl) (by kernel_rfl) (Or.inl ⟨by rfl, ?hy⟩) (by assumption) ?_
    case hy =>
      intro w hSw
      (try dsimp only at hSw)
      go_simp
      try with_reducible rfl
    (try simp only [List.getElem_toArray])
    (try simp only [List.getElem_cons_succ])
    (try simp only [List.getElem_cons_zero])
    (try simp only [Act.put])
    (try simp only [List.setIfInBounds_toArray])
    (try simp only [List.set_cons_succ])
    (try simp only [List.set_cons_zero])
    refine wpAnyE_take (i := 4) (v := ?_) rfl (by kernel_rfl) (by kernel_rfl) (fun _ _ _ h => h) (by kernel_rfl) (by kernel_rfl) (Or.inl ⟨by rfl, ?hy⟩) (by assumption) ?_
    case hy =>
      intro w hSw
      (try dsimp only at hSw)
      go_simp
      try with_reducible rfl
    (try simp only [List.getElem_toArray])
    (try simp only [List.getElem_cons_succ])
    (try simp only [List.getElem_cons_zero])
    (try simp only [Act.put])
    (try simp only [List.setIfInBounds_toArray])
    (try simp only [List.set_cons_succ])
    (try simp only [List.set_cons_zero])
    refine wpAnyE_take (i := 5) (v := ?_) rfl (by kernel_rfl) (by kernel_rfl) (fun _ _ _ h => h) (by kernel_rfl) (by kernel_rfl) (Or.inl ⟨by rfl, ?hy⟩) (by assumption) ?_
    case hy =>
      intro w hSw
      (try dsimp only at hSw)
      go_simp
      try with_reducible rfl
    (try simp only [List.getElem_toArray])
    (try simp only [List.getElem_cons_succ])
    (try simp only [List.getElem_cons_zero])
    (try simp only [Act.put])
    (try simp only [List.setIfInBounds_toArray])
    (try simp only [List.set_cons_succ])
    (try simp only [List.set_cons_zero])
    refine wpAnyE_take (i := 6) (v := ?_) rfl (by kernel_rfl) (by kernel_rfl) (fun _ _ _ h => h) (by kernel_rfl) (by kernel_rfl) (Or.inl ⟨by rfl, ?hy⟩) (by assumption) ?_
    case hy =>
      intro w hSw
      (try dsimp only at hSw)
      go_simp
      try with_reducible rfl
    (try simp only [List.getElem_toArray])
    (try simp only [List.getElem_cons_succ])
    (try simp only [List.getElem_cons_zero])
    (try simp only [Act.put])
    (try simp only [List.setIfInBounds_toArray])
    (try simp only [List.set_cons_succ])
    (try simp only [List.set_cons_zero])
    refine wpAnyE_take (i := 7) (v := ?_) rfl (by kernel_rfl) (by kernel_rfl) (fun _ _ _ h => h) (by kernel_rfl) (by kernel_rfl) (Or.inl ⟨by rfl, ?hy⟩) (by assumption) ?_
    case hy =>
      intro w hSw
      (try dsimp only at hSw)
      go_simp
      try with_reducible rfl
    (try simp only [List.getElem_toArray])
    (try simp only [List.getElem_cons_succ])
    (try simp only [List.getElem_cons_zero])
    (try simp only [Act.put])
    (try simp only [List.setIfInBounds_toArray])
    (try simp only [List.set_cons_succ])
    (try simp only [List.set_cons_zero])
    refine wpAnyE_take (i := 8) (v := ?_) rfl (by kernel_rfl) (by kernel_rfl) (fun _ _ _ h => h) (by kernel_rfl) (by kernel_rfl) (Or.inl ⟨by rfl, ?hy⟩) (by assumption) ?_
    case hy =>
      intro w hSw
      (try dsimp only at hSw)
      go_simp
      try with_reducible rfl
    (try simp only [List.getElem_toArray])
    (try simp only [List.getElem_cons_succ])
    (try simp only [List.getElem_cons_zero])
    (try simp only [Act.put])
    (try simp only [List.setIfInBounds_toArray])
    (try simp only [List.set_cons_succ])
    (try simp only [List.set_cons_zero])
    refine wpAnyE_take (i := 9) (v := ?_) rfl (by kernel_rfl) (by kernel_rfl) (fun _ _ _ h => h) (by kernel_rfl) (by kernel_rfl) (Or.inl ⟨by rfl, ?hy⟩) (by assumption) ?_
    case hy =>
      intro w hSw
      (try dsimp only at hSw)
      go_simp
      try with_reducible rfl
    (try simp only [List.getElem_toArray])
    (try simp only [List.getElem_cons_succ])
    (try simp only [List.getElem_cons_zero])
    (try simp only [Act.put])
    (try simp only [List.setIfInBounds_toArray])
    (try simp only [List.set_cons_succ])
    (try simp only [List.set_cons_zero])
    refine wpAnyE_take (i := 10) (v := ?_) rfl (by kernel_rfl) (by kernel_rfl) (fun _ _ _ h => h) (by kernel_rfl) (by kernel_rfl) (Or.inl ⟨by rfl, ?hy⟩) (by assumption) ?_
    case hy =>
      intro w hSw
      (try dsimp only at hSw)
      go_simp
      try with_reducible rfl
    (try simp only [List.getElem_toArray])
    (try simp only [List.getElem_cons_succ])
    (try simp only [List.getElem_cons_zero])
    (try simp only [Act.put])
    (try simp only [List.setIfInBounds_toArray])
    (try simp only [List.set_cons_succ])
    (try simp only [List.set_cons_zero])
    refine wpAnyE_take (i := 11) (v := ?_) rfl (by kernel_rfl) (by kernel_rfl) (fun _ _ _ h => h) (by kernel_rfl) (by kernel_rfl) (Or.inl ⟨by rfl, ?hy⟩) (by assumption) ?_
    case hy =>
      intro w hSw
      (try dsimp only at hSw)
      go_simp
      try with_reducible rfl
    (try simp only [List.getElem_toArray])
    (try simp only [List.getElem_cons_succ])
    (try simp only [List.getElem_cons_zero])
    (try simp only [Act.put])
    (try simp only [List.setIfInBounds_toArray])
    (try simp only [List.set_cons_succ])
    (try simp only [List.set_cons_zero])
    refine wpAnyE_ready (rs := [12]) (by kernel_rfl) (by simp) ?_
    refine ReadyE.cons rfl (fun K' hK => ?_) ReadyE.nil
    go_simp
    have hA := HV0.out (V2.drew.alloc (.cells #[.string ⟨#[114, 101, 97, 100]⟩, .int .i64 1, .int .i64 16, .pointer (some ⟨T, 3, none⟩), .string ⟨#[119, 114, 105, 116, 101]⟩, .int .i64 1, .int .i64 16, .pointer (some ⟨T, 4, none⟩)] 102)) (fun k hk => Below.heap_alloc _ _ _ (by simpa using hk))
    refine hK.out _ _ (.inr ?_) ?_
    · exact hA
    clear hK K'
    (try simp only [List.getElem_toArray])
    (try simp only [List.getElem_cons_succ])
    (try simp only [List.getElem_cons_zero])
    (try simp only [Act.put])
    (try simp only [List.setIfInBounds_toArray])
    (try simp only [List.set_cons_succ])
    (try simp only [List.set_cons_zero])
    refine wpAnyE_ready (rs := [13]) (by kernel_rfl) (by simp) ?_
    refine ReadyE.cons rfl (fun K' hK => ?_) ReadyE.nil
    refine step_append_any _ rfl (.tmp 24) (.tmp 35) 56 rfl 102 i0 (.agg #[.string ⟨#[]⟩, .int .i64 0, .int .i64 0, .pointer none]) 4 40 Tryz.underlying56 hi0 hz0 hz1 hz2 rfl (by decide) (.slice (some ⟨B3, 0, none⟩) 2 2) 2 [.string ⟨#[115, 108, 105, 99, 101]⟩, .int .i64 1, .int .i64 16, .pointer (some ⟨T, 1, none⟩), .string ⟨#[99, 114, 105, 116]⟩, .int .i64 1, .int .i64 32, .pointer (some ⟨T, 2, none⟩)] rfl (two_row (T := T) ((Below.heap_alloc _ _ _ (by have := lt_of_block HN2.out; simpa using this)).trans HN2.out)) (some ⟨V2.heap.size, 0, none⟩) 2 2 [.string ⟨#[114, 101, 97, 100]⟩, .int .i64 1, .int .i64 16, .pointer (some ⟨T, 3, none⟩), .string ⟨#[119, 114, 105, 116, 101]⟩, .int .i64 1, .int .i64 16, .pointer (some ⟨T, 4, none⟩)] rfl rfl (by intro h; cases h) (by intro ad had; cases had; exact more_at rfl) (more_ones T) (by decide) (by decide) ?_
    intro a' cap' w4 hown hg hnew
    have hk4 : ∀ k, k < V2.heap.size → k ≠ B3 → w4.heap[k]? = V2.heap[k]? := fun k hk hne => (hg.block k (by simp; omega) (by simp [Value.ownBlock]; omega)).trans (Below.heap_alloc _ _ _ (by simpa using hk))
    have hl4 := (hk4 _ (lt_of_block HL2.out) (by omega)).trans HL2.out
    have hs4 := (hk4 _ (lt_of_block HS2.out) (by have := HLN.out; omega)).trans HS2.out
    have hr4 := (hk4 _ (lt_of_block HR2.out) n3).trans HR2.out
    have c4 := two_cells hl4
    have d4 := two_cells hs4
    have hS4 := And.intro c4.2 (And.intro d4.1 d4.2)
    refine hK.out _ _ (.inr ?_) ?_
    · exact hS4
    clear hK K'
    (try simp only [List.getElem_toArray])
    (try simp only [List.getElem_cons_succ])
    (try simp only [List.getElem_cons_zero])
    (try simp only [Act.put])
    (try simp only [List.setIfInBounds_toArray])
    (try simp only [List.set_cons_succ])
    (try simp only [List.set_cons_zero])
    have hb4 : Below w.heap.size w w4 := HB2.out.trans (by
      have h5 : Below V2.heap.size V2 (V2.drew.alloc (.cells #[.string ⟨#[114, 101, 97, 100]⟩, .int .i64 1, .int .i64 16, .pointer (some ⟨T, 3, none⟩), .string ⟨#[119, 114, 105, 116, 101]⟩, .int .i64 1, .int .i64 16, .pointer (some ⟨T, 4, none⟩)] 102)) := (Below.refl _ _).drew.alloc (by simp) _
      exact (h5.mono HB2.out.size).grown hg (by have := HB2.out.size; simp; omega) (fun k hk => by have := HLN.out; simp [Value.ownBlock] at hk; omega))
    obtain ⟨nb, nc, hv, hna⟩ := NArg.four (T := T) hown
    injection hv with e1 e2 e3
    subst e1
    subst e3
    have hnb : nb ≠ B2 ∧ w.heap.size < nb := by
      rcases hnew nb (by simp [Value.ownBlock]) with h | h
      · simp [Value.ownBlock] at h
        have := HLN.out
        omega
      · have h1 := lt_of_block HL2.out
        have h2 := HB2.out.size
        simp at h
        omega
    refine wpAnyE_take (i := 14) (v := ?_) rfl (by kernel_rfl) (by kernel_rfl) (fun _ _ _ h => h) (by kernel_rfl) (by kernel_rfl) (Or.inl ⟨by rfl, ?hy⟩) (by assumption) ?_
    case hy =>
      intro w hSw
      (try dsimp only at hSw)
      go_simp
      try with_reducible rfl
    (try simp only [List.getElem_toArray])
    (try simp only [List.getElem_cons_succ])
    (try simp only [List.getElem_cons_zero])
    (try simp only [Act.put])
    (try simp only [List.setIfInBounds_toArray])
    (try simp only [List.set_cons_succ])
    (try simp only [List.set_cons_zero])
    have f4 := not_frozen hl4 1
    have f40 := not_frozen hl4 0
    obtain ⟨c40, c41⟩ := c4
    refine wpAnyE_ready (rs := [15]) (by kernel_rfl) (by simp) ?_
    refine ReadyE.cons rfl (fun K' hK => ?_) ReadyE.nil
    go_simp
    refine hK.out _ _ (.inl rfl) ?_
    clear hK K'
    refine wpAnyE_done (by kernel_rfl) ?_ _
    refine NoPanic.normal ?_
    (try simp only [List.getElem_toArray])
    (try simp only [List.getElem_cons_succ])
    (try simp only [List.getElem_cons_zero])
    (try simp only [Act.put])
    (try simp only [List.setIfInBounds_toArray])
    (try simp only [List.set_cons_succ])
    (try simp only [List.set_cons_zero])
    obtain ⟨W5, hW5⟩ : ∃ W5, w4.setCell ⟨B2, 1, none⟩ (.slice (some ⟨nb, 0, none⟩) (2 + 2) cap') = W5 := ⟨_, rfl⟩
    have hl5 : W5.heap[B2]? = some (.cells #[.string ⟨#[115, 104, 97, 114, 101, 100]⟩, .slice (some ⟨nb, 0, none⟩) 4 cap'] 58 (0, 0)) := by
      rw [← hW5, heap_setCell_same _ _ _ _ _ _ hl4]
      rfl
    have hr5 : W5.heap[w.heap.size]? = some (.cells #[.string ⟨#[]⟩, .slice none 0 0] 58 (0, 0)) := by
      rw [← hW5]
      exact (Below.heap_setCell _ _ _ _ n2).trans hr4
    have HN5 := Lib.hid (hna.same (w' := W5) (by rw [← hW5]; exact Below.heap_setCell _ _ _ _ hnb.1))
    have HB5 : Hid (Below w.heap.size w W5) := Lib.hid (by rw [← hW5]; exact hb4.setCell (by show w.heap.size ≤ B2; have := HLL.out; omega) _)
    have HNB := Lib.hid hnb
    have HR5 := Lib.hid hr5
    rw [hW5]
    obtain ⟨l0, l1⟩ := two_cells hl5
    obtain ⟨z0, z1⟩ := two_cells hr5
    have fz0 := not_frozen hr5 0
    have fz1 := not_frozen hr5 1
    clear hW5 hl5 hr5 hna hb4 hnb f4 f40 c40 c41 hS4 hl4 hs4 hr4 hk4 hown hg hnew d4 hA hS0 hS1 HV0
    go_wp2
    refine bodyPost_ret (line_res rfl rfl (two_stored HR5.out)) rfl ?_
    have hr : ∀ a b, ((W5.setCell ⟨w.heap.size, 0, none⟩ a).setCell ⟨w.heap.size, 1, none⟩ b).heap[nb]? = W5.heap[nb]? := fun a b => (Below.heap_setCell _ _ _ _ (by show nb ≠ w.heap.size; have := HNB.out.2; omega)).trans (Below.heap_setCell _ _ _ _ (by show nb ≠ w.heap.size; have := HNB.out.2; omega))
    exact ⟨nb, cap', rfl, HN5.out.same (hr _ _), by have := HNB.out.2; omega, (HB5.out.setCell (Nat.le_refl _) _).setCell (Nat.le_refl _) _⟩
/-- The line of a lock. -/
theorem lockline_any (T : Nat) (w : World) (sh : Bool) (hT : T < w.heap.size) (d : w.cell? ⟨T, 0, none⟩ = some (.bool sh)) :
    Calls Tryz.prog 53 #[.pointer (some ⟨T, 0, none⟩)] w (LineP (lkF sh) (lkN sh) T w) := by
  cases sh with
  | true => exact lockline_shared T w hT d
  | false => exact lockline_plain T w hT d
end Go.Proofs.YtmcfjlkjijaflaaGreatDoor
