/-
  A queue in memory: its arena, its map, its places; hasRoom, place, setBehind, setAhead (element type api.Wait; made by gen_ffw.py).
-/
import Derived.Test.YtiffgkmmibhklaaAnDropW
import Derived.Test.YtiffgkmmibhklaaFqSeg
import Derived.Test.YtiffgkmmibhklaaGA
namespace Go.Proofs.Ytiffgkmmibhklaa.Wq
open Go.RowKit Go.Maps

abbrev tQu : TypeId := 103
abbrev quC (ab gm : Nat) (fst lst l : Int) : Obj := .cells #[.pointer (some ⟨ab, 0, none⟩), .map (some gm), .int .i64 fst, .int .i64 lst, .int .i64 l] tQu
/-- Block b holds a queue: an arena of room m, slots S, free places F; a map of at most s entries that tells f; its first, its last place, its last ticket. -/
def FqRaw (w : World) (b : Nat) (X : List Nat) (m : Int) (S : List (Nd Wt × Bool)) (F : List Nat) (f : Int → Option Int) (s : Nat) (fst lst l : Int) : Prop :=
  ∃ ab gm Y D, w.heap[b]? = some (quC ab gm fst lst l) ∧ AnI w ab Y m S F ∧ w.ownsMap Try.prog tN (plainElem (H := Unit) Try.prog tN) gm (Maps.size D) D ∧ Maps.size D ≤ s ∧ ReadsF D f ∧ X = b :: gm :: Y

theorem AnI.type {w : World} {b : Nat} {X : List Nat} {m : Int} {S : List (Nd Wt × Bool)} {F : List Nat} (h : AnI w b X m S F) : ∀ k ∈ X, ∃ cs t, w.heap[k]? = some (.cells cs t (0, 0)) ∧ t ≠ tQu := by
  obtain ⟨sv, fv, h1, h2, h3, rfl⟩ := h
  intro k hk
  rcases List.mem_cons.1 hk with rfl | hk
  · exact ⟨_, _, h1, by decide⟩
  · rcases List.mem_append.1 hk with hk | hk
    · obtain ⟨cur, hc⟩ := ownsRow_type h2 k hk
      exact ⟨_, _, hc, by decide⟩
    · obtain ⟨cur, hc⟩ := ownsRow_type h3 k hk
      exact ⟨_, _, hc, by decide⟩

section
variable {w w' : World} {b : Nat} {X Y : List Nat} {m : Int} {S S' : List (Nd Wt × Bool)} {F F' : List Nat} {f : Int → Option Int} {s : Nat} {fst lst l : Int} {ab gm : Nat} {D : DataW Unit}
/-- The blocks of a queue are apart. -/
theorem fq_apart (hb : w.heap[b]? = some (quC ab gm fst lst l)) (ha : AnI w ab Y m S F) (hm : w.ownsMap Try.prog tN (plainElem (H := Unit) Try.prog tN) gm (Maps.size D) D) : b ∉ Y ∧ gm ∉ Y ∧ b ≠ gm := by
  refine ⟨fun h => ?_, fun h => ?_, (ownsMap_off hm hb).symm⟩
  · obtain ⟨cs, t, hc, ht⟩ := AnI.type ha b h
    rw [hb] at hc
    simp at hc
    exact ht hc.2.symm
  · obtain ⟨cs, t, hc, _⟩ := AnI.type ha gm h
    exact ownsMap_off hm hc rfl
theorem FqRaw.keep (h : FqRaw w b X m S F f s fst lst l) (ht : Turned Y w w') (hd : ∀ k ∈ X, k ∉ Y) : FqRaw w' b X m S F f s fst lst l := by
  obtain ⟨ab, gm, Z, D, h1, h2, h3, h4, h5, rfl⟩ := h
  exact ⟨ab, gm, Z, D, ht.same h1 (hd _ (by simp)), ArAt.keep h2 ht (fun k hk => hd k (by simp [hk])), ownsMap_same h3 (ht.block gm h3.lt (hd gm (by simp))), h4, h5, rfl⟩
theorem FqRaw.lt (h : FqRaw w b X m S F f s fst lst l) : ∀ k ∈ X, k < w.heap.size := by
  obtain ⟨ab, gm, Z, D, h1, h2, h3, h4, h5, rfl⟩ := h
  intro k hk
  simp only [List.mem_cons] at hk
  rcases hk with rfl | rfl | hk
  · exact lt_of_block h1
  · exact h3.lt
  · exact ArAt.lt h2 k hk
theorem FqRaw.head (h : FqRaw w b X m S F f s fst lst l) : b ∈ X := by
  obtain ⟨ab, gm, Z, D, h1, h2, h3, h4, h5, rfl⟩ := h
  simp
theorem FqRaw.drewN (h : FqRaw w b X m S F f s fst lst l) (n : Nat) : FqRaw (w.drewN n) b X m S F f s fst lst l := h.keep ((Turned.refl [] w).drewN n) (by simp)
/-- A field is turned. -/
theorem FqRaw.field (hb : w.heap[b]? = some (quC ab gm fst lst l)) (ha : AnI w ab Y m S F) (hm : w.ownsMap Try.prog tN (plainElem (H := Unit) Try.prog tN) gm (Maps.size D) D) (hs : Maps.size D ≤ s) (hf : ReadsF D f) {i : Nat} {u : Value} {fst' lst' l' : Int}
    (he : (#[Value.pointer (some ⟨ab, 0, none⟩), .map (some gm), .int .i64 fst, .int .i64 lst, .int .i64 l] : Array Value).setIfInBounds i u = #[.pointer (some ⟨ab, 0, none⟩), .map (some gm), .int .i64 fst', .int .i64 lst', .int .i64 l']) :
    FqRaw (w.setCell ⟨b, i, none⟩ u) b (b :: gm :: Y) m S F f s fst' lst' l' ∧ Turned (b :: gm :: Y) w (w.setCell ⟨b, i, none⟩ u) := by
  obtain ⟨a1, a2, a3⟩ := fq_apart hb ha hm
  have ht : Turned [b] w (w.setCell ⟨b, i, none⟩ u) := (Turned.refl _ w).setCell (.inl (by simp)) _
  refine ⟨⟨ab, gm, Y, D, ?_, ArAt.keep ha ht (fun k hk hx => ?_), hm.setCell (fun e => a3 e.symm) _, hs, hf, rfl⟩, ht.mono (fun k hk => .inl (by simp at hk; simp [hk]))⟩
  · rw [heap_setCell_same w b i _ _ _ hb, he]
  · simp at hx
    subst hx
    exact a1 hk
/-- The arena is turned. -/
theorem FqRaw.arena (hb : w.heap[b]? = some (quC ab gm fst lst l)) (ha : AnI w ab Y m S F) (hm : w.ownsMap Try.prog tN (plainElem (H := Unit) Try.prog tN) gm (Maps.size D) D) (hs : Maps.size D ≤ s) (hf : ReadsF D f) {Y' : List Nat}
    (ha' : AnI w' ab Y' m S' F') (ht : Turned Y w w') (hn : Newer Y w.heap.size Y') :
    FqRaw w' b (b :: gm :: Y') m S' F' f s fst lst l ∧ Turned (b :: gm :: Y) w w' ∧ Newer (b :: gm :: Y) w.heap.size (b :: gm :: Y') := by
  obtain ⟨a1, a2, a3⟩ := fq_apart hb ha hm
  refine ⟨⟨ab, gm, Y', D, ht.same hb a1, ha', ownsMap_same hm (ht.block gm hm.lt a2), hs, hf, rfl⟩, ht.mono (fun k hk => .inl (by simp [hk])), fun k hk => ?_⟩
  simp only [List.mem_cons] at hk ⊢
  rcases hk with h | h | h
  · exact .inl (.inl h)
  · exact .inl (.inr (.inl h))
  · rcases hn k h with h | h
    · exact .inl (.inr (.inr h))
    · exact .inr h
/-- The map is turned. -/
theorem FqRaw.map (hb : w.heap[b]? = some (quC ab gm fst lst l)) (ha : AnI w ab Y m S F) (hm : w.ownsMap Try.prog tN (plainElem (H := Unit) Try.prog tN) gm (Maps.size D) D) {D' : DataW Unit} {n' s' : Nat} {f' : Int → Option Int}
    (hm' : w'.ownsMap Try.prog tN (plainElem (H := Unit) Try.prog tN) gm n' D') (ht : w.mapTurned w' gm) (hs : Maps.size D' ≤ s') (hf : ReadsF D' f') :
    FqRaw w' b (b :: gm :: Y) m S F f' s' fst lst l ∧ Turned (b :: gm :: Y) w w' := by
  obtain ⟨a1, a2, a3⟩ := fq_apart hb ha hm
  have hT : Turned [gm] w w' := Turned.grown (Turned.refl [gm] w) ht.grown (fun k hk => .inl (by cases hk; simp))
  refine ⟨⟨ab, gm, Y, D', hT.same hb (by simp; exact a3), ArAt.keep ha hT (fun k hk hx => ?_), ownsMap_tight hm', hs, hf, rfl⟩, hT.mono (fun k hk => .inl (by simp at hk; simp [hk]))⟩
  simp at hx
  subst hx
  exact a2 hk
end

set_option maxHeartbeats 400000 in
theorem fqroom_any {w : World} {b : Nat} {X : List Nat} {m : Int} {S : List (Nd Wt × Bool)} {F : List Nat} {f : Int → Option Int} {s : Nat} {fst lst l : Int} (h : FqRaw w b X m S F f s fst lst l) (hS : S.length ≤ 1000000) (hF : F.length ≤ 1000000) :
    Calls Try.prog 63 #[.pointer (some ⟨b, 0, none⟩)] w fun e w' => e = .returned (.bool (decide ((S.length : Int) - F.length < m))) ∧ ∃ n, w' = w.drewN n := by
  obtain ⟨ab, gm, Y, D, hb, ha, hm, hs, hf, rfl⟩ := h
  have HL := Lib.hid (fun q : Nat => anlen_any (w := w.drewN q) (ha.keep ((Turned.refl [] w).drewN q) (by simp)) hS hF)
  have HM := Lib.hid (fun q : Nat => anmost_any (w := w.drewN q) (ha.keep ((Turned.refl [] w).drewN q) (by simp)))
  obtain ⟨c0, _, _, _, _, _⟩ := cells5 hb
  clear hb ha hm hs hf
  go_enter Try.func63, Try.ntmps63
  go_wp2
  go_quiet (first | (go_at_call 61; exact Calls.quiet_of (HL.out _)) | (go_at_call 76; exact Calls.quiet_of (HM.out _)))
  go_wp2
  go_ret
  exact ⟨rfl, _, rfl⟩

set_option maxHeartbeats 400000 in
theorem fqlen_any {w : World} {b : Nat} {X : List Nat} {m : Int} {S : List (Nd Wt × Bool)} {F : List Nat} {f : Int → Option Int} {s : Nat} {fst lst l : Int} (h : FqRaw w b X m S F f s fst lst l) (hS : S.length ≤ 1000000) (hF : F.length ≤ 1000000) :
    Calls Try.prog 44 #[.pointer (some ⟨b, 0, none⟩)] w fun e w' => e = .returned (.int .i64 ((S.length : Int) - F.length)) ∧ ∃ n, w' = w.drewN n := by
  obtain ⟨ab, gm, Y, D, hb, ha, hm, hs, hf, rfl⟩ := h
  have HL := Lib.hid (anlen_any ha hS hF)
  obtain ⟨c0, _, _, _, _, _⟩ := cells5 hb
  clear hb ha hm hs hf
  go_enter Try.func44, Try.ntmps44
  go_wp2_with fail
  refine HL.out.mono ?_
  rintro e w' ⟨rfl, n, rfl⟩
  go_wp2
  go_ret
  exact ⟨rfl, n, rfl⟩

set_option maxHeartbeats 400000 in
theorem fqplace_any {w : World} {b : Nat} {X : List Nat} {m : Int} {S : List (Nd Wt × Bool)} {F : List Nat} {f : Int → Option Int} {s : Nat} {fst lst l : Int} (h : FqRaw w b X m S F f s fst lst l) (t : Int) (ht : (litN t).wf = true) :
    Calls Try.prog 53 #[.pointer (some ⟨b, 0, none⟩), .int .i64 t] w fun e w' => e = .returned (.tuple #[.int .i64 ((f t).getD 0), .bool (f t).isSome]) ∧ w = w' := by
  obtain ⟨ab, gm, Y, D, hb, ha, hm, hs, hf, rfl⟩ := h
  have hlook := look_eq hm hf ht
  obtain ⟨_, c1, _, _, _, _⟩ := cells5 hb
  clear hb ha hm hs hf
  go_enter Try.func53, Try.ntmps53
  go_wp2
  go_ret2
  exact ⟨rfl, rfl⟩
end Go.Proofs.Ytiffgkmmibhklaa.Wq
