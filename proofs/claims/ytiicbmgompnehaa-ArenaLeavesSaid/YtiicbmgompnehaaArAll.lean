/-
  slices.Clone of slots; (*Arena[int]).All; what the loop over it goes over.
-/
import Derived.Test.YtiicbmgompnehaaArSeq
import Derived.Test.YtiicbmgompnehaaArPut
import Derived.Shelf.Abstract
import Derived.Lib.SliceRun
import Derived.OwnWalkIn
import Derived.TacticsInMore
import Derived.LoopNIn
import Derived.LoopIn
namespace Go.Proofs.Ytiicbmgompnehaa
open Go.RowKit Go.Shelf

attribute [local go_sem] Oper.semAt_some

theorem rows_new {w : World} {t : TypeId} (h : 0 ≤ w.heap.size) : (w.alloc (.cells #[] t)).ownsRow 0 t 2 (.slice (some ⟨w.heap.size, 0, none⟩) 0 0) 0 [] :=
  World.ownsRow_made w #[] 0 h (by simp) (by simp)

theorem slots_one {α : Type} {enc : α → List Value} (h1 : ∀ x, ∀ u ∈ enc x, u.oneCell' = true) (S : List (α × Bool)) : ∀ u ∈ slots enc S, u.oneCell' = true := by
  intro u hu
  simp only [slots, List.mem_flatMap] at hu
  obtain ⟨s, _, hs⟩ := hu
  rcases List.mem_append.1 hs with h | h
  · exact h1 _ u h
  · simp at h; subst h; rfl

set_option maxHeartbeats 400000 in
theorem clone_nil (w : World) : Calls Try.prog 32 #[.slice none 0 0] w fun e w' => e = .returned (.slice none 0 0) ∧ w' = w := by
  have hnil : ∀ (w : World) (a : Option Addr) (n c : Nat), (binOp .eql 61 (.slice a n c) (.slice none 0 0)).run Try.prog w = .ok (.bool a.isNone) w := fun w a n c => Lib.run_eql_slice_nil w _ _ a n c 0 0 Try.underlying61
  go_enter Try.func32, Try.ntmps32
  go_wp2
  go_ret
  exact ⟨rfl, rfl⟩
set_option maxHeartbeats 400000 in
theorem clone_some {w : World} {S : List (Int × Bool)} {g n cap : Nat} (hn : n = S.length) (h : w.ownsRow 0 65 2 (.slice (some ⟨g, 0, none⟩) n cap) n (slots encI S)) (hp : 0 < n) (hS : n ≤ 1000000) :
    Calls Try.prog 32 #[.slice (some ⟨g, 0, none⟩) n cap] w fun e w' =>
      ∃ g' cap', e = .returned (.slice (some ⟨g', 0, none⟩) n cap') ∧ w.heap.size ≤ g' ∧ w'.ownsRow 0 65 2 (.slice (some ⟨g', 0, none⟩) n cap') n (slots encI S) ∧ Turned [] w w' := by
  obtain ⟨i0, hi, hz0, hz1, hz2⟩ := info_parts infoSlotI
  have hlt : g < w.heap.size := ownsRow_lt h g (by simp [Value.ownBlock])
  have hcells : ∀ j u, (slots encI S)[j]? = some u → (w.alloc (.cells #[] 65)).cell? ((⟨g, 0, none⟩ : Addr).add j) = some u := (h.alloc _).cells rfl
  have hlen : (slots encI S).length = n * 2 := by rw [hn]; exact slots_len (k := 1) (fun _ => rfl) S
  have HC := Lib.hid hcells
  have HL := Lib.hid hlen
  clear hcells hlen h hn
  have hnil : ∀ (w : World) (a : Option Addr) (n c : Nat), (binOp .eql 61 (.slice a n c) (.slice none 0 0)).run Try.prog w = .ok (.bool a.isNone) w := fun w a n c => Lib.run_eql_slice_nil w _ _ a n c 0 0 Try.underlying61
  go_enter Try.func32, Try.ntmps32
  go_wp2_with (at_builtin; refine wpList_append_at _ rfl _ _ 61 rfl 65 i0 (.agg #[.int .i64 0, .bool false]) 2 16 Try.underlying61 hi hz0 hz1 hz2 rfl (by decide) _ 0 [] rfl (rows_new (Nat.zero_le _)) ⟨g, 0, none⟩ n cap (slots encI S) rfl hp HL.out HC.out (slots_one (by intro x u hu; simp at hu; subst hu; rfl) S) (by unfold maxLen; omega) (by omega) ?_)
  intro g' cp w1 hown hgrow hw _ _
  have hw' : w.heap.size ≤ g' := by
    rcases hw with hw | hw
    · simp [Value.ownBlock] at hw; omega
    · try simp at hw
      omega
  have hT : Turned [] w w1 := ((Turned.refl [] w).alloc _).grown hgrow (fun k hk => .inr (by simp [Value.ownBlock] at hk; omega))
  have HO := Lib.hid hown
  have HT := Lib.hid hT
  clear hown hgrow hw hT
  go_wp2
  go_ret
  exact ⟨_, _, rfl, hw', HO.out, HT.out⟩

set_option maxHeartbeats 400000 in
theorem clone_zero {w : World} {g cap : Nat} :
    Calls Try.prog 32 #[.slice (some ⟨g, 0, none⟩) 0 cap] w fun e w' =>
      ∃ g' cap', e = .returned (.slice (some ⟨g', 0, none⟩) 0 cap') ∧ w.heap.size ≤ g' ∧ w'.ownsRow 0 65 2 (.slice (some ⟨g', 0, none⟩) 0 cap') 0 [] ∧ Turned [] w w' := by
  obtain ⟨i0, hi, hz0, hz1, hz2⟩ := info_parts infoSlotI
  have hnil : ∀ (w : World) (a : Option Addr) (n c : Nat), (binOp .eql 61 (.slice a n c) (.slice none 0 0)).run Try.prog w = .ok (.bool a.isNone) w := fun w a n c => Lib.run_eql_slice_nil w _ _ a n c 0 0 Try.underlying61
  clear hz0 hz2
  go_enter Try.func32, Try.ntmps32
  go_wp2_with (at_builtin; refine wpList_append_fits _ rfl _ _ 61 rfl 0 65 i0 2 Try.underlying61 hi hz1 w.heap.size 0 0 [] rfl (rows_new (Nat.zero_le _)) ⟨g, 0, none⟩ 0 cap [] rfl rfl (by intro j u h; simp at h) (by intro u h; simp at h) (Nat.le_refl _) ?_)
  intro w1 hown hgrow
  have hT : Turned [] w w1 := ((Turned.refl [] w).alloc _).grown hgrow (fun k hk => .inr (by simp at hk; omega))
  have HO := Lib.hid hown
  have HT := Lib.hid hT
  clear hown hgrow hT
  go_wp2
  go_ret
  exact ⟨_, _, rfl, Nat.le_refl _, HO.out, HT.out⟩
theorem clone_any {w : World} {S : List (Int × Bool)} {g n cap : Nat} (hn : n = S.length) (h : w.ownsRow 0 65 2 (.slice (some ⟨g, 0, none⟩) n cap) n (slots encI S)) (hS : n ≤ 1000000) :
    Calls Try.prog 32 #[.slice (some ⟨g, 0, none⟩) n cap] w fun e w' =>
      ∃ g' cap', e = .returned (.slice (some ⟨g', 0, none⟩) n cap') ∧ w.heap.size ≤ g' ∧ w'.ownsRow 0 65 2 (.slice (some ⟨g', 0, none⟩) n cap') n (slots encI S) ∧ Turned [] w w' := by
  by_cases hp : 0 < n
  · exact clone_some hn h hp hS
  · obtain rfl : n = 0 := by omega
    obtain rfl : S = [] := List.eq_nil_of_length_eq_zero hn.symm
    exact clone_zero

/-- What the box of a loop over an arena holds: the slots, cloned. -/
def KeptSlots (tS tSl : TypeId) {α : Type} (enc : α → List Value) (k : Nat) (n₀ : Nat) (w : World) (B : Nat) (S : List (α × Bool)) : Prop :=
  ∃ cv, Boxed w B tSl cv ∧ n₀ ≤ B ∧ w.ownsRow 0 tS (k + 1) cv S.length (slots enc S) ∧ (∀ g ∈ cv.ownBlock.toList, n₀ ≤ g)

set_option maxHeartbeats 400000 in
theorem all_nil (w : World) : Calls Try.prog 19 #[.pointer none] w fun e w' => e = .returned (.func (.func 31) #[] #[]) ∧ w' = w := by
  go_enter Try.func19, Try.ntmps19
  go_wp2
  go_ret
  exact ⟨rfl, rfl⟩
set_option maxHeartbeats 400000 in
theorem all_none {w : World} {b : Nat} (hc : w.cell? ⟨b, 1, none⟩ = some (.slice none 0 0)) :
    Calls Try.prog 19 #[.pointer (some ⟨b, 0, none⟩)] w fun e w' => e = .returned (.func (.func 33) #[] #[.pointer (some ⟨w.heap.size, 0, none⟩)]) ∧ w' = w.alloc (.cells #[.slice none 0 0] 61) := by
  go_enter Try.func19, Try.ntmps19
  go_wp2_with (go_at_call 32; refine (clone_nil _).mono ?_; rintro e w' ⟨rfl, rfl⟩)
  go_ret
  exact ⟨rfl, rfl⟩
set_option maxHeartbeats 400000 in
theorem all_some {w : World} {b : Nat} {S : List (Int × Bool)} {g n cap : Nat} (hn : n = S.length) (hc : w.cell? ⟨b, 1, none⟩ = some (.slice (some ⟨g, 0, none⟩) n cap)) (h : w.ownsRow 0 65 2 (.slice (some ⟨g, 0, none⟩) n cap) n (slots encI S)) (hS : n ≤ 1000000) :
    Calls Try.prog 19 #[.pointer (some ⟨b, 0, none⟩)] w fun e w' => ∃ B, e = .returned (.func (.func 33) #[] #[.pointer (some ⟨B, 0, none⟩)]) ∧
      KeptSlots 65 61 encI 1 w.heap.size w' B S ∧ Turned [] w w' := by
  have HC := Lib.hid (clone_any hn h hS)
  have HN := Lib.hid hn
  clear h hn
  go_enter Try.func19, Try.ntmps19
  go_wp2_with (go_at_call 32; refine HC.out.mono ?_; rintro e w1 ⟨g', cap', rfl, hg, hown, hT⟩)
  go_ret
  refine ⟨_, rfl, ⟨_, Boxed.new w1 _ _, hT.size, ?_, ?_⟩, hT.alloc _⟩
  · rw [← HN.out]
    exact hown.alloc _
  · intro k hk
    simp [Value.ownBlock] at hk
    omega

theorem all_any {w : World} {b : Nat} {X : List Nat} {m : Int} {S : List (Int × Bool)} {F : List Nat} (h : ArI w b X m S F) (hS : S.length ≤ 1000000) :
    Calls Try.prog 19 #[.pointer (some ⟨b, 0, none⟩)] w fun e w' => ∃ B, e = .returned (.func (.func 33) #[] #[.pointer (some ⟨B, 0, none⟩)]) ∧
      KeptSlots 65 61 encI 1 w.heap.size w' B S ∧ Turned [] w w' := by
  obtain ⟨sv, fv, h1, h2, h3, _⟩ := h
  obtain ⟨_, c1, _, _⟩ := cells3 h1
  rcases h2.2 with ⟨rfl, hn⟩ | ⟨g, cap, cur, rfl, _⟩
  · refine (all_none c1).mono ?_
    rintro e w' ⟨rfl, rfl⟩
    obtain rfl : S = [] := List.eq_nil_of_length_eq_zero hn
    exact ⟨_, rfl, ⟨_, Boxed.new _ _ _, Nat.le_refl _, World.ownsRow_nil _ _ _ _, by intro g hg; simp [Value.ownBlock] at hg⟩, (Turned.refl _ _).alloc _⟩
  · exact all_some rfl c1 h2 hS

/-- The loop's own reading: the box, and the slots' cells. -/
theorem all2_in (F : Fence) (n : Nat) (hf : F.fn 33) (hro : F.round = none) (hn : 1 ≤ n) (l B g n₀ cap : Nat) (X : List Nat) (S : List (Int × Bool)) (hS : S.length ≤ 1000000) (hg : g < n₀) (hgX : g ∉ X)
    (J Jx : List (Nat × Int) → World → Prop) (hJa : ∀ pre W o, J pre W → J pre (W.alloc o))
    (hY : ∀ pre x W, J pre W → pre.length < S.length → YieldAt F (n - 1) Try.prog l #[.int .i64 (x.1 : Int), .int .i64 x.2] W fun e W' =>
      (e = .returned (.bool true) ∧ J (pre ++ [x]) W' ∧ Kept X n₀ W W') ∨ (e = .returned (.bool false) ∧ Jx (pre ++ [x]) W'))
    (W : World) (hn₀ : n₀ ≤ W.heap.size) (hBs : Boxed W B 61 (.slice (some ⟨g, 0, none⟩) S.length cap)) (hr : W.ownsRow 0 65 2 (.slice (some ⟨g, 0, none⟩) S.length cap) S.length (slots encI S)) (h0 : J [] W) :
    CallsIn F n Try.prog 33 #[.func (.yield l) #[] #[], .pointer (some ⟨B, 0, none⟩)] W fun e W' => (∃ v, e = .returned v) ∧
      ((∃ ys, ys = items S ∧ J ys W') ∨ (∃ pre, (∃ k, k ≤ S.length ∧ pre = items (S.take k)) ∧ Jx pre W')) := by
  have hc0 := hBs.cell
  refine callsIn_of_wp Try.func33 rfl hf ?_ hro
  simp only [Try.ntmps33, List.size_toArray, List.length_cons, List.length_nil, Nat.reduceAdd, Nat.reduceSub, Array.replicate_succ, Array.replicate_zero, List.push_toArray, List.append_toArray, List.nil_append, List.cons_append]
  gi_wp2
  gi_loopw [7] (fun i wr => ∃ k : Nat, k ≤ S.length ∧ i = .int .i64 k ∧ J (items (S.take k)) wr ∧ Kept X n₀ W wr)
    (fun i _ => S.length - (intOf i).toNat)
  case atStart => exact ⟨0, Nat.zero_le _, rfl, h0, Kept.refl _ _ _⟩
  case round =>
    obtain ⟨k, hk, rfl, hJs, hnx⟩ := hrel
    by_cases hlt : k < S.length
    · obtain ⟨⟨v, t⟩, hs⟩ : ∃ p, S[k]? = some p := ⟨_, List.getElem?_eq_getElem hlt⟩
      have hr' := hnx.row hr (by intro q hq; simp [Value.ownBlock] at hq; subst hq; exact ⟨hg, hgX⟩)
      obtain ⟨s0, s1, _⟩ := slot_cells hr' rfl hs
      have i1 : (k : Int) < S.length := by omega
      have hsz : n₀ ≤ wr.heap.size := by have := hnx.size; omega
      cases t with
      | false =>
        clear hr' hBs hr
        gi_wp2
        refine ⟨fun _ h => (by cases h), ?_⟩
        gi_wp2
        go_roundw
        case rel => exact ⟨k + 1, by omega, by simp, by rw [items_take_no hs]; exact hJa _ _ _ hJs, hnx.alloc hsz _⟩
        case measure => simp [intOf]; omega
      | true =>
        obtain ⟨fn, tmps, assign, body, hy, hR⟩ := hY _ (k, v) (wr.alloc (.cells #[.int .i64 v, .bool true] 65)) (hJa _ _ _ hJs) (by have := items_take_length S k; omega)
        dsimp only at hy
        clear hr' hBs hr
        gi_wp2
        refine hR.mono ?_
        rintro e W3 (⟨rfl, hJ3, hk3⟩ | ⟨rfl, hJx3⟩)
        · gi_wp2
          go_roundw
          case rel => exact ⟨k + 1, by omega, by simp, by rw [items_take_yes hs]; exact hJ3, (hnx.alloc hsz _).trans hk3⟩
          case measure => simp [intOf]; omega
        · gi_wp2
          refine bodyPost_ret (results_none rfl _ _ _) rfl ?_
          exact ⟨⟨_, rfl⟩, .inr ⟨_, ⟨k + 1, by omega, (items_take_yes hs).symm⟩, hJx3⟩⟩
    · obtain rfl : k = S.length := by omega
      gi_wp2
      go_end0
      exact ⟨⟨_, rfl⟩, .inl ⟨_, by rw [List.take_length], hJs⟩⟩

/-- .. of nothing. -/
theorem all2_none (F : Fence) (n : Nat) (hf : F.fn 33) (hro : F.round = none) (l B : Nat) (J : List (Nat × Int) → World → Prop) (W : World) (hBs : Boxed W B 61 (.slice none 0 0)) (h0 : J [] W) :
    CallsIn F n Try.prog 33 #[.func (.yield l) #[] #[], .pointer (some ⟨B, 0, none⟩)] W fun e W' => (∃ v, e = .returned v) ∧ J [] W' := by
  have hc0 := hBs.cell
  refine callsIn_of_wp Try.func33 rfl hf ?_ hro
  simp only [Try.ntmps33, List.size_toArray, List.length_cons, List.length_nil, Nat.reduceAdd, Nat.reduceSub, Array.replicate_succ, Array.replicate_zero, List.push_toArray, List.append_toArray, List.nil_append, List.cons_append]
  gi_wp2
  gi_loopw [7] (fun i wr => i = .int .i64 0 ∧ J [] wr) (fun _ _ => 0)
  case atStart => exact ⟨rfl, h0⟩
  case round =>
    obtain ⟨rfl, hJs⟩ := hrel
    gi_wp2
    go_end0
    exact ⟨⟨_, rfl⟩, hJs⟩

/-- **THE LOOP OVER AN ARENA**: all taken slots, in order; or the first ones of them. -/
theorem all_stops (F : Fence) (n : Nat) (hf : F.fn 33) (hro : F.round = none) (hn : 1 ≤ n) (B n₀ n₁ : Nat) (X : List Nat) (S : List (Int × Bool)) (hS : S.length ≤ 1000000) (w : World) (hn₀ : n₀ ≤ w.heap.size)
    (h : KeptSlots 65 61 encI 1 n₁ w B S) (hX : ∀ x ∈ X, x < n₁) (hn₀' : w.heap.size ≤ n₀) :
    SeqStopsK F n Try.prog 33 #[.pointer (some ⟨B, 0, none⟩)] (fun x : Nat × Int => #[Value.int .i64 (x.1 : Int), Value.int .i64 x.2]) (Kept X n₀) (fun ys => ys = items S)
      (fun pre => ∃ k, k ≤ S.length ∧ pre = items (S.take k)) S.length w := fun l J Jx W hW hJ _ hY h0 => by
  obtain ⟨cv, hB, hBn, hr, hg⟩ := h
  have hB' : Boxed W B 61 cv := (hW.block B (lt_of_block hB)).trans hB
  have hr' : W.ownsRow 0 65 2 cv S.length (slots encI S) := ownsRow_same hr fun k _ hk => hW.block k hk
  have hlt := ownsRow_lt hr
  rcases hr'.2 with ⟨rfl, hz⟩ | ⟨g, cap, cur, rfl, _⟩
  · obtain rfl : S = [] := List.eq_nil_of_length_eq_zero hz
    exact (all2_none F n hf hro l B J W hB' h0).mono fun e W' ⟨he, hj⟩ => ⟨he, .inl ⟨_, rfl, hj⟩⟩
  · have hgm : g ∈ (Value.slice (some ⟨g, 0, none⟩) S.length cap).ownBlock.toList := by simp [Value.ownBlock]
    exact all2_in F n hf hro hn l B g n₀ cap X S hS (by have := hlt g hgm; omega) (fun hx => by have := hX g hx; have := hg g hgm; omega) J Jx
      (fun pre W o hs => hJ pre W (W.alloc o) none hs (World.grownBy_alloc W o none) (fun r e => by cases e)) hY W (by have := hW.size; omega) hB' hr' h0
end Go.Proofs.Ytiicbmgompnehaa
