/-
  The calls of (*Arena[[2]int]): made by program out of those of (*Arena[int]).
-/
import Derived.Test.YtiicbmgompnehaaArAll
import Derived.Test.YtiicbmgompnehaaArRef
namespace Go.Proofs.Ytiicbmgompnehaa.Pr
open Go.RowKit Go.Shelf

attribute [local go_sem] Oper.semAt_some

abbrev encP (x : Int × Int) : List Value := [.int .i64 x.1, .int .i64 x.2]
abbrev ArP (w : World) (b : Nat) (X : List Nat) (m : Int) (S : List ((Int × Int) × Bool)) (F : List Nat) : Prop := ArAt 69 71 encP 2 w b X m S F

theorem rows_new {w : World} {t : TypeId} (h : 0 ≤ w.heap.size) : (w.alloc (.cells #[] t)).ownsRow 0 t 3 (.slice (some ⟨w.heap.size, 0, none⟩) 0 0) 0 [] :=
  World.ownsRow_made w #[] 0 h (by simp) (by simp)

theorem slot_cells {w : World} {g n cap : Nat} {S : List ((Int × Int) × Bool)} {j : Nat} {v : Int × Int} {t : Bool} (h : w.ownsRow 0 71 3 (.slice (some ⟨g, 0, none⟩) n cap) n (slots encP S)) (hn : n = S.length) (hj : S[j]? = some (v, t)) :
    w.cell? ⟨g, j * 3, none⟩ = some (.int .i64 v.1) ∧ w.cell? ⟨g, j * 3 + 1, none⟩ = some (.int .i64 v.2) ∧ w.cell? ⟨g, j * 3 + 2, none⟩ = some (.bool t) ∧
      (w.frozen? ⟨g, j * 3, none⟩ = false ∧ w.frozen? ⟨g, j * 3 + 1, none⟩ = false ∧ w.frozen? ⟨g, j * 3 + 2, none⟩ = false) := by
  obtain ⟨hl, he⟩ := List.getElem?_eq_some_iff.1 hj
  have g0 := slots_get (enc := encP) (k := 2) (fun _ => rfl) S j 0 hl (by omega)
  have g1 := slots_get (enc := encP) (k := 2) (fun _ => rfl) S j 1 hl (by omega)
  have g2 := slots_get (enc := encP) (k := 2) (fun _ => rfl) S j 2 hl (by omega)
  rw [he] at g0 g1 g2
  refine ⟨?_, ?_, ?_, h.frozenAt _, h.frozenAt _, h.frozenAt _⟩
  · rw [h.cellAt _ (by omega)]; simpa using g0
  · rw [h.cellAt _ (by omega)]; simpa using g1
  · rw [h.cellAt _ (by omega)]; simpa using g2

theorem three_new (w : World) (x y z : Value) (t : TypeId) : ∀ j u, [x, y, z][j]? = some u → (w.alloc (.cells #[x, y, z] t)).cell? ((⟨w.heap.size, 0, none⟩ : Addr).add j) = some u := by
  intro j u hj
  have hh := heap_alloc_new w (.cells #[x, y, z] t)
  rw [Addr.add_lit]
  simp only [World.cell?, hh]
  match j, hj with
  | 0, hj => simpa using hj
  | 1, hj => simpa using hj
  | 2, hj => simpa using hj

theorem len_any {w : World} {b : Nat} {X : List Nat} {m : Int} {S : List ((Int × Int) × Bool)} {F : List Nat} (h : ArP w b X m S F) (hS : S.length ≤ 1000000) (hF : F.length ≤ 1000000) :
    Calls Try.prog 34 #[.pointer (some ⟨b, 0, none⟩)] w fun e w' => e = .returned (.int .i64 ((S.length : Int) - F.length)) ∧ ∃ n, w' = w.drewN n := by
  obtain ⟨sv, fv, h1, h2, h3, _⟩ := h
  obtain ⟨_, c1, c2, _⟩ := cells3 h1
  obtain ⟨a, cap, rfl, _, _⟩ := ownsRow_shape h2
  obtain ⟨a', cap', rfl, _, _⟩ := ownsRow_shape h3
  clear h1 h2 h3
  go_enter Try.func34, Try.ntmps34
  go_wp2
  go_quiet (fail)
  go_wp2
  go_ret
  exact ⟨rfl, _, rfl⟩

theorem infoSlotP : (Try.prog.info? 71).map (fun i => (i.zero, i.size, i.bytes)) = some (some (.agg #[.int .i64 0, .int .i64 0, .bool false]), 3, 24) := by kernel_rfl

theorem open_new {w : World} {b : Nat} {X : List Nat} {m : Int} {S : List ((Int × Int) × Bool)} (h : ArP w b X m S []) (hS : S.length ≤ 1000000) :
    Calls Try.prog 35 #[.pointer (some ⟨b, 0, none⟩)] w fun e w' => e = .returned (.int .i64 (S.length : Int)) ∧ ∃ X', ArP w' b X' m (S ++ [((0, 0), false)]) [] ∧ Turned X w w' ∧ Newer X w.heap.size X' := by
  obtain ⟨sv, fv, h1, h2, h3, rfl⟩ := h
  obtain ⟨_, c1, c2, hf⟩ := cells3 h1
  obtain ⟨a, cap, hsv, _, _⟩ := ownsRow_shape h2
  obtain ⟨a', cap', hfv, _, _⟩ := ownsRow_shape h3
  obtain ⟨i0, hi, hz0, hz1, hz2⟩ := info_parts infoSlotP
  have hf1 := hf 1
  have hf2 := hf 2
  have H1 := Lib.hid h1
  have H2 := Lib.hid h2
  have H3 := Lib.hid h3
  have HS := Lib.hid hsv
  have hsl := hS
  rw [hsv] at c1
  rw [hfv] at c2
  clear h1 h2 h3 hf hsv hfv hS
  go_enter Try.func35, Try.ntmps35
  go_wp2_with (at_builtin; refine wpList_append_at _ rfl _ _ 67 rfl 71 i0 (.agg #[.int .i64 0, .int .i64 0, .bool false]) 3 24 Try.underlying67 hi hz0 hz1 hz2 rfl (by decide) _ S.length (slots encP S) rfl (by rw [← HS.out]; exact H2.out.alloc _) ⟨w.heap.size, 0, none⟩ 1 1 [.int .i64 0, .int .i64 0, .bool false] rfl (by decide) rfl (three_new _ _ _ _ _) (by intro u hu; simp at hu; rcases hu with rfl | rfl <;> rfl) (by unfold maxLen; omega) (by omega) ?_)
  intro g cp w1 hown hgrow hw _ _
  rw [← HS.out] at hgrow hw
  obtain ⟨hb1, _⟩ := ArAt.appended1 (k := 2) H1.out H2.out H3.out (by decide) (by decide) _ hgrow
  have R := ArAt.appended2 (k := 2) H1.out H2.out H3.out (by decide) (by decide) (by decide) _ hgrow (n := S.length + 1) (T := S ++ [((0, 0), false)]) (by simp) (by rw [slots_append]; exact hown) (by simpa using hw)
  obtain ⟨_, d1, _, hf⟩ := cells3 hb1
  have e1 := hf 1
  have RR := Lib.hid R
  clear hown hgrow hw R hb1 hf c1 c2 hf1 hf2
  go_wp2
  go_ret
  exact ⟨rfl, RR.out⟩

theorem new_any (m : Int) (w : World) : Calls Try.prog 20 #[.int .i64 m] w fun e w' => e = .returned (.pointer (some ⟨w.heap.size, 0, none⟩)) ∧
    w' = w.alloc (.cells #[.int .i64 (min (max m 0) 4096), .slice none 0 0, .slice none 0 0] 69) := by
  by_cases h0 : m < 0
  · rw [show min (max m 0) 4096 = 0 by omega]
    go_enter Try.func20, Try.ntmps20
    go_wp2
    go_ret
    exact ⟨rfl, rfl⟩
  · by_cases h1 : m > 4096
    · rw [show min (max m 0) 4096 = 4096 by omega]
      have h1' : 4096 < m := by omega
      clear h1
      go_enter Try.func20, Try.ntmps20
      go_wp2
      go_ret
      exact ⟨rfl, rfl⟩
    · rw [show min (max m 0) 4096 = m by omega]
      have h0' : 0 ≤ m := by omega
      have h1' : m ≤ 4096 := by omega
      clear h0 h1
      go_enter Try.func20, Try.ntmps20
      go_wp2
      go_ret
      exact ⟨rfl, rfl⟩

theorem clone_nil (w : World) : Calls Try.prog 37 #[.slice none 0 0] w fun e w' => e = .returned (.slice none 0 0) ∧ w' = w := by
  have hnil : ∀ (w : World) (a : Option Addr) (n c : Nat), (binOp .eql 67 (.slice a n c) (.slice none 0 0)).run Try.prog w = .ok (.bool a.isNone) w := fun w a n c => Lib.run_eql_slice_nil w _ _ a n c 0 0 Try.underlying67
  go_enter Try.func37, Try.ntmps37
  go_wp2
  go_ret
  exact ⟨rfl, rfl⟩

theorem clone_some {w : World} {S : List ((Int × Int) × Bool)} {g n cap : Nat} (hn : n = S.length) (h : w.ownsRow 0 71 3 (.slice (some ⟨g, 0, none⟩) n cap) n (slots encP S)) (hp : 0 < n) (hS : n ≤ 1000000) :
    Calls Try.prog 37 #[.slice (some ⟨g, 0, none⟩) n cap] w fun e w' =>
      ∃ g' cap', e = .returned (.slice (some ⟨g', 0, none⟩) n cap') ∧ w.heap.size ≤ g' ∧ w'.ownsRow 0 71 3 (.slice (some ⟨g', 0, none⟩) n cap') n (slots encP S) ∧ Turned [] w w' := by
  obtain ⟨i0, hi, hz0, hz1, hz2⟩ := info_parts infoSlotP
  have hlt : g < w.heap.size := ownsRow_lt h g (by simp [Value.ownBlock])
  have hcells : ∀ j u, (slots encP S)[j]? = some u → (w.alloc (.cells #[] 71)).cell? ((⟨g, 0, none⟩ : Addr).add j) = some u := (h.alloc _).cells rfl
  have hlen : (slots encP S).length = n * 3 := by rw [hn]; exact slots_len (k := 2) (fun _ => rfl) S
  have HC := Lib.hid hcells
  have HL := Lib.hid hlen
  clear hcells hlen h hn
  have hnil : ∀ (w : World) (a : Option Addr) (n c : Nat), (binOp .eql 67 (.slice a n c) (.slice none 0 0)).run Try.prog w = .ok (.bool a.isNone) w := fun w a n c => Lib.run_eql_slice_nil w _ _ a n c 0 0 Try.underlying67
  go_enter Try.func37, Try.ntmps37
  go_wp2_with (at_builtin; refine wpList_append_at _ rfl _ _ 67 rfl 71 i0 (.agg #[.int .i64 0, .int .i64 0, .bool false]) 3 24 Try.underlying67 hi hz0 hz1 hz2 rfl (by decide) _ 0 [] rfl (rows_new (Nat.zero_le _)) ⟨g, 0, none⟩ n cap (slots encP S) rfl hp HL.out HC.out (slots_one (by intro x u hu; simp at hu; rcases hu with rfl | rfl <;> rfl) S) (by unfold maxLen; omega) (by omega) ?_)
  intro g' cp w1 hown hgrow hw _ _
  have hw' : w.heap.size ≤ g' := by
    rcases hw with hw | hw
    · simp [Value.ownBlock] at hw; omega
    · try simp at hw
      omega
  have hT : Turned [] w w1 := ((Turned.refl [] w).alloc _).grown hgrow (fun k hk => .inr (by simp [Value.ownBlock] at hk; omega))
  have HO := Lib.hid hown
  have HT := Lib.hid hT
  clear hown hgrow hw hT
  go_wp2
  go_ret
  exact ⟨_, _, rfl, hw', HO.out, HT.out⟩

theorem clone_zero {w : World} {g cap : Nat} :
    Calls Try.prog 37 #[.slice (some ⟨g, 0, none⟩) 0 cap] w fun e w' =>
      ∃ g' cap', e = .returned (.slice (some ⟨g', 0, none⟩) 0 cap') ∧ w.heap.size ≤ g' ∧ w'.ownsRow 0 71 3 (.slice (some ⟨g', 0, none⟩) 0 cap') 0 [] ∧ Turned [] w w' := by
  obtain ⟨i0, hi, hz0, hz1, hz2⟩ := info_parts infoSlotP
  have hnil : ∀ (w : World) (a : Option Addr) (n c : Nat), (binOp .eql 67 (.slice a n c) (.slice none 0 0)).run Try.prog w = .ok (.bool a.isNone) w := fun w a n c => Lib.run_eql_slice_nil w _ _ a n c 0 0 Try.underlying67
  clear hz0 hz2
  go_enter Try.func37, Try.ntmps37
  go_wp2_with (at_builtin; refine wpList_append_fits _ rfl _ _ 67 rfl 0 71 i0 3 Try.underlying67 hi hz1 w.heap.size 0 0 [] rfl (rows_new (Nat.zero_le _)) ⟨g, 0, none⟩ 0 cap [] rfl rfl (by intro j u h; simp at h) (by intro u h; simp at h) (Nat.le_refl _) ?_)
  intro w1 hown hgrow
  have hT : Turned [] w w1 := ((Turned.refl [] w).alloc _).grown hgrow (fun k hk => .inr (by simp at hk; omega))
  have HO := Lib.hid hown
  have HT := Lib.hid hT
  clear hown hgrow hT
  go_wp2
  go_ret
  exact ⟨_, _, rfl, Nat.le_refl _, HO.out, HT.out⟩

theorem clone_any {w : World} {S : List ((Int × Int) × Bool)} {g n cap : Nat} (hn : n = S.length) (h : w.ownsRow 0 71 3 (.slice (some ⟨g, 0, none⟩) n cap) n (slots encP S)) (hS : n ≤ 1000000) :
    Calls Try.prog 37 #[.slice (some ⟨g, 0, none⟩) n cap] w fun e w' =>
      ∃ g' cap', e = .returned (.slice (some ⟨g', 0, none⟩) n cap') ∧ w.heap.size ≤ g' ∧ w'.ownsRow 0 71 3 (.slice (some ⟨g', 0, none⟩) n cap') n (slots encP S) ∧ Turned [] w w' := by
  by_cases hp : 0 < n
  · exact clone_some hn h hp hS
  · obtain rfl : n = 0 := by omega
    obtain rfl : S = [] := List.eq_nil_of_length_eq_zero hn.symm
    exact clone_zero

theorem all_none {w : World} {b : Nat} (hc : w.cell? ⟨b, 1, none⟩ = some (.slice none 0 0)) :
    Calls Try.prog 22 #[.pointer (some ⟨b, 0, none⟩)] w fun e w' => e = .returned (.func (.func 38) #[] #[.pointer (some ⟨w.heap.size, 0, none⟩)]) ∧ w' = w.alloc (.cells #[.slice none 0 0] 67) := by
  go_enter Try.func22, Try.ntmps22
  go_wp2_with (go_at_call 37; refine (clone_nil _).mono ?_; rintro e w' ⟨rfl, rfl⟩)
  go_ret
  exact ⟨rfl, rfl⟩

theorem all_some {w : World} {b : Nat} {S : List ((Int × Int) × Bool)} {g n cap : Nat} (hn : n = S.length) (hc : w.cell? ⟨b, 1, none⟩ = some (.slice (some ⟨g, 0, none⟩) n cap)) (h : w.ownsRow 0 71 3 (.slice (some ⟨g, 0, none⟩) n cap) n (slots encP S)) (hS : n ≤ 1000000) :
    Calls Try.prog 22 #[.pointer (some ⟨b, 0, none⟩)] w fun e w' => ∃ B, e = .returned (.func (.func 38) #[] #[.pointer (some ⟨B, 0, none⟩)]) ∧
      KeptSlots 71 67 encP 2 w.heap.size w' B S ∧ Turned [] w w' := by
  have HC := Lib.hid (clone_any hn h hS)
  have HN := Lib.hid hn
  clear h hn
  go_enter Try.func22, Try.ntmps22
  go_wp2_with (go_at_call 37; refine HC.out.mono ?_; rintro e w1 ⟨g', cap', rfl, hg, hown, hT⟩)
  go_ret
  refine ⟨_, rfl, ⟨_, Boxed.new w1 _ _, hT.size, ?_, ?_⟩, hT.alloc _⟩
  · rw [← HN.out]
    exact hown.alloc _
  · intro k hk
    simp [Value.ownBlock] at hk
    omega

theorem all_any {w : World} {b : Nat} {X : List Nat} {m : Int} {S : List ((Int × Int) × Bool)} {F : List Nat} (h : ArP w b X m S F) (hS : S.length ≤ 1000000) :
    Calls Try.prog 22 #[.pointer (some ⟨b, 0, none⟩)] w fun e w' => ∃ B, e = .returned (.func (.func 38) #[] #[.pointer (some ⟨B, 0, none⟩)]) ∧
      KeptSlots 71 67 encP 2 w.heap.size w' B S ∧ Turned [] w w' := by
  obtain ⟨sv, fv, h1, h2, h3, _⟩ := h
  obtain ⟨_, c1, _, _⟩ := cells3 h1
  rcases h2.2 with ⟨rfl, hn⟩ | ⟨g, cap, cur, rfl, _⟩
  · refine (all_none c1).mono ?_
    rintro e w' ⟨rfl, rfl⟩
    obtain rfl : S = [] := List.eq_nil_of_length_eq_zero hn
    exact ⟨_, rfl, ⟨_, Boxed.new _ _ _, Nat.le_refl _, World.ownsRow_nil _ _ _ _, by intro g hg; simp [Value.ownBlock] at hg⟩, (Turned.refl _ _).alloc _⟩
  · exact all_some rfl c1 h2 hS

theorem all2_in (F : Fence) (n : Nat) (hf : F.fn 38) (hro : F.round = none) (hn : 1 ≤ n) (l B g n₀ cap : Nat) (X : List Nat) (S : List ((Int × Int) × Bool)) (hS : S.length ≤ 1000000) (hg : g < n₀) (hgX : g ∉ X)
    (J Jx : List (Nat × (Int × Int)) → World → Prop) (hJa : ∀ pre W o, J pre W → J pre (W.alloc o))
    (hY : ∀ pre x W, J pre W → pre.length < S.length → YieldAt F (n - 1) Try.prog l #[.int .i64 (x.1 : Int), .agg #[.int .i64 x.2.1, .int .i64 x.2.2]] W fun e W' =>
      (e = .returned (.bool true) ∧ J (pre ++ [x]) W' ∧ Kept X n₀ W W') ∨ (e = .returned (.bool false) ∧ Jx (pre ++ [x]) W'))
    (W : World) (hn₀ : n₀ ≤ W.heap.size) (hBs : Boxed W B 67 (.slice (some ⟨g, 0, none⟩) S.length cap)) (hr : W.ownsRow 0 71 3 (.slice (some ⟨g, 0, none⟩) S.length cap) S.length (slots encP S)) (h0 : J [] W) :
    CallsIn F n Try.prog 38 #[.func (.yield l) #[] #[], .pointer (some ⟨B, 0, none⟩)] W fun e W' => (∃ v, e = .returned v) ∧
      ((∃ ys, ys = items S ∧ J ys W') ∨ (∃ pre, (∃ k, k ≤ S.length ∧ pre = items (S.take k)) ∧ Jx pre W')) := by
  have hc0 := hBs.cell
  refine callsIn_of_wp Try.func38 rfl hf ?_ hro
  simp only [Try.ntmps38, List.size_toArray, List.length_cons, List.length_nil, Nat.reduceAdd, Nat.reduceSub, Array.replicate_succ, Array.replicate_zero, List.push_toArray, List.append_toArray, List.nil_append, List.cons_append]
  gi_wp2
  gi_loopw [7] (fun i wr => ∃ k : Nat, k ≤ S.length ∧ i = .int .i64 k ∧ J (items (S.take k)) wr ∧ Kept X n₀ W wr)
    (fun i _ => S.length - (intOf i).toNat)
  case atStart => exact ⟨0, Nat.zero_le _, rfl, h0, Kept.refl _ _ _⟩
  case round =>
    obtain ⟨k, hk, rfl, hJs, hnx⟩ := hrel
    by_cases hlt : k < S.length
    · obtain ⟨⟨v, t⟩, hs⟩ : ∃ p, S[k]? = some p := ⟨_, List.getElem?_eq_getElem hlt⟩
      have hr' := hnx.row hr (by intro q hq; simp [Value.ownBlock] at hq; subst hq; exact ⟨hg, hgX⟩)
      obtain ⟨s0, s1, s2, _⟩ := slot_cells hr' rfl hs
      have i1 : (k : Int) < S.length := by omega
      have hsz : n₀ ≤ wr.heap.size := by have := hnx.size; omega
      cases t with
      | false =>
        clear hr' hBs hr
        gi_wp2
        refine ⟨fun _ h => (by cases h), ?_⟩
        gi_wp2
        go_roundw
        case rel => exact ⟨k + 1, by omega, by simp, by rw [items_take_no hs]; exact hJa _ _ _ hJs, hnx.alloc hsz _⟩
        case measure => simp [intOf]; omega
      | true =>
        obtain ⟨fn, tmps, assign, body, hy, hR⟩ := hY _ (k, v) (wr.alloc (.cells #[.int .i64 v.1, .int .i64 v.2, .bool true] 71)) (hJa _ _ _ hJs) (by have := items_take_length S k; omega)
        dsimp only at hy
        clear hr' hBs hr
        gi_wp2
        refine hR.mono ?_
        rintro e W3 (⟨rfl, hJ3, hk3⟩ | ⟨rfl, hJx3⟩)
        · gi_wp2
          go_roundw
          case rel => exact ⟨k + 1, by omega, by simp, by rw [items_take_yes hs]; exact hJ3, (hnx.alloc hsz _).trans hk3⟩
          case measure => simp [intOf]; omega
        · gi_wp2
          refine bodyPost_ret (results_none rfl _ _ _) rfl ?_
          exact ⟨⟨_, rfl⟩, .inr ⟨_, ⟨k + 1, by omega, (items_take_yes hs).symm⟩, hJx3⟩⟩
    · obtain rfl : k = S.length := by omega
      gi_wp2
      go_end0
      exact ⟨⟨_, rfl⟩, .inl ⟨_, by rw [List.take_length], hJs⟩⟩

theorem all2_none (F : Fence) (n : Nat) (hf : F.fn 38) (hro : F.round = none) (l B : Nat) (J : List (Nat × (Int × Int)) → World → Prop) (W : World) (hBs : Boxed W B 67 (.slice none 0 0)) (h0 : J [] W) :
    CallsIn F n Try.prog 38 #[.func (.yield l) #[] #[], .pointer (some ⟨B, 0, none⟩)] W fun e W' => (∃ v, e = .returned v) ∧ J [] W' := by
  have hc0 := hBs.cell
  refine callsIn_of_wp Try.func38 rfl hf ?_ hro
  simp only [Try.ntmps38, List.size_toArray, List.length_cons, List.length_nil, Nat.reduceAdd, Nat.reduceSub, Array.replicate_succ, Array.replicate_zero, List.push_toArray, List.append_toArray, List.nil_append, List.cons_append]
  gi_wp2
  gi_loopw [7] (fun i wr => i = .int .i64 0 ∧ J [] wr) (fun _ _ => 0)
  case atStart => exact ⟨rfl, h0⟩
  case round =>
    obtain ⟨rfl, hJs⟩ := hrel
    gi_wp2
    go_end0
    exact ⟨⟨_, rfl⟩, hJs⟩

theorem all_stops (F : Fence) (n : Nat) (hf : F.fn 38) (hro : F.round = none) (hn : 1 ≤ n) (B n₀ n₁ : Nat) (X : List Nat) (S : List ((Int × Int) × Bool)) (hS : S.length ≤ 1000000) (w : World) (hn₀ : n₀ ≤ w.heap.size)
    (h : KeptSlots 71 67 encP 2 n₁ w B S) (hX : ∀ x ∈ X, x < n₁) (hn₀' : w.heap.size ≤ n₀) :
    SeqStopsK F n Try.prog 38 #[.pointer (some ⟨B, 0, none⟩)] (fun x : Nat × (Int × Int) => #[Value.int .i64 (x.1 : Int), Value.agg #[Value.int .i64 x.2.1, Value.int .i64 x.2.2]]) (Kept X n₀) (fun ys => ys = items S)
      (fun pre => ∃ k, k ≤ S.length ∧ pre = items (S.take k)) S.length w := fun l J Jx W hW hJ _ hY h0 => by
  obtain ⟨cv, hB, hBn, hr, hg⟩ := h
  have hB' : Boxed W B 67 cv := (hW.block B (lt_of_block hB)).trans hB
  have hr' : W.ownsRow 0 71 3 cv S.length (slots encP S) := ownsRow_same hr fun k _ hk => hW.block k hk
  have hlt := ownsRow_lt hr
  rcases hr'.2 with ⟨rfl, hz⟩ | ⟨g, cap, cur, rfl, _⟩
  · obtain rfl : S = [] := List.eq_nil_of_length_eq_zero hz
    exact (all2_none F n hf hro l B J W hB' h0).mono fun e W' ⟨he, hj⟩ => ⟨he, .inl ⟨_, rfl, hj⟩⟩
  · have hgm : g ∈ (Value.slice (some ⟨g, 0, none⟩) S.length cap).ownBlock.toList := by simp [Value.ownBlock]
    exact all2_in F n hf hro hn l B g n₀ cap X S hS (by have := hlt g hgm; omega) (fun hx => by have := hX g hx; have := hg g hgm; omega) J Jx
      (fun pre W o hs => hJ pre W (W.alloc o) none hs (World.grownBy_alloc W o none) (fun r e => by cases e)) hY W (by have := hW.size; omega) hB' hr' h0

end Go.Proofs.Ytiicbmgompnehaa.Pr
