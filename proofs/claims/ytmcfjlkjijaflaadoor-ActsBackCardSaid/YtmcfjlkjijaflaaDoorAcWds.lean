/-
  The program's Words of acts. (Made by gen_acwds.py.)
-/
import Derived.Test.YtmcfjlkjijaflaaDoorAcMayE
import Derived.Test.YtmcfjlkjijaflaaDoorAcWl
import Derived.Test.YtmcfjlkjijaflaaDoorGA
import Derived.Deep.RegionHeld3
import Derived.Deep.RegionLaw
namespace Go.Proofs.YtmcfjlkjijaflaaDoor
open Go.RowKit Go.Maps Go.Shelf
attribute [local go_sem] Oper.semAt_some

/-- The list of words so far, in its box. -/
structure ALI (w wr : World) (K : Nat) (v : Value) (ws : List Wd) : Prop where
  row : WRow w.heap.size wr v ws
  t : Turned [] w wr
  lst : wr.heap[K]? = some (.cells #[v] 31 (0, 0))
  kne : w.heap.size ≤ K
theorem ALI.more {w wr wr' : World} {K : Nat} {v : Value} {ws : List Wd} (h : ALI w wr K v ws) (hb : Below wr.heap.size wr wr') : ALI w wr' K v ws :=
  ⟨row_below h.row hb, h.t.trans (turned_below0 hb) (Newer.refl _ _), (hb.block _ (lt_of_block h.lst)).trans h.lst, h.kne⟩
theorem ALI.drew {w wr : World} {K : Nat} {v : Value} {ws : List Wd} (h : ALI w wr K v ws) : ALI w wr.drew K v ws := ⟨h.row.drew, h.t.drew, h.lst, h.kne⟩
theorem ALI.mild {w A B : World} {K N : Nat} {v : Value} {ws : List Wd} (h : ALI w A K v ws) (m : Mild [] N A B) (hN : w.heap.size ≤ N) : ALI w B K v ws := by
  refine ⟨ownsRow_same h.row (fun k hk _ => ?_), h.t.mild m hN (by simp), m.cells h.lst (by simp), h.kne⟩
  obtain ⟨cur, hc⟩ := ownsRow_type h.row k hk
  rw [m.cells hc (by simp), hc]
theorem arow_up {w : World} {base : Nat} {e : TypeId} {size : Nat} {v : Value} {n : Nat} {xs : List Value} (h : w.ownsRow 0 e size v n xs) (hb : ∀ g ∈ v.ownBlock.toList, base ≤ g) : w.ownsRow base e size v n xs := by
  refine ⟨h.1, ?_⟩
  rcases h.2 with h2 | ⟨g, cap, cur, rfl, _, rest⟩
  · exact .inl h2
  · exact .inr ⟨g, cap, cur, rfl, hb g (by simp [Value.ownBlock]), rest⟩
theorem arow_up0 {w : World} {base : Nat} {e : TypeId} {size : Nat} {v : Value} {n : Nat} {xs : List Value} (h : w.ownsRow base e size v n xs) : w.ownsRow 0 e size v n xs := row_base h (Nat.zero_le _)
/-- Behind an append: what of the elder blocks is left. -/
theorem ALI.grown {w wx w4 : World} {K : Nat} {v : Value} {ws : List Wd} (h : ALI w wx K v ws) (hg : wx.grownBy w4 v.ownBlock) :
    w4.heap[K]? = some (.cells #[v] 31 (0, 0)) ∧ Turned [] w w4 :=
  ⟨(hg.block _ (lt_of_block h.lst) (block_off h.lst h.row (by decide))).trans h.lst, h.t.grown hg (fun k hk => .inr ((h.row.lt k hk).1))⟩
theorem ALI.push {w wx w4 : World} {K : Nat} {v v' : Value} {ws xs : List Wd} {m : Nat} (h : ALI w wx K v ws) (hm : xs.length = m)
    (hown : w4.ownsRow 0 74 4 v' (ws.length + m) (wdsC ws ++ wdsC xs)) (hg : wx.grownBy w4 v.ownBlock) (hnew : ∀ g ∈ v'.ownBlock.toList, g ∈ v.ownBlock.toList ∨ wx.heap.size ≤ g) : ALI w (w4.setCell ⟨K, 0, none⟩ v') K v' (ws ++ xs) := by
  obtain ⟨g2, g3⟩ := h.grown hg
  have hrow : WRow w.heap.size w4 v' (ws ++ xs) := by
    unfold WRow
    rw [List.length_append, hm, wdsC, List.flatMap_append]
    refine arow_up hown (fun g hx => ?_)
    rcases hnew g hx with h1 | h1
    · exact (h.row.lt g (by simpa using h1)).1
    · exact Nat.le_trans h.t.size h1
  have hk := h.kne
  have hoff := block_off g2 hrow (by decide)
  refine ⟨ownsRow_same hrow (fun k hk2 _ => Below.heap_setCell _ _ _ _ ?_), g3.setCell (.inr (by show w.heap.size ≤ K; omega)) _, ?_, hk⟩
  · show k ≠ K
    rintro rfl
    exact hoff (by simpa using hk2 : v'.ownBlock = some k).symm
  · rw [heap_setCell_same _ _ _ _ _ _ g2]
    rfl
theorem ALI.start {w w1 : World} (hb : Below w.heap.size w w1) : ALI w (w1.alloc (.cells #[.slice none 0 0] 31)) w1.heap.size (.slice none 0 0) [] :=
  ⟨World.ownsRow_nil _ _ _ _, turned_below0 (hb.alloc hb.size _), heap_alloc_new w1 _, hb.size⟩
/-- .. in the loop over the acts: where its row may lie. -/
structure ALJ (w W : World) (K N n₀ : Nat) (v : Value) (ws : List Wd) : Prop where
  i : ALI w W K v ws
  g : ∀ g ∈ v.ownBlock.toList, g < n₀ ∨ N ≤ g
  z : N ≤ W.heap.size
theorem ALJ.mild {w A B : World} {K N n₀ M : Nat} {v : Value} {ws : List Wd} (h : ALJ w A K N n₀ v ws) (m : Mild [] M A B) (hM : w.heap.size ≤ M) : ALJ w B K N n₀ v ws :=
  ⟨h.i.mild m hM, h.g, Nat.le_trans h.z m.size⟩
/-- A round: new memory, an append, a store. -/
theorem ALJ.round {w W V1 w4 : World} {K N n₀ : Nat} {v v' : Value} {ws xs : List Wd} {m : Nat} (h : ALJ w W K N n₀ v ws) (hK : K < n₀) (hb : Below W.heap.size W V1) (hm : xs.length = m)
    (hown : w4.ownsRow 0 74 4 v' (ws.length + m) (wdsC ws ++ wdsC xs)) (hg : V1.grownBy w4 v.ownBlock) (hnew : ∀ g ∈ v'.ownBlock.toList, g ∈ v.ownBlock.toList ∨ V1.heap.size ≤ g) :
    (∀ B, KeepsFrom B W (w4.setCell ⟨K, 0, none⟩ v')) ∧ (∀ j, n₀ ≤ j → j < N → (w4.setCell ⟨K, 0, none⟩ v').heap[j]? = W.heap[j]?) ∧ ALJ w (w4.setCell ⟨K, 0, none⟩ v') K N n₀ v' (ws ++ xs) := by
  have h1 := h.i.more hb
  have hz := h.z
  refine ⟨fun B => (akeeps_below hb).trans (((KeepsOthers.of_grownBy hg (fun j o hj ho => ?_)).trans (KeepsOthers.setCell _ _ _)).from _), fun j h0 hN => ?_, h1.push hm hown hg hnew, fun g hx => ?_, ?_⟩
  · obtain ⟨cur, hc⟩ := ownsRow_type h1.row j (by simp [hj])
    rw [hc] at ho
    cases ho
    rfl
  · refine (Below.heap_setCell _ _ _ _ (by show j ≠ K; omega)).trans ((hg.block j (Nat.lt_of_lt_of_le (by omega) hb.size) (fun e => ?_)).trans (hb.block j (by omega)))
    rcases h.g j (by simp [← e]) with hh | hh <;> omega
  · rcases hnew g hx with hh | hh
    · exact h.g g hh
    · have := hb.size
      exact .inr (by omega)
  · have := hb.size
    have := hg.size
    simp [World.setCell]
    omega
theorem awdsC_one (L : List Wd) : ∀ u ∈ wdsC L, u.oneCell' = true := by
  intro u hu
  obtain ⟨x, _, hx⟩ := List.mem_flatMap.1 hu
  simp [wdC] at hx
  rcases hx with rfl | rfl | rfl | rfl <;> rfl
theorem azip_len {L : List Ac} {pre : List (Ac × Nat)} {x : Ac × Nat} (h : (pre ++ [x]) <+: L.zipIdx) : pre.length + 1 ≤ L.length := by
  have := h.length_le
  simpa [List.length_zipIdx] using this
theorem acw_len (a : Ac) : (acW a).length ≤ 6 := by
  have h1 := many_four a.1
  have h2 := many_le a
  unfold acW acTail
  simp only [List.length_cons, List.length_append, List.length_map, List.length_take, List.length_nil]
  omega
theorem aflat_len : ∀ pre : List (Ac × Nat), (pre.flatMap (fun x : Ac × Nat => acW x.1)).length ≤ pre.length * 6
  | [] => Nat.le_refl _
  | x :: pre => by
    have h1 := aflat_len pre
    have h2 := acw_len x.1
    simp only [List.flatMap_cons, List.length_append, List.length_cons] at h1 ⊢
    omega
theorem aflat_zip (L : List Ac) : L.zipIdx.flatMap (fun x : Ac × Nat => acW x.1) = L.flatMap acW := by
  have h : ∀ (L : List Ac) (k : Nat), (L.zipIdx k).flatMap (fun x : Ac × Nat => acW x.1) = L.flatMap acW := fun L => by
    induction L with
    | nil => intro k; rfl
    | cons x L ih =>
      intro k
      rw [List.zipIdx_cons, List.flatMap_cons, List.flatMap_cons, ih]
  exact h L 0
/-- What Words answers. -/
def WordsAP (R : List Wd × Int) (w : World) (e : Ending) (w' : World) : Prop :=
  ∃ v, e = .returned (.tuple #[v, .int .i64 R.2]) ∧ WRow w.heap.size w' v R.1 ∧ Below w.heap.size w w'
set_option maxRecDepth 100000 in
set_option maxHeartbeats 6400000 in
theorem awords_yes (ao : Option Addr) (b off cap : Nat) (L : List Ac) (w : World) (h : AArg w ao b off L) (hq : acsMay L = true) (hl : L.length ≤ 4000) :
    Calls Tryd.prog 24 #[.slice ao L.length cap] w (WordsAP (L.flatMap acW, 0) w) := by
  obtain ⟨i0, hi0, hz0, hz1, hz2⟩ := info_parts word_info
  refine callsIn_wide.1 (?_ : CallsIn Fence.wide 20 _ _ _ _ _)
  refine callsIn_of_wp_marks Tryd.func24 rfl trivial ?_ rfl
  simp only [Tryd.ntmps24, List.size_toArray, List.length_cons, List.length_nil, Nat.reduceAdd, Nat.reduceSub, Array.replicate_succ, Array.replicate_zero, List.push_toArray, List.append_toArray, List.nil_append, List.cons_append]
  refine wpIn_wide.2 ?_
  have hm := mayeach_any ao b off cap L w h (by omega)
  rw [hq] at hm
  have HMAY := Lib.hid hm
  have HA := Lib.hid h
  obtain ⟨n, hn⟩ : ∃ n, L.length = n := ⟨_, rfl⟩
  have HN := Lib.hid hn
  rw [hn] at HMAY hl ⊢
  have g4 : ¬ (4000 : Int) < n := by omega
  clear h hm hn hq
  go_wp2_with fail
  refine HMAY.out.mono ?_
  rintro e w1 ⟨rfl, hb1⟩
  have HI8' := Lib.hid (ALI.start hb1)
  have HW8 : Hid (∃ W8, w1.alloc (.cells #[.slice none 0 0] 31) = W8) := ⟨_, rfl⟩
  have HK8 : Hid (∃ K, w1.heap.size = K) := ⟨_, rfl⟩
  have HE0 := Lib.hid (fun V (hV : Below w.heap.size w V) => aeach_any ao b off cap L V (HA.out.below hV) (by have := HN.out; omega))
  rw [HN.out] at HE0
  clear hb1 HMAY
  go_wp2_with fail
  obtain ⟨W8, hW8⟩ := HW8.out
  obtain ⟨K, hK⟩ := HK8.out
  rw [hW8, hK] at HI8'
  rw [hW8, hK]
  have HI8 := HI8'
  have HE := Lib.hid (HE0.out W8 (HI8.out.t.below (by simp) (Nat.le_refl _)))
  have hz9 := lt_of_block HI8.out.lst
  clear hW8 hK HW8 HK8 HE0
  refine HE.out.mono ?_
  rintro e W9 ⟨B, rfl, hKO, hb9⟩
  obtain ⟨Yb, hY, hseq⟩ := aeach1_seq (n := 19) (by omega) hKO (by have := HN.out; omega)
  have HY := Lib.hid hY
  have HSEQ := Lib.hid hseq
  have HJ0 : Hid (ALJ w W9 K W9.heap.size W8.heap.size (.slice none 0 0) (([] : List (Ac × Nat)).flatMap (fun x : Ac × Nat => acW x.1))) := Lib.hid ⟨HI8.out.more hb9, fun g hg => by simp [Value.ownBlock] at hg, Nat.le_refl _⟩
  have HKN : Hid (K < W8.heap.size) := Lib.hid hz9
  have hz10 := hb9.size
  have hzk := HI8.out.kne
  clear hY hseq hKO hb9 HE
  go_wp2_with fail
  refine (wpIn_wide (n := 20)).1 ?_
  refine range_turns_boxed rfl (by omega) (gf := 61) (lb := #[.pointer (some ⟨B, 0, none⟩)]) rfl trivial (enters_of Tryd.func61 (by kernel_rfl) rfl)
    (X := []) (Y := Yb) (by simp) (fun k hk => (HY.out k hk).2) HSEQ.out (fun _ => rfl) (fun _ _ _ h _ => h) (fun _ _ _ h _ => h)
    (fun pre V => ∃ v, ALJ w V K W9.heap.size W8.heap.size v (pre.flatMap (fun x : Ac × Nat => acW x.1)))
    (fun c pre V => False)
    (fun xs A B h mm => h.elim fun v h => ⟨v, h.mild mm (by omega)⟩) (fun c xs A B h mm => h) ⟨_, HJ0.out⟩ (fun xs V h => h.elim fun v h => h.z)
    69 (fun x => #[.int .i64 x.1.1, .int .i64 x.1.2.1, .int .i64 x.1.2.2.1, .int .i64 x.1.2.2.2.1, .int .i64 x.1.2.2.2.2]) ?a1 ?assign ?body ?done ?stop
  case stop => exact fun D c xs V hD hsx h hK => h.elim
  case assign =>
    intro l x Bk V K' hBk hK
    gi_wp2
    exact hK
  case body =>
    rintro l pre ⟨⟨x1, x2, x3, x4, x5⟩, j⟩ Bk V hk hbk ⟨v, hJ⟩ hsp
    simp only at hk
    obtain ⟨k0, k1, k2, k3, k4⟩ := act_cells hk
    obtain ⟨av, cv, hv, _, _⟩ := ownsRow_shape hJ.i.row
    subst hv
    obtain ⟨wl, hwl⟩ : ∃ m, (pre.flatMap (fun x : Ac × Nat => acW x.1)).length = m := ⟨_, rfl⟩
    have HWL := Lib.hid hwl
    rw [hwl] at hJ
    have HJ := Lib.hid hJ
    have HBK := Lib.hid hk
    have HOW := Lib.hid (fun V => actw_any x1 x2 x3 x4 x5 V)
    have hlen : wl + (acW (x1, x2, x3, x4, x5)).length ≤ 30000 := by
      have h1 := azip_len hsp
      have h2 := aflat_len pre
      have h3 := acw_len (x1, x2, x3, x4, x5)
      have h4 := HN.out
      omega
    have HLEN := Lib.hid hlen
    have HPOS : Hid (0 < (acW (x1, x2, x3, x4, x5)).length) := Lib.hid (by have := acw_pos (x1, x2, x3, x4, x5); omega)
    obtain ⟨aw, haw⟩ : ∃ aw, acW (x1, x2, x3, x4, x5) = aw := ⟨_, rfl⟩
    have HAW := Lib.hid haw
    rw [haw] at HOW HLEN HPOS
    clear hJ hk hsp hwl hlen haw
    have e2 := cell1 HJ.out.i.lst
    have hmix : Tryd.prog.follows .mixedOrders = true := by kernel_rfl
    gi_wp2_with fail
    refine wpRound_last (fun V => V.cell? ⟨K, 0, none⟩ = some (.slice av wl cv) ∧ V.cell? ⟨Bk, 0, none⟩ = some (.int .i64 x1) ∧ V.cell? ⟨Bk, 1, none⟩ = some (.int .i64 x2) ∧ V.cell? ⟨Bk, 2, none⟩ = some (.int .i64 x3) ∧ V.cell? ⟨Bk, 3, none⟩ = some (.int .i64 x4) ∧ V.cell? ⟨Bk, 4, none⟩ = some (.int .i64 x5)) 4 (by kernel_rfl) ?_ hmix ⟨e2, k0, k1, k2, k3, k4⟩ (fun hS0 => ?_)
    · rintro ⟨_, _, h⟩; exact h
    refine wpAnyE_take (i := 0) (v := ?_) rfl (by kernel_rfl) (by kernel_rfl) (fun _ _ _ h => h) (by kernel_rfl) (by kernel_rfl) (Or.inl ⟨by rfl, ?hy⟩) (by assumption) ?_
    case hy =>
      intro w hSw
      (try dsimp only at hSw)
      obtain ⟨s0, s1, s2, s3, s4, s5⟩ := hSw
      go_simp
      try with_reducible rfl
    (try simp only [List.getElem_toArray])
    (try simp only [List.getElem_cons_succ])
    (try simp only [List.getElem_cons_zero])
    (try simp only [Act.put])
    (try simp only [List.setIfInBounds_toArray])
    (try simp only [List.set_cons_succ])
    (try simp only [List.set_cons_zero])
    refine wpAnyE_take (i := 1) (v := ?_) rfl (by kernel_rfl) (by kernel_rfl) (fun _ _ _ h => h) (by kernel_rfl) (by kernel_rfl) (Or.inl ⟨by rfl, ?hy⟩) (by assumption) ?_
    case hy =>
      intro w hSw
      (try dsimp only at hSw)
      obtain ⟨s0, s1, s2, s3, s4, s5⟩ := hSw
      go_simp
      try with_reducible rfl
    (try simp only [List.getElem_toArray])
    (try simp only [List.getElem_cons_succ])
    (try simp only [List.getElem_cons_zero])
    (try simp only [Act.put])
    (try simp only [List.setIfInBounds_toArray])
    (try simp only [List.set_cons_succ])
    (try simp only [List.set_cons_zero])
    refine wpAnyE_ready (rs := [2]) (by kernel_rfl) (by simp) ?_
    refine ReadyE.cons rfl (fun K' hK => ?_) ReadyE.nil
    go_simp
    with_reducible refine (HOW.out _).mono ?_
    rintro e u2 ⟨vo, rfl, hro, hbu⟩
    have hiu := HJ.out.i.drew.more hbu
    have HIU2 := Lib.hid hiu
    have eu2 := cell1 hiu.lst
    have hk2 := (hbu.block _ (lt_of_block HBK.out)).trans HBK.out
    obtain ⟨k0u, k1u, k2u, k3u, k4u⟩ := act_cells hk2
    obtain ⟨go, co, hvo, _, _⟩ := ownsRow_pos hro HPOS.out
    subst hvo
    have HRO := Lib.hid hro
    have HK2 := Lib.hid hk2
    have HBU := Lib.hid hbu
    clear hbu hiu hro hk2
    go_wp2_with fail
    refine hK.out _ _ (.inr ?_) ?_
    · exact ⟨eu2, k0u, k1u, k2u, k3u, k4u⟩
    clear hK K'
    (try simp only [List.getElem_toArray])
    (try simp only [List.getElem_cons_succ])
    (try simp only [List.getElem_cons_zero])
    (try simp only [Act.put])
    (try simp only [List.setIfInBounds_toArray])
    (try simp only [List.set_cons_succ])
    (try simp only [List.set_cons_zero])
    refine wpAnyE_ready (rs := [3]) (by kernel_rfl) (by simp) ?_
    refine ReadyE.cons rfl (fun K' hK => ?_) ReadyE.nil
    refine step_append_any _ rfl (.tmp 17) (.tmp 19) 31 rfl 74 i0 (.agg #[.int .i64 0, .string ⟨#[]⟩, .int .i64 0, .int .i64 0]) 4 40 Tryd.underlying31 hi0 hz0 hz1 hz2 rfl (by decide) (.slice av wl cv) wl (wdsC (pre.flatMap (fun x : Ac × Nat => acW x.1))) rfl (by have hq := arow_up0 HIU2.out.row; rw [HWL.out] at hq; exact hq) (some ⟨go, 0, none⟩) aw.length co (wdsC aw) rfl (by rw [wdsC_len]) (by intro h; cases h) (by intro ad had; cases had; exact HRO.out.cells (g := go) rfl) (awdsC_one _) (by unfold maxLen; have := HLEN.out; omega) (by have := HLEN.out; omega) ?_
    intro a2 c2 g2 hown hg hnew
    have hgg := HIU2.out.grown hg
    have eg2 := cell1 hgg.1
    have fg2 := not_frozen hgg.1 0
    have hk3 := (hg.block _ (lt_of_block HK2.out) (block_off HK2.out HIU2.out.row (by decide))).trans HK2.out
    obtain ⟨k0g, k1g, k2g, k3g, k4g⟩ := act_cells hk3
    clear hk3
    refine hK.out _ _ (.inr ?_) ?_
    · exact ⟨eg2, k0g, k1g, k2g, k3g, k4g⟩
    have hin := ALJ.round (v' := .slice a2 (wl + aw.length) c2) (w4 := g2) (V1 := u2) (xs := aw) (m := aw.length) HJ.out HKN.out (((Below.refl _ V).drew).trans HBU.out) rfl (by rw [HWL.out]; exact hown) hg hnew
    have HIN := Lib.hid hin
    clear hown hg hnew hgg hK K' hin
    (try simp only [List.getElem_toArray])
    (try simp only [List.getElem_cons_succ])
    (try simp only [List.getElem_cons_zero])
    (try simp only [Act.put])
    (try simp only [List.setIfInBounds_toArray])
    (try simp only [List.set_cons_succ])
    (try simp only [List.set_cons_zero])
    refine wpAnyE_ready (rs := [4]) (by kernel_rfl) (by simp) ?_
    refine ReadyE.cons rfl (fun K' hK => ?_) ReadyE.nil
    go_simp
    refine hK.out _ _ (.inl rfl) ?_
    clear hK K'
    refine wpAnyE_done (by kernel_rfl) ?_ _
    (try simp only [List.getElem_toArray])
    (try simp only [List.getElem_cons_succ])
    (try simp only [List.getElem_cons_zero])
    (try simp only [Act.put])
    (try simp only [List.setIfInBounds_toArray])
    (try simp only [List.set_cons_succ])
    (try simp only [List.set_cons_zero])
    refine ⟨HIN.out.1 _, fun j hj => HIN.out.2.1 j (HY.out j hj).1 (HY.out j hj).2, .slice a2 (wl + aw.length) c2, ?_⟩
    rw [List.flatMap_append, List.flatMap_cons, List.flatMap_nil, List.append_nil, HAW.out]
    exact HIN.out.2.2
  case done =>
    rintro D xs V hD rfl ⟨v, hJ⟩ hKD
    rw [aflat_zip] at hJ
    obtain ⟨av, cv, hv, _, _⟩ := ownsRow_shape hJ.i.row
    obtain ⟨ws3, hws3⟩ : ∃ l, L.flatMap acW = l := ⟨_, rfl⟩
    rw [hws3] at hJ
    have HWS3 := Lib.hid hws3
    have HI3 := Lib.hid hJ.i
    have HKD := Lib.hid hKD
    have e3 := cell1 HI3.out.lst
    clear hJ hKD hws3 hv
    go_wp2
    refine ⟨by simp, .inl ⟨_, _, rfl, run_takeDeferred HKD.out, ?_⟩⟩
    have hoff : ∀ k, v.ownBlock = some k → k ≠ D := by
      rintro k hk rfl
      obtain ⟨cur, hc⟩ := ownsRow_type HI3.out.row k (by simp [hk])
      rw [HKD.out] at hc
      cases hc
    refine ⟨.tuple #[v, .int .i64 0], ?res, _, rfl, ?_, ?_⟩
    case res => first | (go_simp; done) | (simp [results, go_sem]; done) | kernel_rfl | trace_state
    · have hrow := HI3.out.row
      rw [← HWS3.out] at hrow
      exact ownsRow_same hrow (fun k hk _ => World.putObj_heap_other (hoff k (by simpa using hk)))
    · exact (HI3.out.t.put (by omega) _).below (by simp) (Nat.le_refl _)
set_option maxRecDepth 100000 in
set_option maxHeartbeats 1600000 in
theorem awords_no (ao : Option Addr) (b off cap : Nat) (L : List Ac) (w : World) (h : AArg w ao b off L) (hm : L.length ≤ 100000) (hq : acsMay L = true → 4000 < L.length) :
    Calls Tryd.prog 24 #[.slice ao L.length cap] w (WordsAP (([] : List Wd), if acsMay L then 6 else 1) w) := by
  have hm := mayeach_any ao b off cap L w h hm
  obtain ⟨n, hn⟩ : ∃ n, L.length = n := ⟨_, rfl⟩
  rw [hn] at hm hq ⊢
  cases hx : acsMay L with
  | false =>
    rw [hx] at hm
    have HM := Lib.hid hm
    clear hm hx hn h hq
    go_enter Tryd.func24, Tryd.ntmps24
    go_wp2_with fail
    with_reducible refine HM.out.mono ?_
    rintro e w1 ⟨rfl, hb⟩
    have HB := Lib.hid hb
    clear hb
    go_wp2
    go_ret2
    exact ⟨_, rfl, World.ownsRow_nil _ _ _ _, HB.out⟩
  | true =>
    rw [hx] at hm
    have hq2 := hq hx
    have g4 : (4000 : Int) < n := by omega
    have HM := Lib.hid hm
    clear hm hx hn h hq hq2
    go_enter Tryd.func24, Tryd.ntmps24
    go_wp2_with fail
    with_reducible refine HM.out.mono ?_
    rintro e w1 ⟨rfl, hb⟩
    have HB := Lib.hid hb
    clear hb
    go_wp2
    go_ret2
    exact ⟨_, rfl, World.ownsRow_nil _ _ _ _, HB.out⟩
/-- Words of any acts. -/
theorem awords_any (ao : Option Addr) (b off cap : Nat) (L : List Ac) (w : World) (h : AArg w ao b off L) (hm : L.length ≤ 100000) :
    Calls Tryd.prog 24 #[.slice ao L.length cap] w (WordsAP (wordsAc L) w) := by
  unfold wordsAc
  by_cases hq : acsMay L = true
  · by_cases h4 : 4000 < L.length
    · have hx := awords_no ao b off cap L w h hm (fun _ => h4)
      rw [if_pos hq] at hx
      rw [if_pos hq, if_pos h4]
      exact hx
    · rw [if_pos hq, if_neg h4]
      exact awords_yes ao b off cap L w h hq (by omega)
  · have hx := awords_no ao b off cap L w h hm (fun h => absurd h hq)
    rw [if_neg hq] at hx
    rw [if_neg hq]
    exact hx
end Go.Proofs.YtmcfjlkjijaflaaDoor
