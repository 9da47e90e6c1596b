/-
  The program's Words. (Made by gen_pw.py.)
-/
import Derived.Test.YtmcfjlkjijaflaaGreatDoorGAI
import Derived.Deep.RegionHeld3
import Derived.Test.YtmcfjlkjijaflaaGreatDoorGAA
import Derived.Deep.RegionLaw
namespace Go.Proofs.YtmcfjlkjijaflaaGreatDoor
open Go.RowKit Go.Maps Go.Shelf
attribute [local go_sem] Oper.semAt_some

theorem WLI.drew {w wr : World} {K : Nat} {pv : Array Value} {v : Value} {ws : List Wd} (h : WLI w wr K pv v ws) : WLI w wr.drew K pv v ws :=
  ⟨h.row.drew, h.t.drew, h.box, h.lst, h.kne⟩
theorem row_up0 {w : World} {base : Nat} {e : TypeId} {size : Nat} {v : Value} {n : Nat} {xs : List Value} (h : w.ownsRow base e size v n xs) : w.ownsRow 0 e size v n xs := row_base h (Nat.zero_le _)
theorem wx_push {w wx w4 : World} {K : Nat} {pv : Array Value} {v v' : Value} {ws : List Wd} {x : Wd} (h : WLI w wx K pv v ws)
    (hown : w4.ownsRow 0 72 4 v' (ws.length + 1) (wdsC ws ++ wdC x)) (hg : wx.grownBy w4 v.ownBlock) (hnew : ∀ g ∈ v'.ownBlock.toList, g ∈ v.ownBlock.toList ∨ wx.heap.size ≤ g) : WLI w (w4.setCell ⟨K, 0, none⟩ v') K pv v' (ws ++ [x]) := by
  refine h.push (m := 1) (xs := [x]) rfl ?_ hg hnew
  rw [show wdsC [x] = wdC x from by simp [wdsC]]
  exact hown
/-- What Words answers. -/
def WordsQ (f : Bool) (L : List Opn) (w : World) (e : Ending) (w' : World) : Prop :=
  ∃ v, e = .returned (.tuple #[v, .int .i64 (if mayR (f, L) then 0 else 1)]) ∧ WRow w.heap.size w' v (if mayR (f, L) then wordsR (f, L) else []) ∧ Below w.heap.size w w'
set_option maxRecDepth 100000 in
set_option maxHeartbeats 6400000 in
theorem pwords_t (ao : Option Addr) (b off cap : Nat) (L : List Opn) (w : World) (h : OArg w ao b off L) (hq : mayR (true, L) = true) :
    Calls Tryz.prog 24 #[prgV true ao L.length cap] w (WordsQ true L w) := by
  have hl12 : L.length ≤ 12 := by
    unfold mayR at hq
    simp only [Bool.and_eq_true, decide_eq_true_eq] at hq
    omega
  unfold WordsQ
  rw [hq]
  simp only [if_pos]
  obtain ⟨i0, hi0, hz0, hz1, hz2⟩ := info_parts word_info
  refine callsIn_wide.1 (?_ : CallsIn Fence.wide 20 _ _ _ _ _)
  refine callsIn_of_wp_marks Tryz.func24 rfl trivial ?_ rfl
  simp only [Tryz.ntmps24, List.size_toArray, List.length_cons, List.length_nil, Nat.reduceAdd, Nat.reduceSub, Array.replicate_succ, Array.replicate_zero, List.push_toArray, List.append_toArray, List.nil_append, List.cons_append]
  refine wpIn_wide.2 ?_
  have hb0 : Below w.heap.size w (w.alloc (.cells #[.bool true, .slice ao L.length cap] 51)) := (Below.refl _ w).alloc (Nat.le_refl _) _
  have hm := pmay_any true ao b off cap L (w.alloc (.cells #[.bool true, .slice ao L.length cap] 51)) (h.below hb0)
  rw [hq] at hm
  have HMAY := Lib.hid hm
  have HP := Lib.hid (fun W => pname_any ⟨#[112, 114, 111, 103]⟩ W)
  have HFV := Lib.hid (fun W => pname_any ⟨#[102, 111, 114, 101, 118, 101, 114]⟩ W)
  have HMO := Lib.hid (fun W => pmark_any ⟨#[123]⟩ W)
  have HMC := Lib.hid (fun W => pmark_any ⟨#[125]⟩ W)
  have HA := Lib.hid h
  obtain ⟨n, hn⟩ : ∃ n, L.length = n := ⟨_, rfl⟩
  have HN := Lib.hid hn
  rw [hn] at HMAY hl12 ⊢
  obtain ⟨W, hW⟩ : ∃ W, wordsR (true, L) = W := ⟨_, rfl⟩
  have HW := Lib.hid hW
  rw [hW]
  clear h hb0 hm hn hq hW
  go_wp2_with fail
  refine HMAY.out.mono ?_
  rintro e w1 ⟨rfl, hb1⟩
  obtain ⟨hx1, hbw⟩ := box_kept hb1
  obtain ⟨c0, c1⟩ := two_cells hx1
  have hlt1 := lt_of_block hx1
  have HX1 := Lib.hid hx1
  have HB1 := Lib.hid hbw
  clear hb1 hx1 hbw HMAY
  go_wp2_with fail
  refine (HP.out _).mono ?_
  rintro e w3 ⟨rfl, hb3⟩
  have hx3 := (hb3.block _ (lt_of_block HX1.out)).trans HX1.out
  have hs3 := lt_of_block hx3
  clear c0 c1
  obtain ⟨c0, c1⟩ := two_cells hx3
  obtain ⟨K, hK⟩ : ∃ K, w3.heap.size + 1 = K := ⟨_, rfl⟩
  obtain ⟨W5, hW5⟩ : ∃ W5, (w3.alloc (.cells #[.int .i64 1, .string ⟨#[112, 114, 111, 103]⟩, .int .i64 0, .int .i64 0] 72)).alloc (.cells #[.slice (some ⟨w3.heap.size, 0, none⟩) 1 1] 34) = W5 := ⟨_, rfl⟩
  have hi5 := WLI.start (x := (1, progB, 0, 0)) rfl HX1.out HB1.out hb3 (p := .int .i64 1) (q := .string ⟨#[112, 114, 111, 103]⟩) (r := .int .i64 0) (t := .int .i64 0)
  rw [hW5, hK] at hi5
  have HI5 := Lib.hid hi5
  have HWW := Lib.hid hW5
  have HKK := Lib.hid hK
  obtain ⟨ws0, hws⟩ : ∃ l : List Wd, [(1, progB, 0, 0)] = l := ⟨_, rfl⟩
  rw [hws] at HI5
  have hl0 : ws0.length ≤ 1 := by rw [← hws]; exact Nat.le_refl _
  have HWS0 := Lib.hid hws
  clear hb3 hi5 hW5 hK hws
  go_wp2_with fail
  rw [HWW.out, HKK.out]
  have HI0 := HI5
  have e0 := cell1 HI0.out.lst
  have HY0 := Lib.hid HI0.out.drew
  have hmix : Tryz.prog.follows .mixedOrders = true := by kernel_rfl
  refine wp_region_noPanic ?_
  refine wp_region_last (fun V => V.cell? ⟨K, 0, none⟩ = some (.slice (some ⟨w3.heap.size, 0, none⟩) 1 1)) 4 hmix e0 (fun hS0 => ?_)
  refine wpAnyE_take (i := 0) (v := ?_) rfl (by kernel_rfl) (by kernel_rfl) (fun _ _ _ h => h) (by kernel_rfl) (by kernel_rfl) (Or.inl ⟨by rfl, ?hy⟩) (by assumption) ?_
  case hy =>
    intro w hSw
    (try dsimp only at hSw)
    go_simp
    try with_reducible rfl
  (try simp only [List.getElem_toArray])
  (try simp only [List.getElem_cons_succ])
  (try simp only [List.getElem_cons_zero])
  (try simp only [Act.put])
  (try simp only [List.setIfInBounds_toArray])
  (try simp only [List.set_cons_succ])
  (try simp only [List.set_cons_zero])
  refine wpAnyE_ready (rs := [1]) (by kernel_rfl) (by simp) ?_
  refine ReadyE.cons rfl (fun K' hK => ?_) ReadyE.nil
  go_simp
  with_reducible refine (HFV.out _).mono ?_
  rintro e u0 ⟨rfl, hbu⟩
  have hiu := HY0.out.more hbu
  have HIU0 := Lib.hid hiu
  have eu0 := cell1 hiu.lst
  have HBU0 := Lib.hid hbu
  clear hbu hiu
  go_wp2_with fail
  refine hK.out _ _ (.inr ?_) ?_
  · exact eu0
  clear hK K'
  (try simp only [List.getElem_toArray])
  (try simp only [List.getElem_cons_succ])
  (try simp only [List.getElem_cons_zero])
  (try simp only [Act.put])
  (try simp only [List.setIfInBounds_toArray])
  (try simp only [List.set_cons_succ])
  (try simp only [List.set_cons_zero])
  refine wpAnyE_ready (rs := [2]) (by kernel_rfl) (by simp) ?_
  refine ReadyE.cons rfl (fun K' hK => ?_) ReadyE.nil
  go_simp
  have HIA0 := Lib.hid (HIU0.out.more ((Below.refl _ _).alloc (Nat.le_refl _) (.cells #[.int .i64 1, .string ⟨#[102, 111, 114, 101, 118, 101, 114]⟩, .int .i64 0, .int .i64 0] 72)))
  have ea0 := cell1 HIA0.out.lst
  refine hK.out _ _ (.inr ?_) ?_
  · exact ea0
  clear hK K'
  (try simp only [List.getElem_toArray])
  (try simp only [List.getElem_cons_succ])
  (try simp only [List.getElem_cons_zero])
  (try simp only [Act.put])
  (try simp only [List.setIfInBounds_toArray])
  (try simp only [List.set_cons_succ])
  (try simp only [List.set_cons_zero])
  refine wpAnyE_ready (rs := [3]) (by kernel_rfl) (by simp) ?_
  refine ReadyE.cons rfl (fun K' hK => ?_) ReadyE.nil
  refine step_append_any _ rfl (.tmp 14) (.tmp 16) 34 rfl 72 i0 (.agg #[.int .i64 0, .string ⟨#[]⟩, .int .i64 0, .int .i64 0]) 4 40 Tryz.underlying34 hi0 hz0 hz1 hz2 rfl (by decide) (.slice (some ⟨w3.heap.size, 0, none⟩) 1 1) ws0.length (wdsC ws0) rfl (row_up0 HIA0.out.row) (some ⟨u0.heap.size, 0, none⟩) 1 1 [.int .i64 1, .string ⟨#[102, 111, 114, 101, 118, 101, 114]⟩, .int .i64 0, .int .i64 0] rfl rfl (by intro h; cases h) (by intro ad had; cases had; exact word_new _ _ _ _ _ _) (word_ones _ _ _ _) (by unfold maxLen; omega) (by omega) ?_
  intro a0 c0 g0 hown hg hnew
  have hgg := HIA0.out.grown hg
  have eg0 := cell1 hgg.2.1
  have fg0 := not_frozen hgg.2.1 0
  refine hK.out _ _ (.inr ?_) ?_
  · exact eg0
  have hin := wx_push (x := (1, foreverB, 0, 0)) HIA0.out hown hg hnew
  obtain ⟨wr0, hws⟩ : ∃ l, ws0 ++ [(1, foreverB, 0, 0)] = l := ⟨_, rfl⟩
  rw [hws] at hin
  have hr0 : wr0.length ≤ ws0.length + 1 := by rw [← hws]; simp
  have HWR0 := Lib.hid hws
  obtain ⟨v0, hv⟩ : ∃ v, Value.slice a0 (ws0.length + 1) c0 = v := ⟨_, rfl⟩
  have HV0 := Lib.hid hv
  rw [hv] at hin
  have HI1 := Lib.hid hin
  clear hown hg hnew hgg hK K' hin hws hv
  (try simp only [List.getElem_toArray])
  (try simp only [List.getElem_cons_succ])
  (try simp only [List.getElem_cons_zero])
  (try simp only [Act.put])
  (try simp only [List.setIfInBounds_toArray])
  (try simp only [List.set_cons_succ])
  (try simp only [List.set_cons_zero])
  refine wpAnyE_ready (rs := [4]) (by kernel_rfl) (by simp) ?_
  refine ReadyE.cons rfl (fun K' hK => ?_) ReadyE.nil
  go_simp
  refine hK.out _ _ (.inl rfl) ?_
  clear hK K'
  refine wpAnyE_done (by kernel_rfl) ?_ _
  refine NoPanic.normal ?_
  (try simp only [List.getElem_toArray])
  (try simp only [List.getElem_cons_succ])
  (try simp only [List.getElem_cons_zero])
  (try simp only [Act.put])
  (try simp only [List.setIfInBounds_toArray])
  (try simp only [List.set_cons_succ])
  (try simp only [List.set_cons_zero])
  rw [HV0.out]
  go_wp2_with fail
  have e1 := cell1 HI1.out.lst
  have HY1 := Lib.hid HI1.out.drew
  have hmix : Tryz.prog.follows .mixedOrders = true := by kernel_rfl
  refine wp_region_noPanic ?_
  refine wp_region_last (fun V => V.cell? ⟨K, 0, none⟩ = some (v0)) 4 hmix e1 (fun hS0 => ?_)
  refine wpAnyE_take (i := 0) (v := ?_) rfl (by kernel_rfl) (by kernel_rfl) (fun _ _ _ h => h) (by kernel_rfl) (by kernel_rfl) (Or.inl ⟨by rfl, ?hy⟩) (by assumption) ?_
  case hy =>
    intro w hSw
    (try dsimp only at hSw)
    go_simp
    try with_reducible rfl
  (try simp only [List.getElem_toArray])
  (try simp only [List.getElem_cons_succ])
  (try simp only [List.getElem_cons_zero])
  (try simp only [Act.put])
  (try simp only [List.setIfInBounds_toArray])
  (try simp only [List.set_cons_succ])
  (try simp only [List.set_cons_zero])
  refine wpAnyE_ready (rs := [1]) (by kernel_rfl) (by simp) ?_
  refine ReadyE.cons rfl (fun K' hK => ?_) ReadyE.nil
  go_simp
  with_reducible refine (HMO.out _).mono ?_
  rintro e u1 ⟨rfl, hbu⟩
  have hiu := HY1.out.more hbu
  have HIU1 := Lib.hid hiu
  have eu1 := cell1 hiu.lst
  have HBU1 := Lib.hid hbu
  clear hbu hiu
  go_wp2_with fail
  refine hK.out _ _ (.inr ?_) ?_
  · exact eu1
  clear hK K'
  (try simp only [List.getElem_toArray])
  (try simp only [List.getElem_cons_succ])
  (try simp only [List.getElem_cons_zero])
  (try simp only [Act.put])
  (try simp only [List.setIfInBounds_toArray])
  (try simp only [List.set_cons_succ])
  (try simp only [List.set_cons_zero])
  refine wpAnyE_ready (rs := [2]) (by kernel_rfl) (by simp) ?_
  refine ReadyE.cons rfl (fun K' hK => ?_) ReadyE.nil
  go_simp
  have HIA1 := Lib.hid (HIU1.out.more ((Below.refl _ _).alloc (Nat.le_refl _) (.cells #[.int .i64 3, .string ⟨#[123]⟩, .int .i64 0, .int .i64 0] 72)))
  have ea1 := cell1 HIA1.out.lst
  refine hK.out _ _ (.inr ?_) ?_
  · exact ea1
  clear hK K'
  (try simp only [List.getElem_toArray])
  (try simp only [List.getElem_cons_succ])
  (try simp only [List.getElem_cons_zero])
  (try simp only [Act.put])
  (try simp only [List.setIfInBounds_toArray])
  (try simp only [List.set_cons_succ])
  (try simp only [List.set_cons_zero])
  refine wpAnyE_ready (rs := [3]) (by kernel_rfl) (by simp) ?_
  refine ReadyE.cons rfl (fun K' hK => ?_) ReadyE.nil
  refine step_append_any _ rfl (.tmp 18) (.tmp 20) 34 rfl 72 i0 (.agg #[.int .i64 0, .string ⟨#[]⟩, .int .i64 0, .int .i64 0]) 4 40 Tryz.underlying34 hi0 hz0 hz1 hz2 rfl (by decide) (v0) wr0.length (wdsC wr0) rfl (row_up0 HIA1.out.row) (some ⟨u1.heap.size, 0, none⟩) 1 1 [.int .i64 3, .string ⟨#[123]⟩, .int .i64 0, .int .i64 0] rfl rfl (by intro h; cases h) (by intro ad had; cases had; exact word_new _ _ _ _ _ _) (word_ones _ _ _ _) (by unfold maxLen; omega) (by omega) ?_
  intro a1 c1 g1 hown hg hnew
  have hgg := HIA1.out.grown hg
  have eg1 := cell1 hgg.2.1
  have fg1 := not_frozen hgg.2.1 0
  refine hK.out _ _ (.inr ?_) ?_
  · exact eg1
  have hin := wx_push (x := (3, [123], 0, 0)) HIA1.out hown hg hnew
  obtain ⟨wr1, hws⟩ : ∃ l, wr0 ++ [(3, [123], 0, 0)] = l := ⟨_, rfl⟩
  rw [hws] at hin
  have hr1 : wr1.length ≤ wr0.length + 1 := by rw [← hws]; simp
  have HWR1 := Lib.hid hws
  obtain ⟨v1, hv⟩ : ∃ v, Value.slice a1 (wr0.length + 1) c1 = v := ⟨_, rfl⟩
  have HV1 := Lib.hid hv
  rw [hv] at hin
  have HI2 := Lib.hid hin
  clear hown hg hnew hgg hK K' hin hws hv
  (try simp only [List.getElem_toArray])
  (try simp only [List.getElem_cons_succ])
  (try simp only [List.getElem_cons_zero])
  (try simp only [Act.put])
  (try simp only [List.setIfInBounds_toArray])
  (try simp only [List.set_cons_succ])
  (try simp only [List.set_cons_zero])
  refine wpAnyE_ready (rs := [4]) (by kernel_rfl) (by simp) ?_
  refine ReadyE.cons rfl (fun K' hK => ?_) ReadyE.nil
  go_simp
  refine hK.out _ _ (.inl rfl) ?_
  clear hK K'
  refine wpAnyE_done (by kernel_rfl) ?_ _
  refine NoPanic.normal ?_
  (try simp only [List.getElem_toArray])
  (try simp only [List.getElem_cons_succ])
  (try simp only [List.getElem_cons_zero])
  (try simp only [Act.put])
  (try simp only [List.setIfInBounds_toArray])
  (try simp only [List.set_cons_succ])
  (try simp only [List.set_cons_zero])
  rw [HV1.out]
  obtain ⟨W8, hW8⟩ : ∃ W8, g1.setCell ⟨K, 0, none⟩ v1 = W8 := ⟨_, rfl⟩
  have HI8 : Hid (WLI w W8 K #[.bool true, .slice ao n cap] v1 wr1) := by rw [← hW8]; exact HI2
  rw [hW8]
  have HE := Lib.hid (each_any true ao b off cap L W8 (HA.out.below (HI8.out.t.below (by simp) (Nat.le_refl _))) (by have := HN.out; omega))
  rw [HN.out] at HE
  obtain ⟨c0, c1⟩ := two_cells HI8.out.box
  have hz8 := lt_of_block HI8.out.box
  have hz9 := lt_of_block HI8.out.lst
  clear e0 e1 HY1 HY0 HIU1 HIU0 eu0 eu1 HIA1 HIA0 ea0 ea1 hmix hS0 eg1 fg1 eg0 fg0 hW8 HI2 HI1 HI0 HI5
  go_wp2_with fail
  refine HE.out.mono ?_
  rintro e W9 ⟨B, rfl, hKO, hb9⟩
  obtain ⟨Yb, hY, hseq⟩ := each1_seq (n := 19) (by omega) hKO (by have := HN.out; omega)
  have HY := Lib.hid hY
  have HSEQ := Lib.hid hseq
  have HJ0 : Hid (WLJ w W9 K W9.heap.size W8.heap.size #[.bool true, .slice ao n cap] v1 (wr1 ++ ([] : List (Opn × Nat)).flatMap (fun x => opW x.1))) := Lib.hid (by
    simp only [List.flatMap_nil, List.append_nil]
    refine ⟨HI8.out.more hb9, fun g hg => .inl (ownsRow_lt HI8.out.row g (by simpa using hg)), Nat.le_refl _⟩)
  have HKN : Hid (K < W8.heap.size) := Lib.hid hz9
  have hz10 := hb9.size
  clear hY hseq hKO hb9 HE c0 c1
  go_wp2_with fail
  refine (wpIn_wide (n := 20)).1 ?_
  refine range_turns_boxed rfl (by omega) (gf := 94) (lb := #[.pointer (some ⟨B, 0, none⟩)]) rfl trivial (enters_of Tryz.func94 (by kernel_rfl) rfl)
    (X := []) (Y := Yb) (by simp) (fun k hk => (HY.out k hk).2) HSEQ.out (fun _ => rfl) (fun _ _ _ h _ => h) (fun _ _ _ h _ => h)
    (fun pre V => ∃ v, WLJ w V K W9.heap.size W8.heap.size #[.bool true, .slice ao n cap] v (wr1 ++ pre.flatMap (fun x => opW x.1)))
    (fun c pre V => False)
    (fun xs A B h mm => h.elim fun v h => ⟨v, h.mild mm (by omega)⟩) (fun c xs A B h mm => h) ⟨_, HJ0.out⟩ (fun xs V h => h.elim fun v h => h.z)
    109 (fun x => #[.int .i64 x.1.1, .int .i64 x.1.2.1, .int .i64 x.1.2.2]) ?a1 ?assign ?body ?done ?stop
  case stop => exact fun D c xs V hD hsx h hK => h.elim
  case assign =>
    intro l x Bk V K' hBk hK
    gi_wp2
    exact hK
  case body =>
    rintro l pre ⟨⟨x1, x2, x3⟩, j⟩ Bk V hk hbk ⟨v, hJ⟩ hsp
    simp only at hk
    obtain ⟨k0, k1, k2⟩ := op_cells hk
    obtain ⟨av, cv, hv, _, _⟩ := ownsRow_shape hJ.i.row
    subst hv
    obtain ⟨wl, hwl⟩ : ∃ m, (wr1 ++ pre.flatMap (fun x => opW x.1)).length = m := ⟨_, rfl⟩
    have HWL := Lib.hid hwl
    rw [hwl] at hJ
    have HJ := Lib.hid hJ
    have HBK := Lib.hid hk
    have HOW := Lib.hid (fun V => opw_any x1 x2 x3 V)
    have hlen : wl + (opW (x1, x2, x3)).length ≤ 100 := by
      have h1 := zip_len hsp
      have h2 := flat_len pre
      have h3 := opW_len (x1, x2, x3)
      have h4 := HN.out
      rw [← hwl, List.length_append]
      omega
    have HLEN := Lib.hid hlen
    clear hJ hk hsp hwl hlen
    have e2 := cell1 HJ.out.i.lst
    have HY2 := Lib.hid HJ.out.i.drew
    have hmix : Tryz.prog.follows .mixedOrders = true := by kernel_rfl
    gi_wp2_with fail
    refine wpRound_last (fun V => V.cell? ⟨K, 0, none⟩ = some (.slice av wl cv) ∧ V.cell? ⟨Bk, 0, none⟩ = some (.int .i64 x1) ∧ V.cell? ⟨Bk, 1, none⟩ = some (.int .i64 x2) ∧ V.cell? ⟨Bk, 2, none⟩ = some (.int .i64 x3)) 4 (by kernel_rfl) ?_ hmix ⟨e2, k0, k1, k2⟩ (fun hS0 => ?_)
    · rintro ⟨_, _, h⟩; exact h
    refine wpAnyE_take (i := 0) (v := ?_) rfl (by kernel_rfl) (by kernel_rfl) (fun _ _ _ h => h) (by kernel_rfl) (by kernel_rfl) (Or.inl ⟨by rfl, ?hy⟩) (by assumption) ?_
    case hy =>
      intro w hSw
      (try dsimp only at hSw)
      obtain ⟨s0, s1, s2, s3⟩ := hSw
      go_simp
      try with_reducible rfl
    (try simp only [List.getElem_toArray])
    (try simp only [List.getElem_cons_succ])
    (try simp only [List.getElem_cons_zero])
    (try simp only [Act.put])
    (try simp only [List.setIfInBounds_toArray])
    (try simp only [List.set_cons_succ])
    (try simp only [List.set_cons_zero])
    refine wpAnyE_take (i := 1) (v := ?_) rfl (by kernel_rfl) (by kernel_rfl) (fun _ _ _ h => h) (by kernel_rfl) (by kernel_rfl) (Or.inl ⟨by rfl, ?hy⟩) (by assumption) ?_
    case hy =>
      intro w hSw
      (try dsimp only at hSw)
      obtain ⟨s0, s1, s2, s3⟩ := hSw
      go_simp
      try with_reducible rfl
    (try simp only [List.getElem_toArray])
    (try simp only [List.getElem_cons_succ])
    (try simp only [List.getElem_cons_zero])
    (try simp only [Act.put])
    (try simp only [List.setIfInBounds_toArray])
    (try simp only [List.set_cons_succ])
    (try simp only [List.set_cons_zero])
    refine wpAnyE_ready (rs := [2]) (by kernel_rfl) (by simp) ?_
    refine ReadyE.cons rfl (fun K' hK => ?_) ReadyE.nil
    go_simp
    with_reducible refine (HOW.out _).mono ?_
    rintro e u2 ⟨vo, rfl, hro, hbu⟩
    have hiu := HJ.out.i.drew.more hbu
    have HIU2 := Lib.hid hiu
    have eu2 := cell1 hiu.lst
    have hk2 := (hbu.block _ (lt_of_block HBK.out)).trans HBK.out
    obtain ⟨k0u, k1u, k2u⟩ := op_cells hk2
    have hpos : 0 < (opW (x1, x2, x3)).length := by unfold opW; simp
    obtain ⟨go, co, hvo, _, _⟩ := ownsRow_pos hro hpos
    subst hvo
    have HRO := Lib.hid hro
    have HK2 := Lib.hid hk2
    have HBU := Lib.hid hbu
    clear hbu hiu hro hk2 hpos
    go_wp2_with fail
    refine hK.out _ _ (.inr ?_) ?_
    · exact ⟨eu2, k0u, k1u, k2u⟩
    clear hK K'
    (try simp only [List.getElem_toArray])
    (try simp only [List.getElem_cons_succ])
    (try simp only [List.getElem_cons_zero])
    (try simp only [Act.put])
    (try simp only [List.setIfInBounds_toArray])
    (try simp only [List.set_cons_succ])
    (try simp only [List.set_cons_zero])
    refine wpAnyE_ready (rs := [3]) (by kernel_rfl) (by simp) ?_
    refine ReadyE.cons rfl (fun K' hK => ?_) ReadyE.nil
    refine step_append_any _ rfl (.tmp 26) (.tmp 28) 34 rfl 72 i0 (.agg #[.int .i64 0, .string ⟨#[]⟩, .int .i64 0, .int .i64 0]) 4 40 Tryz.underlying34 hi0 hz0 hz1 hz2 rfl (by decide) (.slice av wl cv) wl (wdsC (wr1 ++ pre.flatMap (fun x => opW x.1))) rfl (by have hq := row_up0 HIU2.out.row; rw [HWL.out] at hq; exact hq) (some ⟨go, 0, none⟩) (opW (x1, x2, x3)).length co (wdsC (opW (x1, x2, x3))) rfl (by rw [wdsC_len]) (by intro h; cases h) (by intro ad had; cases had; exact HRO.out.cells (g := go) rfl) (wdsC_one _) (by unfold maxLen; have := HLEN.out; omega) (by have := HLEN.out; omega) ?_
    intro a2 c2 g2 hown hg hnew
    have hgg := HIU2.out.grown hg
    have eg2 := cell1 hgg.2.1
    have fg2 := not_frozen hgg.2.1 0
    have hk3 := (hg.block _ (lt_of_block HK2.out) (block_off HK2.out HIU2.out.row (by decide))).trans HK2.out
    obtain ⟨k0g, k1g, k2g⟩ := op_cells hk3
    clear hk3
    refine hK.out _ _ (.inr ?_) ?_
    · exact ⟨eg2, k0g, k1g, k2g⟩
    have hin := WLJ.round (v' := .slice a2 (wl + (opW (x1, x2, x3)).length) c2) (w4 := g2) (V1 := u2) (xs := opW (x1, x2, x3)) (m := (opW (x1, x2, x3)).length) HJ.out HKN.out (((Below.refl _ V).drew).trans HBU.out) rfl (by rw [HWL.out]; exact hown) hg hnew
    have HIN := Lib.hid hin
    clear hown hg hnew hgg hK K' hin
    (try simp only [List.getElem_toArray])
    (try simp only [List.getElem_cons_succ])
    (try simp only [List.getElem_cons_zero])
    (try simp only [Act.put])
    (try simp only [List.setIfInBounds_toArray])
    (try simp only [List.set_cons_succ])
    (try simp only [List.set_cons_zero])
    refine wpAnyE_ready (rs := [4]) (by kernel_rfl) (by simp) ?_
    refine ReadyE.cons rfl (fun K' hK => ?_) ReadyE.nil
    go_simp
    refine hK.out _ _ (.inl rfl) ?_
    clear hK K'
    refine wpAnyE_done (by kernel_rfl) ?_ _
    (try simp only [List.getElem_toArray])
    (try simp only [List.getElem_cons_succ])
    (try simp only [List.getElem_cons_zero])
    (try simp only [Act.put])
    (try simp only [List.setIfInBounds_toArray])
    (try simp only [List.set_cons_succ])
    (try simp only [List.set_cons_zero])
    refine ⟨HIN.out.1 _, fun j hj => HIN.out.2.1 j (HY.out j hj).1 (HY.out j hj).2, .slice a2 (wl + (opW (x1, x2, x3)).length) c2, ?_⟩
    rw [List.flatMap_append, List.flatMap_cons, List.flatMap_nil, List.append_nil, ← List.append_assoc]
    exact HIN.out.2.2
  case done =>
    rintro D xs V hD rfl ⟨v, hJ⟩ hKD
    rw [flat_zip] at hJ
    obtain ⟨av, cv, hv, _, _⟩ := ownsRow_shape hJ.i.row
    subst hv
    have hl3 : (wr1 ++ L.flatMap opW).length ≤ 60 := by
      have h2 := flat_len L.zipIdx
      rw [flat_zip, List.length_zipIdx] at h2
      have h4 := HN.out
      rw [List.length_append]
      omega
    obtain ⟨ws3, hws3⟩ : ∃ l, wr1 ++ L.flatMap opW = l := ⟨_, rfl⟩
    rw [hws3] at hJ hl3
    obtain ⟨v3, hv3⟩ : ∃ v, Value.slice av ws3.length cv = v := ⟨_, rfl⟩
    rw [hv3] at hJ
    have HWS3 := Lib.hid hws3
    have HI3 := Lib.hid hJ.i
    have HKD := Lib.hid hKD
    have e3 := cell1 HI3.out.lst
    clear hJ hKD hws3 hv3
    go_wp2_with fail
    have e3 := cell1 HI3.out.lst
    have HY3 := Lib.hid HI3.out.drew
    have hmix : Tryz.prog.follows .mixedOrders = true := by kernel_rfl
    refine wp_region_noPanic ?_
    refine wp_region_last (fun V => V.cell? ⟨K, 0, none⟩ = some (v3)) 5 hmix e3 (fun hS0 => ?_)
    refine wpAnyE_take (i := 0) (v := ?_) rfl (by kernel_rfl) (by kernel_rfl) (fun _ _ _ h => h) (by kernel_rfl) (by kernel_rfl) (Or.inl ⟨by rfl, ?hy⟩) (by assumption) ?_
    case hy =>
      intro w hSw
      (try dsimp only at hSw)
      go_simp
      try with_reducible rfl
    (try simp only [List.getElem_toArray])
    (try simp only [List.getElem_cons_succ])
    (try simp only [List.getElem_cons_zero])
    (try simp only [Act.put])
    (try simp only [List.setIfInBounds_toArray])
    (try simp only [List.set_cons_succ])
    (try simp only [List.set_cons_zero])
    refine wpAnyE_ready (rs := [1]) (by kernel_rfl) (by simp) ?_
    refine ReadyE.cons rfl (fun K' hK => ?_) ReadyE.nil
    go_simp
    with_reducible refine (HMC.out _).mono ?_
    rintro e u3 ⟨rfl, hbu⟩
    have hiu := HY3.out.more hbu
    have HIU3 := Lib.hid hiu
    have eu3 := cell1 hiu.lst
    have HBU3 := Lib.hid hbu
    clear hbu hiu
    go_wp2_with fail
    refine hK.out _ _ (.inr ?_) ?_
    · exact eu3
    clear hK K'
    (try simp only [List.getElem_toArray])
    (try simp only [List.getElem_cons_succ])
    (try simp only [List.getElem_cons_zero])
    (try simp only [Act.put])
    (try simp only [List.setIfInBounds_toArray])
    (try simp only [List.set_cons_succ])
    (try simp only [List.set_cons_zero])
    refine wpAnyE_ready (rs := [2]) (by kernel_rfl) (by simp) ?_
    refine ReadyE.cons rfl (fun K' hK => ?_) ReadyE.nil
    go_simp
    have HIA3 := Lib.hid (HIU3.out.more ((Below.refl _ _).alloc (Nat.le_refl _) (.cells #[.int .i64 3, .string ⟨#[125]⟩, .int .i64 0, .int .i64 0] 72)))
    have ea3 := cell1 HIA3.out.lst
    refine hK.out _ _ (.inr ?_) ?_
    · exact ea3
    clear hK K'
    (try simp only [List.getElem_toArray])
    (try simp only [List.getElem_cons_succ])
    (try simp only [List.getElem_cons_zero])
    (try simp only [Act.put])
    (try simp only [List.setIfInBounds_toArray])
    (try simp only [List.set_cons_succ])
    (try simp only [List.set_cons_zero])
    refine wpAnyE_ready (rs := [3]) (by kernel_rfl) (by simp) ?_
    refine ReadyE.cons rfl (fun K' hK => ?_) ReadyE.nil
    refine step_append_any _ rfl (.tmp 30) (.tmp 32) 34 rfl 72 i0 (.agg #[.int .i64 0, .string ⟨#[]⟩, .int .i64 0, .int .i64 0]) 4 40 Tryz.underlying34 hi0 hz0 hz1 hz2 rfl (by decide) (v3) ws3.length (wdsC ws3) rfl (row_up0 HIA3.out.row) (some ⟨u3.heap.size, 0, none⟩) 1 1 [.int .i64 3, .string ⟨#[125]⟩, .int .i64 0, .int .i64 0] rfl rfl (by intro h; cases h) (by intro ad had; cases had; exact word_new _ _ _ _ _ _) (word_ones _ _ _ _) (by unfold maxLen; omega) (by omega) ?_
    intro a3 c3 g3 hown hg hnew
    have hgg := HIA3.out.grown hg
    have eg3 := cell1 hgg.2.1
    have fg3 := not_frozen hgg.2.1 0
    refine hK.out _ _ (.inr ?_) ?_
    · exact eg3
    have HO3 := Lib.hid (row_up0 HIA3.out.row)
    have HOWN := Lib.hid hown
    have HG := Lib.hid hg
    have HNEW := Lib.hid hnew
    have HGG := Lib.hid hgg
    clear hown hg hnew hgg hK K'
    (try simp only [List.getElem_toArray])
    (try simp only [List.getElem_cons_succ])
    (try simp only [List.getElem_cons_zero])
    (try simp only [Act.put])
    (try simp only [List.setIfInBounds_toArray])
    (try simp only [List.set_cons_succ])
    (try simp only [List.set_cons_zero])
    refine wpAnyE_ready (rs := [4]) (by kernel_rfl) (by simp) ?_
    refine ReadyE.cons rfl (fun K' hK => ?_) ReadyE.nil
    go_simp
    refine hK.out _ _ (.inr ?_) ?_
    · exact eg3
    clear hK K'
    (try simp only [List.getElem_toArray])
    (try simp only [List.getElem_cons_succ])
    (try simp only [List.getElem_cons_zero])
    (try simp only [Act.put])
    (try simp only [List.setIfInBounds_toArray])
    (try simp only [List.set_cons_succ])
    (try simp only [List.set_cons_zero])
    refine wpAnyE_ready (rs := [5]) (by kernel_rfl) (by simp) ?_
    refine ReadyE.cons rfl (fun K' hK => ?_) ReadyE.nil
    go_simp
    refine hK.out _ _ (.inl rfl) ?_
    clear hK K'
    refine wpAnyE_done (by kernel_rfl) ?_ _
    refine NoPanic.normal ?_
    (try simp only [List.getElem_toArray])
    (try simp only [List.getElem_cons_succ])
    (try simp only [List.getElem_cons_zero])
    (try simp only [Act.put])
    (try simp only [List.setIfInBounds_toArray])
    (try simp only [List.set_cons_succ])
    (try simp only [List.set_cons_zero])
    have hkd : g3.heap[D]? = some (.deferred (some [])) := by
      have h1 := (HBU3.out.block D (lt_of_block HKD.out)).trans HKD.out
      refine (HG.out.block D (Nat.lt_of_lt_of_le (lt_of_block h1) (by simp)) (fun e => ?_)).trans ((Below.heap_alloc _ _ _ (lt_of_block h1)).trans h1)
      obtain ⟨cur, hc⟩ := ownsRow_type HO3.out D (by simp [← e])
      rw [Below.heap_alloc _ _ _ (lt_of_block h1), h1] at hc
      cases hc
    have HKD3 := Lib.hid hkd
    clear hkd e3 ea3 eg3 eu3 fg3 hS0 HY3 HIU3
    go_wp2
    refine ⟨by simp, .inl ⟨_, _, rfl, run_takeDeferred HKD3.out, ?_⟩⟩
    have hW : W = ws3 ++ [(3, [125], 0, 0)] := by
      rw [← HW.out, words_head, ← HWS3.out, ← HWR1.out, ← HWR0.out, ← HWS0.out]
      simp [headR]
    have hrow : WRow w.heap.size g3 (.slice a3 (ws3.length + 1) c3) (ws3 ++ [(3, [125], 0, 0)]) := by
      unfold WRow
      rw [List.length_append, wdsC_snoc]
      refine row_up HOWN.out (fun g hx => ?_)
      rcases HNEW.out g hx with h1 | h1
      · exact (HI3.out.row.lt g (by simpa using h1)).1
      · exact Nat.le_trans HIA3.out.t.size h1
    have hoff : ∀ k, (Value.slice a3 (ws3.length + 1) c3).ownBlock = some k → k ≠ D := by
      rintro k hk rfl
      obtain ⟨cur, hc⟩ := ownsRow_type hrow k (by simp [hk])
      rw [HKD3.out] at hc
      cases hc
    refine ⟨.tuple #[.slice a3 (ws3.length + 1) c3, .int .i64 0], ?res, _, rfl, ?_, ?_⟩
    case res => first | (go_simp; done) | (simp [results, go_sem]; done) | kernel_rfl | trace_state
    · rw [hW]
      exact ownsRow_same hrow (fun k hk _ => World.putObj_heap_other (hoff k (by simpa using hk)))
    · exact (HGG.out.2.2.put (by omega) _).below (by simp) (Nat.le_refl _)
set_option maxRecDepth 100000 in
set_option maxHeartbeats 6400000 in
theorem pwords_f (ao : Option Addr) (b off cap : Nat) (L : List Opn) (w : World) (h : OArg w ao b off L) (hq : mayR (false, L) = true) :
    Calls Tryz.prog 24 #[prgV false ao L.length cap] w (WordsQ false L w) := by
  have hl12 : L.length ≤ 12 := by
    unfold mayR at hq
    simp only [Bool.and_eq_true, decide_eq_true_eq] at hq
    omega
  unfold WordsQ
  rw [hq]
  simp only [if_pos]
  obtain ⟨i0, hi0, hz0, hz1, hz2⟩ := info_parts word_info
  refine callsIn_wide.1 (?_ : CallsIn Fence.wide 20 _ _ _ _ _)
  refine callsIn_of_wp_marks Tryz.func24 rfl trivial ?_ rfl
  simp only [Tryz.ntmps24, List.size_toArray, List.length_cons, List.length_nil, Nat.reduceAdd, Nat.reduceSub, Array.replicate_succ, Array.replicate_zero, List.push_toArray, List.append_toArray, List.nil_append, List.cons_append]
  refine wpIn_wide.2 ?_
  have hb0 : Below w.heap.size w (w.alloc (.cells #[.bool false, .slice ao L.length cap] 51)) := (Below.refl _ w).alloc (Nat.le_refl _) _
  have hm := pmay_any false ao b off cap L (w.alloc (.cells #[.bool false, .slice ao L.length cap] 51)) (h.below hb0)
  rw [hq] at hm
  have HMAY := Lib.hid hm
  have HP := Lib.hid (fun W => pname_any ⟨#[112, 114, 111, 103]⟩ W)
  have HFV := Lib.hid (fun W => pname_any ⟨#[102, 111, 114, 101, 118, 101, 114]⟩ W)
  have HMO := Lib.hid (fun W => pmark_any ⟨#[123]⟩ W)
  have HMC := Lib.hid (fun W => pmark_any ⟨#[125]⟩ W)
  have HA := Lib.hid h
  obtain ⟨n, hn⟩ : ∃ n, L.length = n := ⟨_, rfl⟩
  have HN := Lib.hid hn
  rw [hn] at HMAY hl12 ⊢
  obtain ⟨W, hW⟩ : ∃ W, wordsR (false, L) = W := ⟨_, rfl⟩
  have HW := Lib.hid hW
  rw [hW]
  clear h hb0 hm hn hq hW
  go_wp2_with fail
  refine HMAY.out.mono ?_
  rintro e w1 ⟨rfl, hb1⟩
  obtain ⟨hx1, hbw⟩ := box_kept hb1
  obtain ⟨c0, c1⟩ := two_cells hx1
  have hlt1 := lt_of_block hx1
  have HX1 := Lib.hid hx1
  have HB1 := Lib.hid hbw
  clear hb1 hx1 hbw HMAY
  go_wp2_with fail
  refine (HP.out _).mono ?_
  rintro e w3 ⟨rfl, hb3⟩
  have hx3 := (hb3.block _ (lt_of_block HX1.out)).trans HX1.out
  have hs3 := lt_of_block hx3
  clear c0 c1
  obtain ⟨c0, c1⟩ := two_cells hx3
  obtain ⟨K, hK⟩ : ∃ K, w3.heap.size + 1 = K := ⟨_, rfl⟩
  obtain ⟨W5, hW5⟩ : ∃ W5, (w3.alloc (.cells #[.int .i64 1, .string ⟨#[112, 114, 111, 103]⟩, .int .i64 0, .int .i64 0] 72)).alloc (.cells #[.slice (some ⟨w3.heap.size, 0, none⟩) 1 1] 34) = W5 := ⟨_, rfl⟩
  have hi5 := WLI.start (x := (1, progB, 0, 0)) rfl HX1.out HB1.out hb3 (p := .int .i64 1) (q := .string ⟨#[112, 114, 111, 103]⟩) (r := .int .i64 0) (t := .int .i64 0)
  rw [hW5, hK] at hi5
  have HI5 := Lib.hid hi5
  have HWW := Lib.hid hW5
  have HKK := Lib.hid hK
  obtain ⟨ws0, hws⟩ : ∃ l : List Wd, [(1, progB, 0, 0)] = l := ⟨_, rfl⟩
  rw [hws] at HI5
  have hl0 : ws0.length ≤ 1 := by rw [← hws]; exact Nat.le_refl _
  have HWS0 := Lib.hid hws
  clear hb3 hi5 hW5 hK hws
  go_wp2_with fail
  rw [HWW.out, HKK.out]
  have HI1 := HI5
  have e1 := cell1 HI1.out.lst
  have HY1 := Lib.hid HI1.out.drew
  have hmix : Tryz.prog.follows .mixedOrders = true := by kernel_rfl
  refine wp_region_noPanic ?_
  refine wp_region_last (fun V => V.cell? ⟨K, 0, none⟩ = some (.slice (some ⟨w3.heap.size, 0, none⟩) 1 1)) 4 hmix e1 (fun hS0 => ?_)
  refine wpAnyE_take (i := 0) (v := ?_) rfl (by kernel_rfl) (by kernel_rfl) (fun _ _ _ h => h) (by kernel_rfl) (by kernel_rfl) (Or.inl ⟨by rfl, ?hy⟩) (by assumption) ?_
  case hy =>
    intro w hSw
    (try dsimp only at hSw)
    go_simp
    try with_reducible rfl
  (try simp only [List.getElem_toArray])
  (try simp only [List.getElem_cons_succ])
  (try simp only [List.getElem_cons_zero])
  (try simp only [Act.put])
  (try simp only [List.setIfInBounds_toArray])
  (try simp only [List.set_cons_succ])
  (try simp only [List.set_cons_zero])
  refine wpAnyE_ready (rs := [1]) (by kernel_rfl) (by simp) ?_
  refine ReadyE.cons rfl (fun K' hK => ?_) ReadyE.nil
  go_simp
  with_reducible refine (HMO.out _).mono ?_
  rintro e u1 ⟨rfl, hbu⟩
  have hiu := HY1.out.more hbu
  have HIU1 := Lib.hid hiu
  have eu1 := cell1 hiu.lst
  have HBU1 := Lib.hid hbu
  clear hbu hiu
  go_wp2_with fail
  refine hK.out _ _ (.inr ?_) ?_
  · exact eu1
  clear hK K'
  (try simp only [List.getElem_toArray])
  (try simp only [List.getElem_cons_succ])
  (try simp only [List.getElem_cons_zero])
  (try simp only [Act.put])
  (try simp only [List.setIfInBounds_toArray])
  (try simp only [List.set_cons_succ])
  (try simp only [List.set_cons_zero])
  refine wpAnyE_ready (rs := [2]) (by kernel_rfl) (by simp) ?_
  refine ReadyE.cons rfl (fun K' hK => ?_) ReadyE.nil
  go_simp
  have HIA1 := Lib.hid (HIU1.out.more ((Below.refl _ _).alloc (Nat.le_refl _) (.cells #[.int .i64 3, .string ⟨#[123]⟩, .int .i64 0, .int .i64 0] 72)))
  have ea1 := cell1 HIA1.out.lst
  refine hK.out _ _ (.inr ?_) ?_
  · exact ea1
  clear hK K'
  (try simp only [List.getElem_toArray])
  (try simp only [List.getElem_cons_succ])
  (try simp only [List.getElem_cons_zero])
  (try simp only [Act.put])
  (try simp only [List.setIfInBounds_toArray])
  (try simp only [List.set_cons_succ])
  (try simp only [List.set_cons_zero])
  refine wpAnyE_ready (rs := [3]) (by kernel_rfl) (by simp) ?_
  refine ReadyE.cons rfl (fun K' hK => ?_) ReadyE.nil
  refine step_append_any _ rfl (.tmp 18) (.tmp 20) 34 rfl 72 i0 (.agg #[.int .i64 0, .string ⟨#[]⟩, .int .i64 0, .int .i64 0]) 4 40 Tryz.underlying34 hi0 hz0 hz1 hz2 rfl (by decide) (.slice (some ⟨w3.heap.size, 0, none⟩) 1 1) ws0.length (wdsC ws0) rfl (row_up0 HIA1.out.row) (some ⟨u1.heap.size, 0, none⟩) 1 1 [.int .i64 3, .string ⟨#[123]⟩, .int .i64 0, .int .i64 0] rfl rfl (by intro h; cases h) (by intro ad had; cases had; exact word_new _ _ _ _ _ _) (word_ones _ _ _ _) (by unfold maxLen; omega) (by omega) ?_
  intro a1 c1 g1 hown hg hnew
  have hgg := HIA1.out.grown hg
  have eg1 := cell1 hgg.2.1
  have fg1 := not_frozen hgg.2.1 0
  refine hK.out _ _ (.inr ?_) ?_
  · exact eg1
  have hin := wx_push (x := (3, [123], 0, 0)) HIA1.out hown hg hnew
  obtain ⟨wr1, hws⟩ : ∃ l, ws0 ++ [(3, [123], 0, 0)] = l := ⟨_, rfl⟩
  rw [hws] at hin
  have hr1 : wr1.length ≤ ws0.length + 1 := by rw [← hws]; simp
  have HWR1 := Lib.hid hws
  obtain ⟨v1, hv⟩ : ∃ v, Value.slice a1 (ws0.length + 1) c1 = v := ⟨_, rfl⟩
  have HV1 := Lib.hid hv
  rw [hv] at hin
  have HI2 := Lib.hid hin
  clear hown hg hnew hgg hK K' hin hws hv
  (try simp only [List.getElem_toArray])
  (try simp only [List.getElem_cons_succ])
  (try simp only [List.getElem_cons_zero])
  (try simp only [Act.put])
  (try simp only [List.setIfInBounds_toArray])
  (try simp only [List.set_cons_succ])
  (try simp only [List.set_cons_zero])
  refine wpAnyE_ready (rs := [4]) (by kernel_rfl) (by simp) ?_
  refine ReadyE.cons rfl (fun K' hK => ?_) ReadyE.nil
  go_simp
  refine hK.out _ _ (.inl rfl) ?_
  clear hK K'
  refine wpAnyE_done (by kernel_rfl) ?_ _
  refine NoPanic.normal ?_
  (try simp only [List.getElem_toArray])
  (try simp only [List.getElem_cons_succ])
  (try simp only [List.getElem_cons_zero])
  (try simp only [Act.put])
  (try simp only [List.setIfInBounds_toArray])
  (try simp only [List.set_cons_succ])
  (try simp only [List.set_cons_zero])
  rw [HV1.out]
  obtain ⟨W8, hW8⟩ : ∃ W8, g1.setCell ⟨K, 0, none⟩ v1 = W8 := ⟨_, rfl⟩
  have HI8 : Hid (WLI w W8 K #[.bool false, .slice ao n cap] v1 wr1) := by rw [← hW8]; exact HI2
  rw [hW8]
  have HE := Lib.hid (each_any false ao b off cap L W8 (HA.out.below (HI8.out.t.below (by simp) (Nat.le_refl _))) (by have := HN.out; omega))
  rw [HN.out] at HE
  obtain ⟨c0, c1⟩ := two_cells HI8.out.box
  have hz8 := lt_of_block HI8.out.box
  have hz9 := lt_of_block HI8.out.lst
  clear e1 HY1 HIU1 eu1 HIA1 ea1 hmix hS0 eg1 fg1 hW8 HI2 HI1 HI5
  go_wp2_with fail
  refine HE.out.mono ?_
  rintro e W9 ⟨B, rfl, hKO, hb9⟩
  obtain ⟨Yb, hY, hseq⟩ := each1_seq (n := 19) (by omega) hKO (by have := HN.out; omega)
  have HY := Lib.hid hY
  have HSEQ := Lib.hid hseq
  have HJ0 : Hid (WLJ w W9 K W9.heap.size W8.heap.size #[.bool false, .slice ao n cap] v1 (wr1 ++ ([] : List (Opn × Nat)).flatMap (fun x => opW x.1))) := Lib.hid (by
    simp only [List.flatMap_nil, List.append_nil]
    refine ⟨HI8.out.more hb9, fun g hg => .inl (ownsRow_lt HI8.out.row g (by simpa using hg)), Nat.le_refl _⟩)
  have HKN : Hid (K < W8.heap.size) := Lib.hid hz9
  have hz10 := hb9.size
  clear hY hseq hKO hb9 HE c0 c1
  go_wp2_with fail
  refine (wpIn_wide (n := 20)).1 ?_
  refine range_turns_boxed rfl (by omega) (gf := 94) (lb := #[.pointer (some ⟨B, 0, none⟩)]) rfl trivial (enters_of Tryz.func94 (by kernel_rfl) rfl)
    (X := []) (Y := Yb) (by simp) (fun k hk => (HY.out k hk).2) HSEQ.out (fun _ => rfl) (fun _ _ _ h _ => h) (fun _ _ _ h _ => h)
    (fun pre V => ∃ v, WLJ w V K W9.heap.size W8.heap.size #[.bool false, .slice ao n cap] v (wr1 ++ pre.flatMap (fun x => opW x.1)))
    (fun c pre V => False)
    (fun xs A B h mm => h.elim fun v h => ⟨v, h.mild mm (by omega)⟩) (fun c xs A B h mm => h) ⟨_, HJ0.out⟩ (fun xs V h => h.elim fun v h => h.z)
    109 (fun x => #[.int .i64 x.1.1, .int .i64 x.1.2.1, .int .i64 x.1.2.2]) ?a1 ?assign ?body ?done ?stop
  case stop => exact fun D c xs V hD hsx h hK => h.elim
  case assign =>
    intro l x Bk V K' hBk hK
    gi_wp2
    exact hK
  case body =>
    rintro l pre ⟨⟨x1, x2, x3⟩, j⟩ Bk V hk hbk ⟨v, hJ⟩ hsp
    simp only at hk
    obtain ⟨k0, k1, k2⟩ := op_cells hk
    obtain ⟨av, cv, hv, _, _⟩ := ownsRow_shape hJ.i.row
    subst hv
    obtain ⟨wl, hwl⟩ : ∃ m, (wr1 ++ pre.flatMap (fun x => opW x.1)).length = m := ⟨_, rfl⟩
    have HWL := Lib.hid hwl
    rw [hwl] at hJ
    have HJ := Lib.hid hJ
    have HBK := Lib.hid hk
    have HOW := Lib.hid (fun V => opw_any x1 x2 x3 V)
    have hlen : wl + (opW (x1, x2, x3)).length ≤ 100 := by
      have h1 := zip_len hsp
      have h2 := flat_len pre
      have h3 := opW_len (x1, x2, x3)
      have h4 := HN.out
      rw [← hwl, List.length_append]
      omega
    have HLEN := Lib.hid hlen
    clear hJ hk hsp hwl hlen
    have e2 := cell1 HJ.out.i.lst
    have HY2 := Lib.hid HJ.out.i.drew
    have hmix : Tryz.prog.follows .mixedOrders = true := by kernel_rfl
    gi_wp2_with fail
    refine wpRound_last (fun V => V.cell? ⟨K, 0, none⟩ = some (.slice av wl cv) ∧ V.cell? ⟨Bk, 0, none⟩ = some (.int .i64 x1) ∧ V.cell? ⟨Bk, 1, none⟩ = some (.int .i64 x2) ∧ V.cell? ⟨Bk, 2, none⟩ = some (.int .i64 x3)) 4 (by kernel_rfl) ?_ hmix ⟨e2, k0, k1, k2⟩ (fun hS0 => ?_)
    · rintro ⟨_, _, h⟩; exact h
    refine wpAnyE_take (i := 0) (v := ?_) rfl (by kernel_rfl) (by kernel_rfl) (fun _ _ _ h => h) (by kernel_rfl) (by kernel_rfl) (Or.inl ⟨by rfl, ?hy⟩) (by assumption) ?_
    case hy =>
      intro w hSw
      (try dsimp only at hSw)
      obtain ⟨s0, s1, s2, s3⟩ := hSw
      go_simp
      try with_reducible rfl
    (try simp only [List.getElem_toArray])
    (try simp only [List.getElem_cons_succ])
    (try simp only [List.getElem_cons_zero])
    (try simp only [Act.put])
    (try simp only [List.setIfInBounds_toArray])
    (try simp only [List.set_cons_succ])
    (try simp only [List.set_cons_zero])
    refine wpAnyE_take (i := 1) (v := ?_) rfl (by kernel_rfl) (by kernel_rfl) (fun _ _ _ h => h) (by kernel_rfl) (by kernel_rfl) (Or.inl ⟨by rfl, ?hy⟩) (by assumption) ?_
    case hy =>
      intro w hSw
      (try dsimp only at hSw)
      obtain ⟨s0, s1, s2, s3⟩ := hSw
      go_simp
      try with_reducible rfl
    (try simp only [List.getElem_toArray])
    (try simp only [List.getElem_cons_succ])
    (try simp only [List.getElem_cons_zero])
    (try simp only [Act.put])
    (try simp only [List.setIfInBounds_toArray])
    (try simp only [List.set_cons_succ])
    (try simp only [List.set_cons_zero])
    refine wpAnyE_ready (rs := [2]) (by kernel_rfl) (by simp) ?_
    refine ReadyE.cons rfl (fun K' hK => ?_) ReadyE.nil
    go_simp
    with_reducible refine (HOW.out _).mono ?_
    rintro e u2 ⟨vo, rfl, hro, hbu⟩
    have hiu := HJ.out.i.drew.more hbu
    have HIU2 := Lib.hid hiu
    have eu2 := cell1 hiu.lst
    have hk2 := (hbu.block _ (lt_of_block HBK.out)).trans HBK.out
    obtain ⟨k0u, k1u, k2u⟩ := op_cells hk2
    have hpos : 0 < (opW (x1, x2, x3)).length := by unfold opW; simp
    obtain ⟨go, co, hvo, _, _⟩ := ownsRow_pos hro hpos
    subst hvo
    have HRO := Lib.hid hro
    have HK2 := Lib.hid hk2
    have HBU := Lib.hid hbu
    clear hbu hiu hro hk2 hpos
    go_wp2_with fail
    refine hK.out _ _ (.inr ?_) ?_
    · exact ⟨eu2, k0u, k1u, k2u⟩
    clear hK K'
    (try simp only [List.getElem_toArray])
    (try simp only [List.getElem_cons_succ])
    (try simp only [List.getElem_cons_zero])
    (try simp only [Act.put])
    (try simp only [List.setIfInBounds_toArray])
    (try simp only [List.set_cons_succ])
    (try simp only [List.set_cons_zero])
    refine wpAnyE_ready (rs := [3]) (by kernel_rfl) (by simp) ?_
    refine ReadyE.cons rfl (fun K' hK => ?_) ReadyE.nil
    refine step_append_any _ rfl (.tmp 26) (.tmp 28) 34 rfl 72 i0 (.agg #[.int .i64 0, .string ⟨#[]⟩, .int .i64 0, .int .i64 0]) 4 40 Tryz.underlying34 hi0 hz0 hz1 hz2 rfl (by decide) (.slice av wl cv) wl (wdsC (wr1 ++ pre.flatMap (fun x => opW x.1))) rfl (by have hq := row_up0 HIU2.out.row; rw [HWL.out] at hq; exact hq) (some ⟨go, 0, none⟩) (opW (x1, x2, x3)).length co (wdsC (opW (x1, x2, x3))) rfl (by rw [wdsC_len]) (by intro h; cases h) (by intro ad had; cases had; exact HRO.out.cells (g := go) rfl) (wdsC_one _) (by unfold maxLen; have := HLEN.out; omega) (by have := HLEN.out; omega) ?_
    intro a2 c2 g2 hown hg hnew
    have hgg := HIU2.out.grown hg
    have eg2 := cell1 hgg.2.1
    have fg2 := not_frozen hgg.2.1 0
    have hk3 := (hg.block _ (lt_of_block HK2.out) (block_off HK2.out HIU2.out.row (by decide))).trans HK2.out
    obtain ⟨k0g, k1g, k2g⟩ := op_cells hk3
    clear hk3
    refine hK.out _ _ (.inr ?_) ?_
    · exact ⟨eg2, k0g, k1g, k2g⟩
    have hin := WLJ.round (v' := .slice a2 (wl + (opW (x1, x2, x3)).length) c2) (w4 := g2) (V1 := u2) (xs := opW (x1, x2, x3)) (m := (opW (x1, x2, x3)).length) HJ.out HKN.out (((Below.refl _ V).drew).trans HBU.out) rfl (by rw [HWL.out]; exact hown) hg hnew
    have HIN := Lib.hid hin
    clear hown hg hnew hgg hK K' hin
    (try simp only [List.getElem_toArray])
    (try simp only [List.getElem_cons_succ])
    (try simp only [List.getElem_cons_zero])
    (try simp only [Act.put])
    (try simp only [List.setIfInBounds_toArray])
    (try simp only [List.set_cons_succ])
    (try simp only [List.set_cons_zero])
    refine wpAnyE_ready (rs := [4]) (by kernel_rfl) (by simp) ?_
    refine ReadyE.cons rfl (fun K' hK => ?_) ReadyE.nil
    go_simp
    refine hK.out _ _ (.inl rfl) ?_
    clear hK K'
    refine wpAnyE_done (by kernel_rfl) ?_ _
    (try simp only [List.getElem_toArray])
    (try simp only [List.getElem_cons_succ])
    (try simp only [List.getElem_cons_zero])
    (try simp only [Act.put])
    (try simp only [List.setIfInBounds_toArray])
    (try simp only [List.set_cons_succ])
    (try simp only [List.set_cons_zero])
    refine ⟨HIN.out.1 _, fun j hj => HIN.out.2.1 j (HY.out j hj).1 (HY.out j hj).2, .slice a2 (wl + (opW (x1, x2, x3)).length) c2, ?_⟩
    rw [List.flatMap_append, List.flatMap_cons, List.flatMap_nil, List.append_nil, ← List.append_assoc]
    exact HIN.out.2.2
  case done =>
    rintro D xs V hD rfl ⟨v, hJ⟩ hKD
    rw [flat_zip] at hJ
    obtain ⟨av, cv, hv, _, _⟩ := ownsRow_shape hJ.i.row
    subst hv
    have hl3 : (wr1 ++ L.flatMap opW).length ≤ 60 := by
      have h2 := flat_len L.zipIdx
      rw [flat_zip, List.length_zipIdx] at h2
      have h4 := HN.out
      rw [List.length_append]
      omega
    obtain ⟨ws3, hws3⟩ : ∃ l, wr1 ++ L.flatMap opW = l := ⟨_, rfl⟩
    rw [hws3] at hJ hl3
    obtain ⟨v3, hv3⟩ : ∃ v, Value.slice av ws3.length cv = v := ⟨_, rfl⟩
    rw [hv3] at hJ
    have HWS3 := Lib.hid hws3
    have HI3 := Lib.hid hJ.i
    have HKD := Lib.hid hKD
    have e3 := cell1 HI3.out.lst
    clear hJ hKD hws3 hv3
    go_wp2_with fail
    have e3 := cell1 HI3.out.lst
    have HY3 := Lib.hid HI3.out.drew
    have hmix : Tryz.prog.follows .mixedOrders = true := by kernel_rfl
    refine wp_region_noPanic ?_
    refine wp_region_last (fun V => V.cell? ⟨K, 0, none⟩ = some (v3)) 5 hmix e3 (fun hS0 => ?_)
    refine wpAnyE_take (i := 0) (v := ?_) rfl (by kernel_rfl) (by kernel_rfl) (fun _ _ _ h => h) (by kernel_rfl) (by kernel_rfl) (Or.inl ⟨by rfl, ?hy⟩) (by assumption) ?_
    case hy =>
      intro w hSw
      (try dsimp only at hSw)
      go_simp
      try with_reducible rfl
    (try simp only [List.getElem_toArray])
    (try simp only [List.getElem_cons_succ])
    (try simp only [List.getElem_cons_zero])
    (try simp only [Act.put])
    (try simp only [List.setIfInBounds_toArray])
    (try simp only [List.set_cons_succ])
    (try simp only [List.set_cons_zero])
    refine wpAnyE_ready (rs := [1]) (by kernel_rfl) (by simp) ?_
    refine ReadyE.cons rfl (fun K' hK => ?_) ReadyE.nil
    go_simp
    with_reducible refine (HMC.out _).mono ?_
    rintro e u3 ⟨rfl, hbu⟩
    have hiu := HY3.out.more hbu
    have HIU3 := Lib.hid hiu
    have eu3 := cell1 hiu.lst
    have HBU3 := Lib.hid hbu
    clear hbu hiu
    go_wp2_with fail
    refine hK.out _ _ (.inr ?_) ?_
    · exact eu3
    clear hK K'
    (try simp only [List.getElem_toArray])
    (try simp only [List.getElem_cons_succ])
    (try simp only [List.getElem_cons_zero])
    (try simp only [Act.put])
    (try simp only [List.setIfInBounds_toArray])
    (try simp only [List.set_cons_succ])
    (try simp only [List.set_cons_zero])
    refine wpAnyE_ready (rs := [2]) (by kernel_rfl) (by simp) ?_
    refine ReadyE.cons rfl (fun K' hK => ?_) ReadyE.nil
    go_simp
    have HIA3 := Lib.hid (HIU3.out.more ((Below.refl _ _).alloc (Nat.le_refl _) (.cells #[.int .i64 3, .string ⟨#[125]⟩, .int .i64 0, .int .i64 0] 72)))
    have ea3 := cell1 HIA3.out.lst
    refine hK.out _ _ (.inr ?_) ?_
    · exact ea3
    clear hK K'
    (try simp only [List.getElem_toArray])
    (try simp only [List.getElem_cons_succ])
    (try simp only [List.getElem_cons_zero])
    (try simp only [Act.put])
    (try simp only [List.setIfInBounds_toArray])
    (try simp only [List.set_cons_succ])
    (try simp only [List.set_cons_zero])
    refine wpAnyE_ready (rs := [3]) (by kernel_rfl) (by simp) ?_
    refine ReadyE.cons rfl (fun K' hK => ?_) ReadyE.nil
    refine step_append_any _ rfl (.tmp 30) (.tmp 32) 34 rfl 72 i0 (.agg #[.int .i64 0, .string ⟨#[]⟩, .int .i64 0, .int .i64 0]) 4 40 Tryz.underlying34 hi0 hz0 hz1 hz2 rfl (by decide) (v3) ws3.length (wdsC ws3) rfl (row_up0 HIA3.out.row) (some ⟨u3.heap.size, 0, none⟩) 1 1 [.int .i64 3, .string ⟨#[125]⟩, .int .i64 0, .int .i64 0] rfl rfl (by intro h; cases h) (by intro ad had; cases had; exact word_new _ _ _ _ _ _) (word_ones _ _ _ _) (by unfold maxLen; omega) (by omega) ?_
    intro a3 c3 g3 hown hg hnew
    have hgg := HIA3.out.grown hg
    have eg3 := cell1 hgg.2.1
    have fg3 := not_frozen hgg.2.1 0
    refine hK.out _ _ (.inr ?_) ?_
    · exact eg3
    have HO3 := Lib.hid (row_up0 HIA3.out.row)
    have HOWN := Lib.hid hown
    have HG := Lib.hid hg
    have HNEW := Lib.hid hnew
    have HGG := Lib.hid hgg
    clear hown hg hnew hgg hK K'
    (try simp only [List.getElem_toArray])
    (try simp only [List.getElem_cons_succ])
    (try simp only [List.getElem_cons_zero])
    (try simp only [Act.put])
    (try simp only [List.setIfInBounds_toArray])
    (try simp only [List.set_cons_succ])
    (try simp only [List.set_cons_zero])
    refine wpAnyE_ready (rs := [4]) (by kernel_rfl) (by simp) ?_
    refine ReadyE.cons rfl (fun K' hK => ?_) ReadyE.nil
    go_simp
    refine hK.out _ _ (.inr ?_) ?_
    · exact eg3
    clear hK K'
    (try simp only [List.getElem_toArray])
    (try simp only [List.getElem_cons_succ])
    (try simp only [List.getElem_cons_zero])
    (try simp only [Act.put])
    (try simp only [List.setIfInBounds_toArray])
    (try simp only [List.set_cons_succ])
    (try simp only [List.set_cons_zero])
    refine wpAnyE_ready (rs := [5]) (by kernel_rfl) (by simp) ?_
    refine ReadyE.cons rfl (fun K' hK => ?_) ReadyE.nil
    go_simp
    refine hK.out _ _ (.inl rfl) ?_
    clear hK K'
    refine wpAnyE_done (by kernel_rfl) ?_ _
    refine NoPanic.normal ?_
    (try simp only [List.getElem_toArray])
    (try simp only [List.getElem_cons_succ])
    (try simp only [List.getElem_cons_zero])
    (try simp only [Act.put])
    (try simp only [List.setIfInBounds_toArray])
    (try simp only [List.set_cons_succ])
    (try simp only [List.set_cons_zero])
    have hkd : g3.heap[D]? = some (.deferred (some [])) := by
      have h1 := (HBU3.out.block D (lt_of_block HKD.out)).trans HKD.out
      refine (HG.out.block D (Nat.lt_of_lt_of_le (lt_of_block h1) (by simp)) (fun e => ?_)).trans ((Below.heap_alloc _ _ _ (lt_of_block h1)).trans h1)
      obtain ⟨cur, hc⟩ := ownsRow_type HO3.out D (by simp [← e])
      rw [Below.heap_alloc _ _ _ (lt_of_block h1), h1] at hc
      cases hc
    have HKD3 := Lib.hid hkd
    clear hkd e3 ea3 eg3 eu3 fg3 hS0 HY3 HIU3
    go_wp2
    refine ⟨by simp, .inl ⟨_, _, rfl, run_takeDeferred HKD3.out, ?_⟩⟩
    have hW : W = ws3 ++ [(3, [125], 0, 0)] := by
      rw [← HW.out, words_head, ← HWS3.out, ← HWR1.out, ← HWS0.out]
      simp [headR]
    have hrow : WRow w.heap.size g3 (.slice a3 (ws3.length + 1) c3) (ws3 ++ [(3, [125], 0, 0)]) := by
      unfold WRow
      rw [List.length_append, wdsC_snoc]
      refine row_up HOWN.out (fun g hx => ?_)
      rcases HNEW.out g hx with h1 | h1
      · exact (HI3.out.row.lt g (by simpa using h1)).1
      · exact Nat.le_trans HIA3.out.t.size h1
    have hoff : ∀ k, (Value.slice a3 (ws3.length + 1) c3).ownBlock = some k → k ≠ D := by
      rintro k hk rfl
      obtain ⟨cur, hc⟩ := ownsRow_type hrow k (by simp [hk])
      rw [HKD3.out] at hc
      cases hc
    refine ⟨.tuple #[.slice a3 (ws3.length + 1) c3, .int .i64 0], ?res, _, rfl, ?_, ?_⟩
    case res => first | (go_simp; done) | (simp [results, go_sem]; done) | kernel_rfl | trace_state
    · rw [hW]
      exact ownsRow_same hrow (fun k hk _ => World.putObj_heap_other (hoff k (by simpa using hk)))
    · exact (HGG.out.2.2.put (by omega) _).below (by simp) (Nat.le_refl _)
set_option maxRecDepth 100000 in
theorem pwords_no (f : Bool) (ao : Option Addr) (b off cap : Nat) (L : List Opn) (w : World) (h : OArg w ao b off L) (hq : mayR (f, L) = false) :
    Calls Tryz.prog 24 #[prgV f ao L.length cap] w (WordsQ f L w) := by
  unfold WordsQ
  rw [hq]
  simp only [Bool.false_eq_true, if_false]
  have hb0 : Below w.heap.size w (w.alloc (.cells #[.bool f, .slice ao L.length cap] 51)) := (Below.refl _ w).alloc (Nat.le_refl _) _
  have hm := pmay_any f ao b off cap L (w.alloc (.cells #[.bool f, .slice ao L.length cap] 51)) (h.below hb0)
  rw [hq] at hm
  have HMAY := Lib.hid hm
  obtain ⟨n, hn⟩ : ∃ n, L.length = n := ⟨_, rfl⟩
  rw [hn] at HMAY ⊢
  clear h hb0 hm hn hq
  go_enter Tryz.func24, Tryz.ntmps24
  go_wp2_with fail
  refine HMAY.out.mono ?_
  rintro e w1 ⟨rfl, hb1⟩
  have HB := Lib.hid (box_kept hb1).2
  clear hb1
  go_wp2
  refine bodyPost_ret (results_tmp2 rfl _ _ _) rfl ?_
  exact ⟨_, rfl, World.ownsRow_nil _ _ _ _, HB.out⟩
/-- The words of any program. -/
theorem pwords_any (f : Bool) (ao : Option Addr) (b off cap : Nat) (L : List Opn) (w : World) (h : OArg w ao b off L) :
    Calls Tryz.prog 24 #[prgV f ao L.length cap] w (WordsQ f L w) := by
  cases hq : mayR (f, L) with
  | false => exact pwords_no f ao b off cap L w h hq
  | true =>
    cases f
    · exact pwords_f ao b off cap L w h hq
    · exact pwords_t ao b off cap L w h hq
end Go.Proofs.YtmcfjlkjijaflaaGreatDoor
