/-
  ProgBack, given the program's contracts. (Made by gen_back.py.)
-/
import Derived.Test.YtmcfjlkjijaflaaDoorPgSaid
import Derived.Test.YtmcfjlkjijaflaaDoorPgAnyLaw
import Derived.Test.YtmcfjlkjijaflaaDoorPgBackM
import Derived.Test.YtmcfjlkjijaflaaDoorPgMay
import Derived.Test.YtmcfjlkjijaflaaDoorGA
import Derived.Test.YtmcfjlkjijaflaaDoorTkSame
import Derived.Laws.StructEq
import Derived.Deep.RegionHeld3
namespace Go.Proofs.YtmcfjlkjijaflaaDoor
open Go.RowKit Go.Maps Go.Shelf
attribute [local go_sem] Oper.semAt_some

/-- The boxes of the program, of the answer, of the count; the words. -/
structure BkI (w V : World) (pv : Array Value) (K i : Nat) (v : Value) (ws : List Wd) : Prop where
  box : V.heap[w.heap.size]? = some (.cells pv 24 (0, 0))
  res : V.heap[w.heap.size + 1]? = some (.cells #[.bool false] 4 (0, 0))
  nb : V.heap[K]? = some (.cells #[.int .i64 (i : Nat)] 3 (0, 0))
  row : WRow w.heap.size V v ws
  t : Turned [] w V
  kne : w.heap.size + 1 < K
theorem BkI.below {w V V' : World} {pv : Array Value} {K i : Nat} {v : Value} {ws : List Wd} (h : BkI w V pv K i v ws) (hb : Below V.heap.size V V') : BkI w V' pv K i v ws :=
  ⟨(hb.block _ (lt_of_block h.box)).trans h.box, (hb.block _ (lt_of_block h.res)).trans h.res, (hb.block _ (lt_of_block h.nb)).trans h.nb, row_below h.row hb, h.t.trans (turned_below0 hb) (Newer.refl _ _), h.kne⟩
theorem BkI.mild {w A B : World} {pv : Array Value} {K i N : Nat} {v : Value} {ws : List Wd} (h : BkI w A pv K i v ws) (m : Mild [] N A B) (hN : w.heap.size ≤ N) : BkI w B pv K i v ws := by
  refine ⟨m.cells h.box (by simp), m.cells h.res (by simp), m.cells h.nb (by simp), ownsRow_same h.row (fun k hk _ => ?_), h.t.mild m hN (by simp), h.kne⟩
  obtain ⟨cur, hc⟩ := ownsRow_type h.row k hk
  rw [m.cells hc (by simp), hc]
theorem BkI.count {w V : World} {pv : Array Value} {K i : Nat} {v : Value} {ws : List Wd} (h : BkI w V pv K i v ws) : BkI w (V.setCell ⟨K, 0, none⟩ (.int .i64 ((i + 1 : Nat) : Int))) pv K (i + 1) v ws := by
  have hk := h.kne
  have hoff := block_off h.nb h.row (by decide)
  refine ⟨(Below.heap_setCell _ _ _ _ (by show w.heap.size ≠ K; omega)).trans h.box, (Below.heap_setCell _ _ _ _ (by show w.heap.size + 1 ≠ K; omega)).trans h.res, ?_, ownsRow_same h.row (fun k hk2 _ => Below.heap_setCell _ _ _ _ ?_), h.t.setCell (.inr (by show w.heap.size ≤ K; omega)) _, hk⟩
  · rw [heap_setCell_same _ _ _ _ _ _ h.nb]
    rfl
  · show k ≠ K
    rintro rfl
    exact hoff (by simpa using hk2 : v.ownBlock = some k).symm
theorem BkI.bel {w V : World} {pv : Array Value} {K i : Nat} {v : Value} {ws : List Wd} (h : BkI w V pv K i v ws) : Below w.heap.size w V := h.t.below (by simp) (Nat.le_refl _)
/-- .. ahead of the count. -/
structure BkP (w V : World) (pv : Array Value) : Prop where
  box : V.heap[w.heap.size]? = some (.cells pv 24 (0, 0))
  res : V.heap[w.heap.size + 1]? = some (.cells #[.bool false] 4 (0, 0))
  bel : Below w.heap.size w V
theorem BkP.below {w V V' : World} {pv : Array Value} (h : BkP w V pv) (hb : Below V.heap.size V V') : BkP w V' pv :=
  ⟨(hb.block _ (lt_of_block h.box)).trans h.box, (hb.block _ (lt_of_block h.res)).trans h.res, h.bel.trans (hb.mono h.bel.size)⟩
theorem BkP.start (w : World) (pv : Array Value) : BkP w ((w.alloc (.cells pv 24)).alloc (.cells #[.bool false] 4)) pv := by
  have hz := heap_alloc_new (w.alloc (.cells pv 24)) (.cells #[.bool false] 4)
  rw [World.size_alloc] at hz
  exact ⟨(Below.heap_alloc _ _ _ (by simp)).trans (heap_alloc_new w _), hz, ((Below.refl _ w).alloc (Nat.le_refl _) _).alloc (by simp) _⟩
theorem BkP.count {w V : World} {pv : Array Value} {v : Value} {ws : List Wd} (h : BkP w V pv) (hr : WRow w.heap.size V v ws) : BkI w (V.alloc (.cells #[.int .i64 ((0 : Nat) : Int)] 3)) pv V.heap.size 0 v ws := by
  have hl := lt_of_block h.res
  have hb : Below V.heap.size V (V.alloc (.cells #[.int .i64 ((0 : Nat) : Int)] 3)) := (Below.refl _ V).alloc (Nat.le_refl _) _
  exact ⟨(hb.block _ (lt_of_block h.box)).trans h.box, (hb.block _ hl).trans h.res, heap_alloc_new V _, row_below hr hb, turned_below0 (h.below hb).bel, hl⟩
theorem BkI.fin {w V : World} {pv : Array Value} {K i D : Nat} {v : Value} {ws : List Wd} (h : BkI w V pv K i v ws) (hN : w.heap.size + 2 ≤ D) (hK : V.heap[D]? = some (.deferred (some []))) (q : Bool) :
    (V.setCell ⟨w.heap.size + 1, 0, none⟩ (.bool q)).heap[D]? = some (.deferred (some [])) ∧
    (∀ o, ((V.setCell ⟨w.heap.size + 1, 0, none⟩ (.bool q)).putObj D o).heap[w.heap.size + 1]? = some (.cells #[.bool q] 4 (0, 0)) ∧
    Below w.heap.size w ((V.setCell ⟨w.heap.size + 1, 0, none⟩ (.bool q)).putObj D o)) :=
  (show MayB w V 0 from ⟨h.res, h.t, Nat.zero_le _⟩).fin hN hK q
theorem zip_at {L : List Opn} {pre : List (Opn × Nat)} {x : Opn × Nat} (h : (pre ++ [x]) <+: L.zipIdx) : x.2 = pre.length ∧ ∃ hl : pre.length < L.length, L[pre.length] = x.1 := by
  obtain ⟨t, ht⟩ := h
  have h1 : L.zipIdx[pre.length]? = some x := by
    rw [← ht, List.append_assoc, List.getElem?_append_right (Nat.le_refl _)]
    simp
  rw [List.getElem?_zipIdx] at h1
  simp only [Option.map_eq_some_iff] at h1
  obtain ⟨a, ha, hx⟩ := h1
  obtain ⟨hl, hv⟩ := List.getElem?_eq_some_iff.1 ha
  subst hx
  exact ⟨by simp, hl, hv⟩
set_option maxRecDepth 100000 in
set_option maxHeartbeats 12800000 in
theorem progback_no (S : PgSaid) (f : Bool) (ao : Option Addr) (b off cap : Nat) (L : List Opn) (w : World) (hO : OArg w ao b off L) (hs : ∀ x ∈ L, small x.1) (h20 : L.length ≤ 20) (hq : mayR (f, L) = false) (hg : S.Good w) :
    Calls Tryd.prog 3 #[prgV f ao L.length cap] w fun e w' => e = .returned (.bool true) ∧ Below w.heap.size w w' := by
  have HG := Lib.hid hg
  have HAW := Lib.hid (fun W hW => awake10 S W hW)
  have HO := Lib.hid hO
  have HS := Lib.hid hs
  have HQ := Lib.hid hq
  have hmix : Tryd.prog.follows .mixedOrders = true := by kernel_rfl
  have hpp : ∀ V pv, BkP w V pv → Calls Tryd.prog 9 #[prgV f ao L.length cap] V (PrintP (printR (f, L)) V) := fun V pv hV => S.print f ao b off cap L V (HO.out.below hV.bel) (by omega) HS.out (S.keep HG.out hV.bel)
  have hrp : ∀ V pv, BkP w V pv → Calls Tryd.prog 10 #[prgV f ao L.length cap] V (PrintP (printR (f, L)) V) := fun V pv hV => rprint_any f ao b off cap L V (HO.out.below hV.bel) (by omega) HS.out
  have hpw := fun V pv (hV : BkP w V pv) => S.words f ao b off cap L V (HO.out.below hV.bel) (by omega) HS.out (S.keep HG.out hV.bel)
  have hmy := fun V pv (hV : BkP w V pv) => S.may f ao b off cap L V (HO.out.below hV.bel) (by omega) HS.out (S.keep HG.out hV.bel)
  unfold PrintP at hpp hrp
  rw [print_no hq] at hpp hrp
  rw [hq] at hpw hmy
  simp only [Bool.false_eq_true, if_false] at hpw
  obtain ⟨n, hn⟩ : ∃ n, L.length = n := ⟨_, rfl⟩
  simp only [hn, prgV] at hpp hrp hpw hmy
  have HN := Lib.hid hn
  rw [hn] at h20 ⊢
  have HPP := Lib.hid hpp
  have HRP := Lib.hid hrp
  have HPW := Lib.hid hpw
  have HMY := Lib.hid hmy
  have hn20 : ¬ (20 : Int) < n := by omega
  clear hg hO hs hq hpp hrp hpw hmy hn
  refine callsIn_wide.1 (?_ : CallsIn Fence.wide 20 _ _ _ _ _)
  refine callsIn_of_wp_marks Tryd.func3 rfl trivial ?_ rfl
  simp only [Tryd.ntmps3, List.size_toArray, List.length_cons, List.length_nil, Nat.reduceAdd, Nat.reduceSub, Array.replicate_succ, Array.replicate_zero, List.push_toArray, List.append_toArray, List.nil_append, List.cons_append]
  refine wpIn_wide.2 ?_
  have HP0 := Lib.hid (BkP.start w #[.bool f, .slice ao n cap])
  go_wp2_with fail
  with_reducible refine (HAW.out _ (S.keep HG.out HP0.out.bel)).mono ?_
  rintro e w1 ⟨rfl, hb⟩
  have HP1 := Lib.hid (HP0.out.below hb)
  obtain ⟨c0, c1⟩ := two_cells HP1.out.box
  clear hb
  go_wp2_with fail
  with_reducible refine (HPP.out _ _ HP1.out).mono ?_
  rintro e w2 ⟨rfl, hb⟩
  have HP2 := Lib.hid (HP1.out.below hb)
  clear c0 c1
  obtain ⟨c0, c1⟩ := two_cells HP2.out.box
  clear hb
  go_wp2_with fail
  with_reducible refine (HRP.out _ _ HP2.out).mono ?_
  rintro e w3 ⟨rfl, hb⟩
  have HP3 := Lib.hid (HP2.out.below hb)
  clear c0 c1
  obtain ⟨c0, c1⟩ := two_cells HP3.out.box
  clear hb
  go_wp2_with fail
  with_reducible refine (HPW.out _ _ HP3.out).mono ?_
  rintro e w4 ⟨v, rfl, hr4, hb⟩
  have HP4 := Lib.hid (HP3.out.below hb)
  have HR4 := Lib.hid (row_base hr4 HP3.out.bel.size)
  clear c0 c1
  obtain ⟨c0, c1⟩ := two_cells HP4.out.box
  clear hb hr4
  go_wp2_with fail
  with_reducible refine (HMY.out _ _ HP4.out).mono ?_
  rintro e w5 ⟨rfl, hb⟩
  have HP5 := Lib.hid (HP4.out.below hb)
  have HR5 := Lib.hid (row_below HR4.out hb)
  obtain ⟨av, vcap, hv, _, _⟩ := ownsRow_shape HR5.out
  subst hv
  have hl5 := lt_of_block HP5.out.box
  clear c0 c1
  obtain ⟨c0, c1⟩ := two_cells HP5.out.box
  have hi6 := HP5.out.count HR5.out
  obtain ⟨K, hK⟩ : ∃ K, w5.heap.size = K := ⟨_, rfl⟩
  obtain ⟨W8, hW8⟩ : ∃ W8, w5.alloc (.cells #[.int .i64 ((0 : Nat) : Int)] 3) = W8 := ⟨_, rfl⟩
  rw [hW8, hK] at hi6
  have HI8 := Lib.hid hi6
  have HKK := Lib.hid hK
  have HWW := Lib.hid hW8
  have HE := Lib.hid (each_any f ao b off cap L W8 (HO.out.below HI8.out.bel) (by have := HN.out; omega))
  rw [HN.out] at HE
  clear hb hi6 hK hW8
  go_wp2_with fail
  rw [show (0 : Int) = ((0 : Nat) : Int) from rfl, HWW.out, HKK.out]
  refine HE.out.mono ?_
  rintro e W9 ⟨B, rfl, hKO, hb9⟩
  obtain ⟨Yb, hY, hseq⟩ := each1_seq (n := 19) (by omega) hKO (by have := HN.out; omega)
  have HY := Lib.hid hY
  have HSEQ := Lib.hid hseq
  have HI9 := Lib.hid (HI8.out.below hb9)
  have HKN := Lib.hid (lt_of_block HI8.out.nb)
  have hz9 := hb9.size
  have hz8 := lt_of_block HI8.out.res
  have hzk := HI8.out.kne
  clear hY hseq hKO hb9 HE c0 c1
  go_wp2_with fail
  refine (wpIn_wide (n := 20)).1 ?_
  refine range_turns_boxed rfl (by omega) (gf := 43) (lb := #[.pointer (some ⟨B, 0, none⟩)]) rfl trivial (enters_of Tryd.func43 (by kernel_rfl) rfl)
    (X := []) (Y := Yb) (by simp) (fun k hk => (HY.out k hk).2) HSEQ.out (fun _ => rfl) (fun _ _ _ h _ => h) (fun _ _ _ h _ => h)
    (fun pre V => BkI w V #[.bool f, .slice ao n cap] K pre.length (.slice av ([] : List Wd).length vcap) ([] : List Wd) ∧ W9.heap.size ≤ V.heap.size)
    (fun c pre V => False)
    (fun xs A B h mm => ⟨h.1.mild mm (by omega), Nat.le_trans h.2 mm.size⟩) (fun c xs A B h mm => h) ⟨HI9.out, Nat.le_refl _⟩ (fun xs V h => h.2)
    39 (fun x => #[.int .i64 x.1.1, .int .i64 x.1.2.1, .int .i64 x.1.2.2]) ?a1 ?assign ?body ?done ?stop
  case stop => exact fun D c xs V hD hsx h hK => h.elim
  case assign =>
    intro l x Bk V K' hBk hK
    gi_wp2
    exact hK
  case body =>
    rintro l pre ⟨⟨x1, x2, x3⟩, j⟩ Bk V hk hbk ⟨hI, hz⟩ hsp
    obtain ⟨hj, hlt, hLj⟩ := zip_at hsp
    simp only at hk hj hLj
    subst hj
    obtain ⟨j, hjl⟩ : ∃ j, pre.length = j := ⟨_, rfl⟩
    have HJL := Lib.hid hjl
    simp only [hjl] at hlt hLj hI ⊢
    obtain ⟨k0, k1, k2⟩ := op_cells hk
    have hOV := HO.out.below hI.bel
    obtain ⟨rfl, hbl⟩ := hOV.at_ (by omega)
    obtain ⟨y0, y1, y2⟩ := hOV.cells j hlt
    rw [hLj] at y0 y1 y2
    simp only at y0 y1 y2
    obtain ⟨c0, c1⟩ := two_cells hI.box
    have n0 := cell1 hI.nb
    have HI := Lib.hid hI
    have HBK := Lib.hid hk
    have HSM := Lib.hid (HS.out (x1, x2, x3) (by rw [← hLj]; exact List.getElem_mem _))
    have HPN := Lib.hid (fun V hV => S.name x1 V HSM.out (S.keep HG.out hV))
    have HRN := Lib.hid (fun V => rname_any x1 HSM.out.1 HSM.out.2 V)
    have hjn : j < n := by have := HN.out; omega
    have i0 : (0 : Int) ≤ j := by omega
    have i1 : (j : Int) < n := by omega
    have i2 : IntKind.i64.wrap ((j : Int) + 1) = ((j + 1 : Nat) : Int) := by rw [IntKind.wrap_i64]; omega
    obtain ⟨sx, hsx⟩ : ∃ sx : ByteArray, ⟨(nameR x1).toArray⟩ = sx := ⟨_, rfl⟩
    simp only [hsx] at HPN HRN
    have hxx : (sx.toList != sx.toList) = false := by simp
    have HZ := Lib.hid hz
    clear hk hsp hI hOV hLj hsx hjl hz
    have HTV : Hid (Below V.heap.size V V.drew) := Lib.hid (Below.refl _ V).drew
    have hbo : b < V.heap.size := hbl
    have hold : ∀ V', Below V.heap.size V V' → V'.cell? ⟨K, 0, none⟩ = some (.int .i64 (j : Nat)) ∧ V'.cell? ⟨Bk, 0, none⟩ = some (.int .i64 x1) ∧ V'.cell? ⟨Bk, 1, none⟩ = some (.int .i64 x2) ∧ V'.cell? ⟨Bk, 2, none⟩ = some (.int .i64 x3) ∧
        V'.cell? ⟨w.heap.size, 1, none⟩ = some (.slice (some ⟨b, off, none⟩) n cap) ∧ V'.cell? ⟨b, off + j * 3, none⟩ = some (.int .i64 x1) ∧ V'.cell? ⟨b, off + j * 3 + 1, none⟩ = some (.int .i64 x2) ∧ V'.cell? ⟨b, off + j * 3 + 2, none⟩ = some (.int .i64 x3) := fun V' hb =>
      have hB := lt_of_block HBK.out
      have hb1 := lt_of_block HI.out.nb
      have hb2 := lt_of_block HI.out.box
      ⟨(hb.cell (p := ⟨K, 0, none⟩) hb1).trans n0, (hb.cell (p := ⟨Bk, 0, none⟩) hB).trans k0, (hb.cell (p := ⟨Bk, 1, none⟩) hB).trans k1, (hb.cell (p := ⟨Bk, 2, none⟩) hB).trans k2, (hb.cell (p := ⟨w.heap.size, 1, none⟩) hb2).trans c1,
        (hb.cell (p := ⟨b, off + j * 3, none⟩) hbo).trans y0, (hb.cell (p := ⟨b, off + j * 3 + 1, none⟩) hbo).trans y1, (hb.cell (p := ⟨b, off + j * 3 + 2, none⟩) hbo).trans y2⟩
    gi_wp2_with fail
    refine wpRound_held (fun V' => V'.cell? ⟨K, 0, none⟩ = some (.int .i64 (j : Nat)) ∧ V'.cell? ⟨Bk, 0, none⟩ = some (.int .i64 x1) ∧ V'.cell? ⟨Bk, 1, none⟩ = some (.int .i64 x2) ∧ V'.cell? ⟨Bk, 2, none⟩ = some (.int .i64 x3) ∧
        V'.cell? ⟨w.heap.size, 1, none⟩ = some (.slice (some ⟨b, off, none⟩) n cap) ∧ V'.cell? ⟨b, off + j * 3, none⟩ = some (.int .i64 x1) ∧ V'.cell? ⟨b, off + j * 3 + 1, none⟩ = some (.int .i64 x2) ∧ V'.cell? ⟨b, off + j * 3 + 2, none⟩ = some (.int .i64 x3)) (by kernel_rfl) ?_ hmix (hold _ HTV.out) (fun hS0 => ?_)
    · rintro ⟨_, _, h⟩; exact h
    clear k0 k1 k2 y0 y1 y2 c0 c1 n0
    refine wpAnyH_take (i := 0) (v := ?_) rfl (by kernel_rfl) (by kernel_rfl) (by kernel_rfl) (fun _ _ _ h => h) (Or.inl ⟨by rfl, ?hy⟩) (by assumption) ?_
    case hy =>
      intro w hSw
      (try dsimp only at hSw)
      obtain ⟨s0, s1, s2, s3, s4, s5, s6, s7⟩ := hSw
      go_simp
      try with_reducible rfl
    (try simp only [List.getElem_toArray])
    (try simp only [List.getElem_cons_succ])
    (try simp only [List.getElem_cons_zero])
    (try simp only [Act.put])
    (try simp only [List.setIfInBounds_toArray])
    (try simp only [List.set_cons_succ])
    (try simp only [List.set_cons_zero])
    refine wpAnyH_take (i := 1) (v := ?_) rfl (by kernel_rfl) (by kernel_rfl) (by kernel_rfl) (fun _ _ _ h => h) (Or.inl ⟨by rfl, ?hy⟩) (by assumption) ?_
    case hy =>
      intro w hSw
      (try dsimp only at hSw)
      obtain ⟨s0, s1, s2, s3, s4, s5, s6, s7⟩ := hSw
      go_simp
      try with_reducible rfl
    (try simp only [List.getElem_toArray])
    (try simp only [List.getElem_cons_succ])
    (try simp only [List.getElem_cons_zero])
    (try simp only [Act.put])
    (try simp only [List.setIfInBounds_toArray])
    (try simp only [List.set_cons_succ])
    (try simp only [List.set_cons_zero])
    refine wpAnyH_take (i := 2) (v := ?_) rfl (by kernel_rfl) (by kernel_rfl) (by kernel_rfl) (fun _ _ _ h => h) (Or.inl ⟨by rfl, ?hy⟩) (by assumption) ?_
    case hy =>
      intro w hSw
      (try dsimp only at hSw)
      obtain ⟨s0, s1, s2, s3, s4, s5, s6, s7⟩ := hSw
      go_simp
      try with_reducible rfl
    (try simp only [List.getElem_toArray])
    (try simp only [List.getElem_cons_succ])
    (try simp only [List.getElem_cons_zero])
    (try simp only [Act.put])
    (try simp only [List.setIfInBounds_toArray])
    (try simp only [List.set_cons_succ])
    (try simp only [List.set_cons_zero])
    refine wpAnyH_take (i := 3) (v := ?_) rfl (by kernel_rfl) (by kernel_rfl) (by kernel_rfl) (fun _ _ _ h => h) (Or.inl ⟨by rfl, ?hy⟩) (by assumption) ?_
    case hy =>
      intro w hSw
      (try dsimp only at hSw)
      obtain ⟨s0, s1, s2, s3, s4, s5, s6, s7⟩ := hSw
      go_simp
      try with_reducible rfl
    (try simp only [List.getElem_toArray])
    (try simp only [List.getElem_cons_succ])
    (try simp only [List.getElem_cons_zero])
    (try simp only [Act.put])
    (try simp only [List.setIfInBounds_toArray])
    (try simp only [List.set_cons_succ])
    (try simp only [List.set_cons_zero])
    refine wpAnyH_take (i := 4) (v := ?_) rfl (by kernel_rfl) (by kernel_rfl) (by kernel_rfl) (fun _ _ _ h => h) (Or.inl ⟨by rfl, ?hy⟩) (by assumption) ?_
    case hy =>
      intro w hSw
      (try dsimp only at hSw)
      obtain ⟨s0, s1, s2, s3, s4, s5, s6, s7⟩ := hSw
      go_simp
      try with_reducible rfl
    (try simp only [List.getElem_toArray])
    (try simp only [List.getElem_cons_succ])
    (try simp only [List.getElem_cons_zero])
    (try simp only [Act.put])
    (try simp only [List.setIfInBounds_toArray])
    (try simp only [List.set_cons_succ])
    (try simp only [List.set_cons_zero])
    refine wpAnyH_take (i := 5) (v := ?_) rfl (by kernel_rfl) (by kernel_rfl) (by kernel_rfl) (fun _ _ _ h => h) (Or.inl ⟨by rfl, ?hy⟩) (by assumption) ?_
    case hy =>
      intro w hSw
      (try dsimp only at hSw)
      obtain ⟨s0, s1, s2, s3, s4, s5, s6, s7⟩ := hSw
      go_simp
      try with_reducible rfl
    (try simp only [List.getElem_toArray])
    (try simp only [List.getElem_cons_succ])
    (try simp only [List.getElem_cons_zero])
    (try simp only [Act.put])
    (try simp only [List.setIfInBounds_toArray])
    (try simp only [List.set_cons_succ])
    (try simp only [List.set_cons_zero])
    refine wpAnyH_take (i := 6) (v := ?_) rfl (by kernel_rfl) (by kernel_rfl) (by kernel_rfl) (fun _ _ _ h => h) (Or.inl ⟨by rfl, ?hy⟩) (by assumption) ?_
    case hy =>
      intro w hSw
      (try dsimp only at hSw)
      obtain ⟨s0, s1, s2, s3, s4, s5, s6, s7⟩ := hSw
      go_simp
      try with_reducible rfl
    (try simp only [List.getElem_toArray])
    (try simp only [List.getElem_cons_succ])
    (try simp only [List.getElem_cons_zero])
    (try simp only [Act.put])
    (try simp only [List.setIfInBounds_toArray])
    (try simp only [List.set_cons_succ])
    (try simp only [List.set_cons_zero])
    refine wpAnyH_take (i := 7) (v := ?_) rfl (by kernel_rfl) (by kernel_rfl) (by kernel_rfl) (fun _ _ _ h => h) (Or.inl ⟨by rfl, ?hy⟩) (by assumption) ?_
    case hy =>
      intro w hSw
      (try dsimp only at hSw)
      obtain ⟨s0, s1, s2, s3, s4, s5, s6, s7⟩ := hSw
      go_simp
      try with_reducible rfl
    (try simp only [List.getElem_toArray])
    (try simp only [List.getElem_cons_succ])
    (try simp only [List.getElem_cons_zero])
    (try simp only [Act.put])
    (try simp only [List.setIfInBounds_toArray])
    (try simp only [List.set_cons_succ])
    (try simp only [List.set_cons_zero])
    refine wpAnyH_take (i := 8) (v := ?_) rfl (by kernel_rfl) (by kernel_rfl) (by kernel_rfl) (fun _ _ _ h => h) (Or.inl ⟨by rfl, ?hy⟩) (by assumption) ?_
    case hy =>
      intro w hSw
      (try dsimp only at hSw)
      obtain ⟨s0, s1, s2, s3, s4, s5, s6, s7⟩ := hSw
      go_simp
      try with_reducible rfl
    (try simp only [List.getElem_toArray])
    (try simp only [List.getElem_cons_succ])
    (try simp only [List.getElem_cons_zero])
    (try simp only [Act.put])
    (try simp only [List.setIfInBounds_toArray])
    (try simp only [List.set_cons_succ])
    (try simp only [List.set_cons_zero])
    refine wpAnyH_take (i := 9) (v := ?_) rfl (by kernel_rfl) (by kernel_rfl) (by kernel_rfl) (fun _ _ _ h => h) (Or.inl ⟨by rfl, ?hy⟩) (by assumption) ?_
    case hy =>
      intro w hSw
      (try dsimp only at hSw)
      obtain ⟨s0, s1, s2, s3, s4, s5, s6, s7⟩ := hSw
      go_simp
      try with_reducible rfl
    (try simp only [List.getElem_toArray])
    (try simp only [List.getElem_cons_succ])
    (try simp only [List.getElem_cons_zero])
    (try simp only [Act.put])
    (try simp only [List.setIfInBounds_toArray])
    (try simp only [List.set_cons_succ])
    (try simp only [List.set_cons_zero])
    refine wpAnyH_take (i := 10) (v := ?_) rfl (by kernel_rfl) (by kernel_rfl) (by kernel_rfl) (fun _ _ _ h => h) (Or.inl ⟨by rfl, ?hy⟩) (by assumption) ?_
    case hy =>
      intro w hSw
      (try dsimp only at hSw)
      obtain ⟨s0, s1, s2, s3, s4, s5, s6, s7⟩ := hSw
      go_simp
      try with_reducible rfl
    (try simp only [List.getElem_toArray])
    (try simp only [List.getElem_cons_succ])
    (try simp only [List.getElem_cons_zero])
    (try simp only [Act.put])
    (try simp only [List.setIfInBounds_toArray])
    (try simp only [List.set_cons_succ])
    (try simp only [List.set_cons_zero])
    refine wpAnyH_take (i := 11) (v := ?_) rfl (by kernel_rfl) (by kernel_rfl) (by kernel_rfl) (fun _ _ _ h => h) (Or.inl ⟨by rfl, ?hy⟩) (by assumption) ?_
    case hy =>
      intro w hSw
      (try dsimp only at hSw)
      obtain ⟨s0, s1, s2, s3, s4, s5, s6, s7⟩ := hSw
      go_simp
      try with_reducible rfl
    (try simp only [List.getElem_toArray])
    (try simp only [List.getElem_cons_succ])
    (try simp only [List.getElem_cons_zero])
    (try simp only [Act.put])
    (try simp only [List.setIfInBounds_toArray])
    (try simp only [List.set_cons_succ])
    (try simp only [List.set_cons_zero])
    refine wpAnyH_take (i := 12) (v := ?_) rfl (by kernel_rfl) (by kernel_rfl) (by kernel_rfl) (fun _ _ _ h => h) (Or.inl ⟨by rfl, ?hy⟩) (by assumption) ?_
    case hy =>
      intro w hSw
      (try dsimp only at hSw)
      obtain ⟨s0, s1, s2, s3, s4, s5, s6, s7⟩ := hSw
      go_simp
      try with_reducible rfl
    (try simp only [List.getElem_toArray])
    (try simp only [List.getElem_cons_succ])
    (try simp only [List.getElem_cons_zero])
    (try simp only [Act.put])
    (try simp only [List.setIfInBounds_toArray])
    (try simp only [List.set_cons_succ])
    (try simp only [List.set_cons_zero])
    refine wpAnyH_take (i := 13) (v := ?_) rfl (by kernel_rfl) (by kernel_rfl) (by kernel_rfl) (fun _ _ _ h => h) (Or.inl ⟨by rfl, ?hy⟩) (by assumption) ?_
    case hy =>
      intro w hSw
      (try dsimp only at hSw)
      obtain ⟨s0, s1, s2, s3, s4, s5, s6, s7⟩ := hSw
      go_simp
      try with_reducible rfl
    (try simp only [List.getElem_toArray])
    (try simp only [List.getElem_cons_succ])
    (try simp only [List.getElem_cons_zero])
    (try simp only [Act.put])
    (try simp only [List.setIfInBounds_toArray])
    (try simp only [List.set_cons_succ])
    (try simp only [List.set_cons_zero])
    refine wpAnyH_take (i := 14) (v := ?_) rfl (by kernel_rfl) (by kernel_rfl) (by kernel_rfl) (fun _ _ _ h => h) (Or.inl ⟨by rfl, ?hy⟩) (by assumption) ?_
    case hy =>
      intro w hSw
      (try dsimp only at hSw)
      obtain ⟨s0, s1, s2, s3, s4, s5, s6, s7⟩ := hSw
      go_simp
      try with_reducible rfl
    (try simp only [List.getElem_toArray])
    (try simp only [List.getElem_cons_succ])
    (try simp only [List.getElem_cons_zero])
    (try simp only [Act.put])
    (try simp only [List.setIfInBounds_toArray])
    (try simp only [List.set_cons_succ])
    (try simp only [List.set_cons_zero])
    refine wpAnyH_take (i := 16) (v := ?_) rfl (by kernel_rfl) (by kernel_rfl) (by kernel_rfl) (fun _ _ _ h => h) (Or.inl ⟨by rfl, ?hy⟩) (by assumption) ?_
    case hy =>
      intro w hSw
      (try dsimp only at hSw)
      obtain ⟨s0, s1, s2, s3, s4, s5, s6, s7⟩ := hSw
      go_simp
      try with_reducible rfl
    (try simp only [List.getElem_toArray])
    (try simp only [List.getElem_cons_succ])
    (try simp only [List.getElem_cons_zero])
    (try simp only [Act.put])
    (try simp only [List.setIfInBounds_toArray])
    (try simp only [List.set_cons_succ])
    (try simp only [List.set_cons_zero])
    refine wpAnyH_take (i := 17) (v := ?_) rfl (by kernel_rfl) (by kernel_rfl) (by kernel_rfl) (fun _ _ _ h => h) (Or.inl ⟨by rfl, ?hy⟩) (by assumption) ?_
    case hy =>
      intro w hSw
      (try dsimp only at hSw)
      obtain ⟨s0, s1, s2, s3, s4, s5, s6, s7⟩ := hSw
      go_simp
      try with_reducible rfl
    (try simp only [List.getElem_toArray])
    (try simp only [List.getElem_cons_succ])
    (try simp only [List.getElem_cons_zero])
    (try simp only [Act.put])
    (try simp only [List.setIfInBounds_toArray])
    (try simp only [List.set_cons_succ])
    (try simp only [List.set_cons_zero])
    refine wpAnyH_ready (rs := [15]) (by kernel_rfl) (by simp) ?_
    refine AllReadyH.cons rfl (fun K' hK => ?_) AllReadyH.nil
    go_simp
    with_reducible refine (HPN.out _ (HI.out.bel.trans (HTV.out.mono HI.out.bel.size))).mono ?_
    rintro e u1 ⟨rfl, hbu⟩
    have HTu1 := Lib.hid (HTV.out.trans (hbu.mono HTV.out.size))
    obtain ⟨s0, s1, s2, s3, s4, s5, s6, s7⟩ := hold _ HTu1.out
    go_wp2_with fail
    refine hK.out _ _ ?_ (fun hHeld => ?_)
    · exact ⟨s0, s1, s2, s3, s4, s5, s6, s7⟩
    clear hK K' s0 s1 s2 s3 s4 s5 s6 s7 hbu
    (try simp only [List.getElem_toArray])
    (try simp only [List.getElem_cons_succ])
    (try simp only [List.getElem_cons_zero])
    (try simp only [Act.put])
    (try simp only [List.setIfInBounds_toArray])
    (try simp only [List.set_cons_succ])
    (try simp only [List.set_cons_zero])
    refine wpAnyH_ready (rs := [18]) (by kernel_rfl) (by simp) ?_
    refine AllReadyH.cons rfl (fun K' hK => ?_) AllReadyH.nil
    go_simp
    with_reducible refine (HRN.out _).mono ?_
    rintro e u2 ⟨rfl, hbu⟩
    have HTu2 := Lib.hid (HTu1.out.trans (hbu.mono HTu1.out.size))
    obtain ⟨s0, s1, s2, s3, s4, s5, s6, s7⟩ := hold _ HTu2.out
    go_wp2_with fail
    refine hK.out _ _ ?_ (fun hHeld => ?_)
    · exact ⟨s0, s1, s2, s3, s4, s5, s6, s7⟩
    clear hK K' s0 s1 s2 s3 s4 s5 s6 s7 hbu
    (try simp only [List.getElem_toArray])
    (try simp only [List.getElem_cons_succ])
    (try simp only [List.getElem_cons_zero])
    (try simp only [Act.put])
    (try simp only [List.setIfInBounds_toArray])
    (try simp only [List.set_cons_succ])
    (try simp only [List.set_cons_zero])
    refine wpAnyH_take (i := 19) (v := ?_) rfl (by kernel_rfl) (by kernel_rfl) (by kernel_rfl) (fun _ _ _ h => h) (Or.inl ⟨by rfl, ?hy⟩) (by assumption) ?_
    case hy =>
      intro w hSw
      (try dsimp only at hSw)
      obtain ⟨s0, s1, s2, s3, s4, s5, s6, s7⟩ := hSw
      go_simp
      try with_reducible rfl
    (try simp only [List.getElem_toArray])
    (try simp only [List.getElem_cons_succ])
    (try simp only [List.getElem_cons_zero])
    (try simp only [Act.put])
    (try simp only [List.setIfInBounds_toArray])
    (try simp only [List.set_cons_succ])
    (try simp only [List.set_cons_zero])
    refine wpAnyH_take (i := 20) (v := ?_) rfl (by kernel_rfl) (by kernel_rfl) (by kernel_rfl) (fun _ _ _ h => h) (Or.inl ⟨by rfl, ?hy⟩) (by assumption) ?_
    case hy =>
      intro w hSw
      (try dsimp only at hSw)
      obtain ⟨s0, s1, s2, s3, s4, s5, s6, s7⟩ := hSw
      go_simp
      try with_reducible rfl
    (try simp only [List.getElem_toArray])
    (try simp only [List.getElem_cons_succ])
    (try simp only [List.getElem_cons_zero])
    (try simp only [Act.put])
    (try simp only [List.setIfInBounds_toArray])
    (try simp only [List.set_cons_succ])
    (try simp only [List.set_cons_zero])
    refine wpAnyH_done (by kernel_rfl) ?_ _
    (try simp only [List.getElem_toArray])
    (try simp only [List.getElem_cons_succ])
    (try simp only [List.getElem_cons_zero])
    (try simp only [Act.put])
    (try simp only [List.setIfInBounds_toArray])
    (try simp only [List.set_cons_succ])
    (try simp only [List.set_cons_zero])
    have HI2 := Lib.hid (HI.out.below HTu2.out)
    have n2 := cell1 HI2.out.nb
    have f2 := not_frozen HI2.out.nb 0
    gi_wp2
    refine ⟨(keeps_below HTu2.out).trans ((KeepsOthers.setCell _ _ _).from _), fun q hq => ?_, ?_, ?_⟩
    · have h1 := HY.out q hq
      have h2 := HKN.out
      have h3 := HZ.out
      exact (Below.heap_setCell _ _ _ _ (by show q ≠ K; omega)).trans (HTu2.out.block _ (by omega))
    · have h4 := HI2.out.count
      rw [List.length_append, List.length_singleton, HJL.out]
      exact h4
    · have h3 := HZ.out
      have h4 := HTu2.out.size
      simp [World.setCell]
      omega

  case done =>
    rintro D xs V hD rfl ⟨hI, hz⟩ hKD
    rw [List.length_zipIdx, HN.out] at hI
    obtain ⟨c0, c1⟩ := two_cells hI.box
    have n0 := cell1 hI.nb
    have r0 := cell1 hI.res
    have f0 := not_frozen hI.res 0
    have HI := Lib.hid hI
    have HKD := Lib.hid hKD
    have HZ := Lib.hid hz
    clear hI hKD hz
    go_wp2
    have hf := HI.out.fin (D := D) (by omega) HKD.out true
    refine ⟨by simp, .inl ⟨_, _, rfl, run_takeDeferred hf.1, ?_⟩⟩
    exact ⟨_, bool_result rfl rfl (hf.2 _).1, rfl, (hf.2 _).2⟩

end Go.Proofs.YtmcfjlkjijaflaaDoor
