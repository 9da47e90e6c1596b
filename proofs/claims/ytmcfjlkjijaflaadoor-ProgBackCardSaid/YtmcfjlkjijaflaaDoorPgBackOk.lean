/-
  ProgBack, given the program's contracts: of a program that may be; the whole. (Made by gen_back.py.)
-/
import Derived.Test.YtmcfjlkjijaflaaDoorPgBackLaw
namespace Go.Proofs.YtmcfjlkjijaflaaDoor
open Go.RowKit Go.Maps Go.Shelf
attribute [local go_sem] Oper.semAt_some

set_option maxRecDepth 100000 in
set_option maxHeartbeats 12800000 in
theorem progback_ok (S : PgSaid) (f : Bool) (ao : Option Addr) (b off cap : Nat) (L : List Opn) (w : World) (hO : OArg w ao b off L) (hs : ∀ x ∈ L, small x.1) (h20 : L.length ≤ 20) (hq : mayR (f, L) = true) (hg : S.Good w) :
    Calls Tryd.prog 3 #[prgV f ao L.length cap] w fun e w' => e = .returned (.bool true) ∧ Below w.heap.size w w' := by
  have HG := Lib.hid hg
  have HAW := Lib.hid (fun W hW => awake10 S W hW)
  have HO := Lib.hid hO
  have HS := Lib.hid hs
  have HQ := Lib.hid hq
  have hmix : Tryd.prog.follows .mixedOrders = true := by kernel_rfl
  have hpp : ∀ V pv, BkP w V pv → Calls Tryd.prog 9 #[prgV f ao L.length cap] V (PrintP (printR (f, L)) V) := fun V pv hV => S.print f ao b off cap L V (HO.out.below hV.bel) (by omega) HS.out (S.keep HG.out hV.bel)
  have hrp : ∀ V pv, BkP w V pv → Calls Tryd.prog 10 #[prgV f ao L.length cap] V (PrintP (printR (f, L)) V) := fun V pv hV => rprint_any f ao b off cap L V (HO.out.below hV.bel) (by omega) HS.out
  have hpw := fun V pv (hV : BkP w V pv) => S.words f ao b off cap L V (HO.out.below hV.bel) (by omega) HS.out (S.keep HG.out hV.bel)
  have hmy := fun V pv (hV : BkP w V pv) => S.may f ao b off cap L V (HO.out.below hV.bel) (by omega) HS.out (S.keep HG.out hV.bel)
  unfold PrintP at hpp hrp
  have hp0 := print_ok hq
  have hwl := words_len hq
  have hwc := words_clean (f, L)
  have hpw2 := parse_words hq
  have hww : ∀ V, OArg V ao b off L → Calls Tryd.prog 18 #[prgV f ao L.length cap] V (WordsP (wordsR (f, L)) V) := fun V hV => rwords_any f ao b off cap L V hV (by omega) HS.out
  obtain ⟨⟨pt, pe⟩, hpt⟩ : ∃ x, printR (f, L) = x := ⟨_, rfl⟩
  rw [hpt] at hp0 hpp hrp
  simp only at hp0
  subst hp0
  simp only at hpp hrp
  obtain ⟨sp, hsp⟩ : ∃ sp : ByteArray, ⟨pt.toArray⟩ = sp := ⟨_, rfl⟩
  simp only [hsp] at hpp hrp
  have hspp : (sp.toList != sp.toList) = false := by simp
  rw [hq] at hpw hmy
  simp only [if_pos] at hpw
  obtain ⟨ws, hws⟩ : ∃ ws, wordsR (f, L) = ws := ⟨_, rfl⟩
  simp only [hws] at hpw hwl hwc hpw2 hww
  simp only [prgV] at hww
  have HWC := Lib.hid hwc
  have HP2W := Lib.hid hpw2
  have HWW2 := Lib.hid hww
  clear hpt hsp hws hwc hpw2 hww
  obtain ⟨n, hn⟩ : ∃ n, L.length = n := ⟨_, rfl⟩
  simp only [hn, prgV] at hpp hrp hpw hmy
  have HN := Lib.hid hn
  rw [hn] at h20 ⊢
  have HPP := Lib.hid hpp
  have HRP := Lib.hid hrp
  have HPW := Lib.hid hpw
  have HMY := Lib.hid hmy
  have hn20 : ¬ (20 : Int) < n := by omega
  clear hg hO hs hq hpp hrp hpw hmy hn
  refine callsIn_wide.1 (?_ : CallsIn Fence.wide 20 _ _ _ _ _)
  refine callsIn_of_wp_marks Tryd.func3 rfl trivial ?_ rfl
  simp only [Tryd.ntmps3, List.size_toArray, List.length_cons, List.length_nil, Nat.reduceAdd, Nat.reduceSub, Array.replicate_succ, Array.replicate_zero, List.push_toArray, List.append_toArray, List.nil_append, List.cons_append]
  refine wpIn_wide.2 ?_
  have HP0 := Lib.hid (BkP.start w #[.bool f, .slice ao n cap])
  go_wp2_with fail
  with_reducible refine (HAW.out _ (S.keep HG.out HP0.out.bel)).mono ?_
  rintro e w1 ⟨rfl, hb⟩
  have HP1 := Lib.hid (HP0.out.below hb)
  obtain ⟨c0, c1⟩ := two_cells HP1.out.box
  clear hb
  go_wp2_with fail
  with_reducible refine (HPP.out _ _ HP1.out).mono ?_
  rintro e w2 ⟨rfl, hb⟩
  have HP2 := Lib.hid (HP1.out.below hb)
  clear c0 c1
  obtain ⟨c0, c1⟩ := two_cells HP2.out.box
  clear hb
  go_wp2_with fail
  with_reducible refine (HRP.out _ _ HP2.out).mono ?_
  rintro e w3 ⟨rfl, hb⟩
  have HP3 := Lib.hid (HP2.out.below hb)
  clear c0 c1
  obtain ⟨c0, c1⟩ := two_cells HP3.out.box
  clear hb
  go_wp2_with fail
  with_reducible refine (HPW.out _ _ HP3.out).mono ?_
  rintro e w4 ⟨v, rfl, hr4, hb⟩
  have HP4 := Lib.hid (HP3.out.below hb)
  have HR4 := Lib.hid (row_base hr4 HP3.out.bel.size)
  clear c0 c1
  obtain ⟨c0, c1⟩ := two_cells HP4.out.box
  clear hb hr4
  go_wp2_with fail
  with_reducible refine (HMY.out _ _ HP4.out).mono ?_
  rintro e w5 ⟨rfl, hb⟩
  have HP5 := Lib.hid (HP4.out.below hb)
  have HR5 := Lib.hid (row_below HR4.out hb)
  obtain ⟨av, vcap, hv, _, _⟩ := ownsRow_shape HR5.out
  subst hv
  have hl5 := lt_of_block HP5.out.box
  clear c0 c1
  obtain ⟨c0, c1⟩ := two_cells HP5.out.box
  have hi6 := HP5.out.count HR5.out
  obtain ⟨K, hK⟩ : ∃ K, w5.heap.size = K := ⟨_, rfl⟩
  obtain ⟨W8, hW8⟩ : ∃ W8, w5.alloc (.cells #[.int .i64 ((0 : Nat) : Int)] 3) = W8 := ⟨_, rfl⟩
  rw [hW8, hK] at hi6
  have HI8 := Lib.hid hi6
  have HKK := Lib.hid hK
  have HWW := Lib.hid hW8
  have HE := Lib.hid (each_any f ao b off cap L W8 (HO.out.below HI8.out.bel) (by have := HN.out; omega))
  rw [HN.out] at HE
  clear hb hi6 hK hW8
  go_wp2_with fail
  rw [show (0 : Int) = ((0 : Nat) : Int) from rfl, HWW.out, HKK.out]
  refine HE.out.mono ?_
  rintro e W9 ⟨B, rfl, hKO, hb9⟩
  obtain ⟨Yb, hY, hseq⟩ := each1_seq (n := 19) (by omega) hKO (by have := HN.out; omega)
  have HY := Lib.hid hY
  have HSEQ := Lib.hid hseq
  have HI9 := Lib.hid (HI8.out.below hb9)
  have HKN := Lib.hid (lt_of_block HI8.out.nb)
  have hz9 := hb9.size
  have hz8 := lt_of_block HI8.out.res
  have hzk := HI8.out.kne
  clear hY hseq hKO hb9 HE c0 c1
  go_wp2_with fail
  refine (wpIn_wide (n := 20)).1 ?_
  refine range_turns_boxed rfl (by omega) (gf := 43) (lb := #[.pointer (some ⟨B, 0, none⟩)]) rfl trivial (enters_of Tryd.func43 (by kernel_rfl) rfl)
    (X := []) (Y := Yb) (by simp) (fun k hk => (HY.out k hk).2) HSEQ.out (fun _ => rfl) (fun _ _ _ h _ => h) (fun _ _ _ h _ => h)
    (fun pre V => BkI w V #[.bool f, .slice ao n cap] K pre.length (.slice av ws.length vcap) ws ∧ W9.heap.size ≤ V.heap.size)
    (fun c pre V => False)
    (fun xs A B h mm => ⟨h.1.mild mm (by omega), Nat.le_trans h.2 mm.size⟩) (fun c xs A B h mm => h) ⟨HI9.out, Nat.le_refl _⟩ (fun xs V h => h.2)
    39 (fun x => #[.int .i64 x.1.1, .int .i64 x.1.2.1, .int .i64 x.1.2.2]) ?a1 ?assign ?body ?done ?stop
  case stop => exact fun D c xs V hD hsx h hK => h.elim
  case assign =>
    intro l x Bk V K' hBk hK
    gi_wp2
    exact hK
  case body =>
    rintro l pre ⟨⟨x1, x2, x3⟩, j⟩ Bk V hk hbk ⟨hI, hz⟩ hsp
    obtain ⟨hj, hlt, hLj⟩ := zip_at hsp
    simp only at hk hj hLj
    subst hj
    obtain ⟨j, hjl⟩ : ∃ j, pre.length = j := ⟨_, rfl⟩
    have HJL := Lib.hid hjl
    simp only [hjl] at hlt hLj hI ⊢
    obtain ⟨k0, k1, k2⟩ := op_cells hk
    have hOV := HO.out.below hI.bel
    obtain ⟨rfl, hbl⟩ := hOV.at_ (by omega)
    obtain ⟨y0, y1, y2⟩ := hOV.cells j hlt
    rw [hLj] at y0 y1 y2
    simp only at y0 y1 y2
    obtain ⟨c0, c1⟩ := two_cells hI.box
    have n0 := cell1 hI.nb
    have HI := Lib.hid hI
    have HBK := Lib.hid hk
    have HSM := Lib.hid (HS.out (x1, x2, x3) (by rw [← hLj]; exact List.getElem_mem _))
    have HPN := Lib.hid (fun V hV => S.name x1 V HSM.out (S.keep HG.out hV))
    have HRN := Lib.hid (fun V => rname_any x1 HSM.out.1 HSM.out.2 V)
    have hjn : j < n := by have := HN.out; omega
    have i0 : (0 : Int) ≤ j := by omega
    have i1 : (j : Int) < n := by omega
    have i2 : IntKind.i64.wrap ((j : Int) + 1) = ((j + 1 : Nat) : Int) := by rw [IntKind.wrap_i64]; omega
    obtain ⟨sx, hsx⟩ : ∃ sx : ByteArray, ⟨(nameR x1).toArray⟩ = sx := ⟨_, rfl⟩
    simp only [hsx] at HPN HRN
    have hxx : (sx.toList != sx.toList) = false := by simp
    have HZ := Lib.hid hz
    clear hk hsp hI hOV hLj hsx hjl hz
    have HTV : Hid (Below V.heap.size V V.drew) := Lib.hid (Below.refl _ V).drew
    have hbo : b < V.heap.size := hbl
    have hold : ∀ V', Below V.heap.size V V' → V'.cell? ⟨K, 0, none⟩ = some (.int .i64 (j : Nat)) ∧ V'.cell? ⟨Bk, 0, none⟩ = some (.int .i64 x1) ∧ V'.cell? ⟨Bk, 1, none⟩ = some (.int .i64 x2) ∧ V'.cell? ⟨Bk, 2, none⟩ = some (.int .i64 x3) ∧
        V'.cell? ⟨w.heap.size, 1, none⟩ = some (.slice (some ⟨b, off, none⟩) n cap) ∧ V'.cell? ⟨b, off + j * 3, none⟩ = some (.int .i64 x1) ∧ V'.cell? ⟨b, off + j * 3 + 1, none⟩ = some (.int .i64 x2) ∧ V'.cell? ⟨b, off + j * 3 + 2, none⟩ = some (.int .i64 x3) := fun V' hb =>
      have hB := lt_of_block HBK.out
      have hb1 := lt_of_block HI.out.nb
      have hb2 := lt_of_block HI.out.box
      ⟨(hb.cell (p := ⟨K, 0, none⟩) hb1).trans n0, (hb.cell (p := ⟨Bk, 0, none⟩) hB).trans k0, (hb.cell (p := ⟨Bk, 1, none⟩) hB).trans k1, (hb.cell (p := ⟨Bk, 2, none⟩) hB).trans k2, (hb.cell (p := ⟨w.heap.size, 1, none⟩) hb2).trans c1,
        (hb.cell (p := ⟨b, off + j * 3, none⟩) hbo).trans y0, (hb.cell (p := ⟨b, off + j * 3 + 1, none⟩) hbo).trans y1, (hb.cell (p := ⟨b, off + j * 3 + 2, none⟩) hbo).trans y2⟩
    gi_wp2_with fail
    refine wpRound_held (fun V' => V'.cell? ⟨K, 0, none⟩ = some (.int .i64 (j : Nat)) ∧ V'.cell? ⟨Bk, 0, none⟩ = some (.int .i64 x1) ∧ V'.cell? ⟨Bk, 1, none⟩ = some (.int .i64 x2) ∧ V'.cell? ⟨Bk, 2, none⟩ = some (.int .i64 x3) ∧
        V'.cell? ⟨w.heap.size, 1, none⟩ = some (.slice (some ⟨b, off, none⟩) n cap) ∧ V'.cell? ⟨b, off + j * 3, none⟩ = some (.int .i64 x1) ∧ V'.cell? ⟨b, off + j * 3 + 1, none⟩ = some (.int .i64 x2) ∧ V'.cell? ⟨b, off + j * 3 + 2, none⟩ = some (.int .i64 x3)) (by kernel_rfl) ?_ hmix (hold _ HTV.out) (fun hS0 => ?_)
    · rintro ⟨_, _, h⟩; exact h
    clear k0 k1 k2 y0 y1 y2 c0 c1 n0
    refine wpAnyH_take (i := 0) (v := ?_) rfl (by kernel_rfl) (by kernel_rfl) (by kernel_rfl) (fun _ _ _ h => h) (Or.inl ⟨by rfl, ?hy⟩) (by assumption) ?_
    case hy =>
      intro w hSw
      (try dsimp only at hSw)
      obtain ⟨s0, s1, s2, s3, s4, s5, s6, s7⟩ := hSw
      go_simp
      try with_reducible rfl
    (try simp only [List.getElem_toArray])
    (try simp only [List.getElem_cons_succ])
    (try simp only [List.getElem_cons_zero])
    (try simp only [Act.put])
    (try simp only [List.setIfInBounds_toArray])
    (try simp only [List.set_cons_succ])
    (try simp only [List.set_cons_zero])
    refine wpAnyH_take (i := 1) (v := ?_) rfl (by kernel_rfl) (by kernel_rfl) (by kernel_rfl) (fun _ _ _ h => h) (Or.inl ⟨by rfl, ?hy⟩) (by assumption) ?_
    case hy =>
      intro w hSw
      (try dsimp only at hSw)
      obtain ⟨s0, s1, s2, s3, s4, s5, s6, s7⟩ := hSw
      go_simp
      try with_reducible rfl
    (try simp only [List.getElem_toArray])
    (try simp only [List.getElem_cons_succ])
    (try simp only [List.getElem_cons_zero])
    (try simp only [Act.put])
    (try simp only [List.setIfInBounds_toArray])
    (try simp only [List.set_cons_succ])
    (try simp only [List.set_cons_zero])
    refine wpAnyH_take (i := 2) (v := ?_) rfl (by kernel_rfl) (by kernel_rfl) (by kernel_rfl) (fun _ _ _ h => h) (Or.inl ⟨by rfl, ?hy⟩) (by assumption) ?_
    case hy =>
      intro w hSw
      (try dsimp only at hSw)
      obtain ⟨s0, s1, s2, s3, s4, s5, s6, s7⟩ := hSw
      go_simp
      try with_reducible rfl
    (try simp only [List.getElem_toArray])
    (try simp only [List.getElem_cons_succ])
    (try simp only [List.getElem_cons_zero])
    (try simp only [Act.put])
    (try simp only [List.setIfInBounds_toArray])
    (try simp only [List.set_cons_succ])
    (try simp only [List.set_cons_zero])
    refine wpAnyH_take (i := 3) (v := ?_) rfl (by kernel_rfl) (by kernel_rfl) (by kernel_rfl) (fun _ _ _ h => h) (Or.inl ⟨by rfl, ?hy⟩) (by assumption) ?_
    case hy =>
      intro w hSw
      (try dsimp only at hSw)
      obtain ⟨s0, s1, s2, s3, s4, s5, s6, s7⟩ := hSw
      go_simp
      try with_reducible rfl
    (try simp only [List.getElem_toArray])
    (try simp only [List.getElem_cons_succ])
    (try simp only [List.getElem_cons_zero])
    (try simp only [Act.put])
    (try simp only [List.setIfInBounds_toArray])
    (try simp only [List.set_cons_succ])
    (try simp only [List.set_cons_zero])
    refine wpAnyH_take (i := 4) (v := ?_) rfl (by kernel_rfl) (by kernel_rfl) (by kernel_rfl) (fun _ _ _ h => h) (Or.inl ⟨by rfl, ?hy⟩) (by assumption) ?_
    case hy =>
      intro w hSw
      (try dsimp only at hSw)
      obtain ⟨s0, s1, s2, s3, s4, s5, s6, s7⟩ := hSw
      go_simp
      try with_reducible rfl
    (try simp only [List.getElem_toArray])
    (try simp only [List.getElem_cons_succ])
    (try simp only [List.getElem_cons_zero])
    (try simp only [Act.put])
    (try simp only [List.setIfInBounds_toArray])
    (try simp only [List.set_cons_succ])
    (try simp only [List.set_cons_zero])
    refine wpAnyH_take (i := 5) (v := ?_) rfl (by kernel_rfl) (by kernel_rfl) (by kernel_rfl) (fun _ _ _ h => h) (Or.inl ⟨by rfl, ?hy⟩) (by assumption) ?_
    case hy =>
      intro w hSw
      (try dsimp only at hSw)
      obtain ⟨s0, s1, s2, s3, s4, s5, s6, s7⟩ := hSw
      go_simp
      try with_reducible rfl
    (try simp only [List.getElem_toArray])
    (try simp only [List.getElem_cons_succ])
    (try simp only [List.getElem_cons_zero])
    (try simp only [Act.put])
    (try simp only [List.setIfInBounds_toArray])
    (try simp only [List.set_cons_succ])
    (try simp only [List.set_cons_zero])
    refine wpAnyH_take (i := 6) (v := ?_) rfl (by kernel_rfl) (by kernel_rfl) (by kernel_rfl) (fun _ _ _ h => h) (Or.inl ⟨by rfl, ?hy⟩) (by assumption) ?_
    case hy =>
      intro w hSw
      (try dsimp only at hSw)
      obtain ⟨s0, s1, s2, s3, s4, s5, s6, s7⟩ := hSw
      go_simp
      try with_reducible rfl
    (try simp only [List.getElem_toArray])
    (try simp only [List.getElem_cons_succ])
    (try simp only [List.getElem_cons_zero])
    (try simp only [Act.put])
    (try simp only [List.setIfInBounds_toArray])
    (try simp only [List.set_cons_succ])
    (try simp only [List.set_cons_zero])
    refine wpAnyH_take (i := 7) (v := ?_) rfl (by kernel_rfl) (by kernel_rfl) (by kernel_rfl) (fun _ _ _ h => h) (Or.inl ⟨by rfl, ?hy⟩) (by assumption) ?_
    case hy =>
      intro w hSw
      (try dsimp only at hSw)
      obtain ⟨s0, s1, s2, s3, s4, s5, s6, s7⟩ := hSw
      go_simp
      try with_reducible rfl
    (try simp only [List.getElem_toArray])
    (try simp only [List.getElem_cons_succ])
    (try simp only [List.getElem_cons_zero])
    (try simp only [Act.put])
    (try simp only [List.setIfInBounds_toArray])
    (try simp only [List.set_cons_succ])
    (try simp only [List.set_cons_zero])
    refine wpAnyH_take (i := 8) (v := ?_) rfl (by kernel_rfl) (by kernel_rfl) (by kernel_rfl) (fun _ _ _ h => h) (Or.inl ⟨by rfl, ?hy⟩) (by assumption) ?_
    case hy =>
      intro w hSw
      (try dsimp only at hSw)
      obtain ⟨s0, s1, s2, s3, s4, s5, s6, s7⟩ := hSw
      go_simp
      try with_reducible rfl
    (try simp only [List.getElem_toArray])
    (try simp only [List.getElem_cons_succ])
    (try simp only [List.getElem_cons_zero])
    (try simp only [Act.put])
    (try simp only [List.setIfInBounds_toArray])
    (try simp only [List.set_cons_succ])
    (try simp only [List.set_cons_zero])
    refine wpAnyH_take (i := 9) (v := ?_) rfl (by kernel_rfl) (by kernel_rfl) (by kernel_rfl) (fun _ _ _ h => h) (Or.inl ⟨by rfl, ?hy⟩) (by assumption) ?_
    case hy =>
      intro w hSw
      (try dsimp only at hSw)
      obtain ⟨s0, s1, s2, s3, s4, s5, s6, s7⟩ := hSw
      go_simp
      try with_reducible rfl
    (try simp only [List.getElem_toArray])
    (try simp only [List.getElem_cons_succ])
    (try simp only [List.getElem_cons_zero])
    (try simp only [Act.put])
    (try simp only [List.setIfInBounds_toArray])
    (try simp only [List.set_cons_succ])
    (try simp only [List.set_cons_zero])
    refine wpAnyH_take (i := 10) (v := ?_) rfl (by kernel_rfl) (by kernel_rfl) (by kernel_rfl) (fun _ _ _ h => h) (Or.inl ⟨by rfl, ?hy⟩) (by assumption) ?_
    case hy =>
      intro w hSw
      (try dsimp only at hSw)
      obtain ⟨s0, s1, s2, s3, s4, s5, s6, s7⟩ := hSw
      go_simp
      try with_reducible rfl
    (try simp only [List.getElem_toArray])
    (try simp only [List.getElem_cons_succ])
    (try simp only [List.getElem_cons_zero])
    (try simp only [Act.put])
    (try simp only [List.setIfInBounds_toArray])
    (try simp only [List.set_cons_succ])
    (try simp only [List.set_cons_zero])
    refine wpAnyH_take (i := 11) (v := ?_) rfl (by kernel_rfl) (by kernel_rfl) (by kernel_rfl) (fun _ _ _ h => h) (Or.inl ⟨by rfl, ?hy⟩) (by assumption) ?_
    case hy =>
      intro w hSw
      (try dsimp only at hSw)
      obtain ⟨s0, s1, s2, s3, s4, s5, s6, s7⟩ := hSw
      go_simp
      try with_reducible rfl
    (try simp only [List.getElem_toArray])
    (try simp only [List.getElem_cons_succ])
    (try simp only [List.getElem_cons_zero])
    (try simp only [Act.put])
    (try simp only [List.setIfInBounds_toArray])
    (try simp only [List.set_cons_succ])
    (try simp only [List.set_cons_zero])
    refine wpAnyH_take (i := 12) (v := ?_) rfl (by kernel_rfl) (by kernel_rfl) (by kernel_rfl) (fun _ _ _ h => h) (Or.inl ⟨by rfl, ?hy⟩) (by assumption) ?_
    case hy =>
      intro w hSw
      (try dsimp only at hSw)
      obtain ⟨s0, s1, s2, s3, s4, s5, s6, s7⟩ := hSw
      go_simp
      try with_reducible rfl
    (try simp only [List.getElem_toArray])
    (try simp only [List.getElem_cons_succ])
    (try simp only [List.getElem_cons_zero])
    (try simp only [Act.put])
    (try simp only [List.setIfInBounds_toArray])
    (try simp only [List.set_cons_succ])
    (try simp only [List.set_cons_zero])
    refine wpAnyH_take (i := 13) (v := ?_) rfl (by kernel_rfl) (by kernel_rfl) (by kernel_rfl) (fun _ _ _ h => h) (Or.inl ⟨by rfl, ?hy⟩) (by assumption) ?_
    case hy =>
      intro w hSw
      (try dsimp only at hSw)
      obtain ⟨s0, s1, s2, s3, s4, s5, s6, s7⟩ := hSw
      go_simp
      try with_reducible rfl
    (try simp only [List.getElem_toArray])
    (try simp only [List.getElem_cons_succ])
    (try simp only [List.getElem_cons_zero])
    (try simp only [Act.put])
    (try simp only [List.setIfInBounds_toArray])
    (try simp only [List.set_cons_succ])
    (try simp only [List.set_cons_zero])
    refine wpAnyH_take (i := 14) (v := ?_) rfl (by kernel_rfl) (by kernel_rfl) (by kernel_rfl) (fun _ _ _ h => h) (Or.inl ⟨by rfl, ?hy⟩) (by assumption) ?_
    case hy =>
      intro w hSw
      (try dsimp only at hSw)
      obtain ⟨s0, s1, s2, s3, s4, s5, s6, s7⟩ := hSw
      go_simp
      try with_reducible rfl
    (try simp only [List.getElem_toArray])
    (try simp only [List.getElem_cons_succ])
    (try simp only [List.getElem_cons_zero])
    (try simp only [Act.put])
    (try simp only [List.setIfInBounds_toArray])
    (try simp only [List.set_cons_succ])
    (try simp only [List.set_cons_zero])
    refine wpAnyH_take (i := 16) (v := ?_) rfl (by kernel_rfl) (by kernel_rfl) (by kernel_rfl) (fun _ _ _ h => h) (Or.inl ⟨by rfl, ?hy⟩) (by assumption) ?_
    case hy =>
      intro w hSw
      (try dsimp only at hSw)
      obtain ⟨s0, s1, s2, s3, s4, s5, s6, s7⟩ := hSw
      go_simp
      try with_reducible rfl
    (try simp only [List.getElem_toArray])
    (try simp only [List.getElem_cons_succ])
    (try simp only [List.getElem_cons_zero])
    (try simp only [Act.put])
    (try simp only [List.setIfInBounds_toArray])
    (try simp only [List.set_cons_succ])
    (try simp only [List.set_cons_zero])
    refine wpAnyH_take (i := 17) (v := ?_) rfl (by kernel_rfl) (by kernel_rfl) (by kernel_rfl) (fun _ _ _ h => h) (Or.inl ⟨by rfl, ?hy⟩) (by assumption) ?_
    case hy =>
      intro w hSw
      (try dsimp only at hSw)
      obtain ⟨s0, s1, s2, s3, s4, s5, s6, s7⟩ := hSw
      go_simp
      try with_reducible rfl
    (try simp only [List.getElem_toArray])
    (try simp only [List.getElem_cons_succ])
    (try simp only [List.getElem_cons_zero])
    (try simp only [Act.put])
    (try simp only [List.setIfInBounds_toArray])
    (try simp only [List.set_cons_succ])
    (try simp only [List.set_cons_zero])
    refine wpAnyH_ready (rs := [15]) (by kernel_rfl) (by simp) ?_
    refine AllReadyH.cons rfl (fun K' hK => ?_) AllReadyH.nil
    go_simp
    with_reducible refine (HPN.out _ (HI.out.bel.trans (HTV.out.mono HI.out.bel.size))).mono ?_
    rintro e u1 ⟨rfl, hbu⟩
    have HTu1 := Lib.hid (HTV.out.trans (hbu.mono HTV.out.size))
    obtain ⟨s0, s1, s2, s3, s4, s5, s6, s7⟩ := hold _ HTu1.out
    go_wp2_with fail
    refine hK.out _ _ ?_ (fun hHeld => ?_)
    · exact ⟨s0, s1, s2, s3, s4, s5, s6, s7⟩
    clear hK K' s0 s1 s2 s3 s4 s5 s6 s7 hbu
    (try simp only [List.getElem_toArray])
    (try simp only [List.getElem_cons_succ])
    (try simp only [List.getElem_cons_zero])
    (try simp only [Act.put])
    (try simp only [List.setIfInBounds_toArray])
    (try simp only [List.set_cons_succ])
    (try simp only [List.set_cons_zero])
    refine wpAnyH_ready (rs := [18]) (by kernel_rfl) (by simp) ?_
    refine AllReadyH.cons rfl (fun K' hK => ?_) AllReadyH.nil
    go_simp
    with_reducible refine (HRN.out _).mono ?_
    rintro e u2 ⟨rfl, hbu⟩
    have HTu2 := Lib.hid (HTu1.out.trans (hbu.mono HTu1.out.size))
    obtain ⟨s0, s1, s2, s3, s4, s5, s6, s7⟩ := hold _ HTu2.out
    go_wp2_with fail
    refine hK.out _ _ ?_ (fun hHeld => ?_)
    · exact ⟨s0, s1, s2, s3, s4, s5, s6, s7⟩
    clear hK K' s0 s1 s2 s3 s4 s5 s6 s7 hbu
    (try simp only [List.getElem_toArray])
    (try simp only [List.getElem_cons_succ])
    (try simp only [List.getElem_cons_zero])
    (try simp only [Act.put])
    (try simp only [List.setIfInBounds_toArray])
    (try simp only [List.set_cons_succ])
    (try simp only [List.set_cons_zero])
    refine wpAnyH_take (i := 19) (v := ?_) rfl (by kernel_rfl) (by kernel_rfl) (by kernel_rfl) (fun _ _ _ h => h) (Or.inl ⟨by rfl, ?hy⟩) (by assumption) ?_
    case hy =>
      intro w hSw
      (try dsimp only at hSw)
      obtain ⟨s0, s1, s2, s3, s4, s5, s6, s7⟩ := hSw
      go_simp
      try with_reducible rfl
    (try simp only [List.getElem_toArray])
    (try simp only [List.getElem_cons_succ])
    (try simp only [List.getElem_cons_zero])
    (try simp only [Act.put])
    (try simp only [List.setIfInBounds_toArray])
    (try simp only [List.set_cons_succ])
    (try simp only [List.set_cons_zero])
    refine wpAnyH_take (i := 20) (v := ?_) rfl (by kernel_rfl) (by kernel_rfl) (by kernel_rfl) (fun _ _ _ h => h) (Or.inl ⟨by rfl, ?hy⟩) (by assumption) ?_
    case hy =>
      intro w hSw
      (try dsimp only at hSw)
      obtain ⟨s0, s1, s2, s3, s4, s5, s6, s7⟩ := hSw
      go_simp
      try with_reducible rfl
    (try simp only [List.getElem_toArray])
    (try simp only [List.getElem_cons_succ])
    (try simp only [List.getElem_cons_zero])
    (try simp only [Act.put])
    (try simp only [List.setIfInBounds_toArray])
    (try simp only [List.set_cons_succ])
    (try simp only [List.set_cons_zero])
    refine wpAnyH_done (by kernel_rfl) ?_ _
    (try simp only [List.getElem_toArray])
    (try simp only [List.getElem_cons_succ])
    (try simp only [List.getElem_cons_zero])
    (try simp only [Act.put])
    (try simp only [List.setIfInBounds_toArray])
    (try simp only [List.set_cons_succ])
    (try simp only [List.set_cons_zero])
    have HI2 := Lib.hid (HI.out.below HTu2.out)
    have n2 := cell1 HI2.out.nb
    have f2 := not_frozen HI2.out.nb 0
    gi_wp2
    refine ⟨(keeps_below HTu2.out).trans ((KeepsOthers.setCell _ _ _).from _), fun q hq => ?_, ?_, ?_⟩
    · have h1 := HY.out q hq
      have h2 := HKN.out
      have h3 := HZ.out
      exact (Below.heap_setCell _ _ _ _ (by show q ≠ K; omega)).trans (HTu2.out.block _ (by omega))
    · have h4 := HI2.out.count
      rw [List.length_append, List.length_singleton, HJL.out]
      exact h4
    · have h3 := HZ.out
      have h4 := HTu2.out.size
      simp [World.setCell]
      omega

  case done =>
    rintro D xs V hD rfl ⟨hI, hz⟩ hKD
    rw [List.length_zipIdx, HN.out] at hI
    obtain ⟨c0, c1⟩ := two_cells hI.box
    have n0 := cell1 hI.nb
    have r0 := cell1 hI.res
    have f0 := not_frozen hI.res 0
    have HI := Lib.hid hI
    have HKD := Lib.hid hKD
    have HZ := Lib.hid hz
    clear hI hKD hz
    have hww3 := HWW2.out
    simp only [HN.out] at hww3
    have HWW3 := Lib.hid hww3
    clear hww3
    obtain ⟨ao5, b5, cap5, hv5, hwa⟩ := WArg.of_row HI.out.row
    simp only [Value.slice.injEq] at hv5
    obtain ⟨rfl, -, rfl⟩ := hv5
    have hpa := S.parse av b5 0 vcap ws 0 V hwa (by omega) (by unfold small; decide) HWC.out (S.keep HG.out HI.out.bel)
    rw [HP2W.out] at hpa
    unfold ParseP at hpa
    simp only at hpa
    have HPA := Lib.hid hpa
    have HWA := Lib.hid hwa
    have hlk := lt_of_block HI.out.nb
    have hld := lt_of_block HKD.out
    clear hpa hwa
    go_wp2_with fail
    with_reducible refine HPA.out.mono ?_
    rintro e u1 ⟨v3, rfl, hr3, hb3⟩
    obtain ⟨ao3, b3, cap3, rfl, ho3⟩ := OArg.of_row hr3
    rw [HN.out]
    obtain ⟨X3, hX3⟩ : ∃ X3, u1.alloc (.cells #[.bool f, .slice ao3 n cap3] 24) = X3 := ⟨_, rfl⟩
    have hbx : Below u1.heap.size u1 X3 := by rw [← hX3]; exact (Below.refl _ u1).alloc (Nat.le_refl _) _
    have hq3 : X3.heap[u1.heap.size]? = some (.cells #[.bool f, .slice ao3 n cap3] 24 (0, 0)) := by rw [← hX3]; exact heap_alloc_new u1 _
    obtain ⟨Q, hQ⟩ : ∃ Q, u1.heap.size = Q := ⟨_, rfl⟩
    rw [hQ] at hq3
    have HQ3 := Lib.hid hq3
    have HX3 := Lib.hid hX3
    have HQQ := Lib.hid hQ
    have hb33 := hb3.trans (hbx.mono hb3.size)
    have HI3 := Lib.hid (HI.out.below hb33)
    have HD3 := Lib.hid ((hb33.block _ (lt_of_block HKD.out)).trans HKD.out)
    have HO3 := Lib.hid (ho3.below hbx)
    have HWA3 := Lib.hid (HWA.out.below hb33)
    have i3 := HI.out.below hb3
    have hl1 := lt_of_block i3.nb
    have hl2 := lt_of_block i3.box
    clear c0 c1 n0 r0 f0
    obtain ⟨c0, c1⟩ := two_cells i3.box
    have n0 := cell1 i3.nb
    have hnn : ((n : Int) == n) = true := by simp
    clear hr3 hb3 hbx hq3 hX3 hQ ho3 hb33 i3 HPA HWA
    go_wp2_with fail
    rw [HX3.out, HQQ.out]
    with_reducible refine (HWW3.out _ (HO.out.below HI3.out.bel)).mono ?_
    rintro e u4 ⟨v4, rfl, hr4, hb4⟩
    obtain ⟨ao4, b4, cap4, rfl, hwa4⟩ := WArg.of_row hr4
    have HI4 := Lib.hid (HI3.out.below hb4)
    have HD4 := Lib.hid ((hb4.block _ (lt_of_block HD3.out)).trans HD3.out)
    have HO4 := Lib.hid (HO3.out.below hb4)
    have HQ4 := Lib.hid ((hb4.block _ (lt_of_block HQ3.out)).trans HQ3.out)
    have HSM := Lib.hid (same_any av ao4 b5 0 b4 0 vcap cap4 ws ws true u4 (HWA3.out.below hb4) hwa4 rfl (by omega) (fun i h1 h2 => ⟨⟨rfl, rfl, rfl⟩, fun _ => rfl⟩))
    clear hr4 hb4 hwa4 c0 c1 n0
    go_wp2_with fail
    with_reducible refine HSM.out.mono ?_
    rintro e u5 ⟨rfl, n5, rfl⟩
    have hb5 : Below u4.heap.size u4 (u4.drewN n5) := ⟨rfl, rfl, rfl, Nat.le_refl _, fun _ _ => rfl⟩
    have HI5 := Lib.hid (HI4.out.below hb5)
    have HD5 := Lib.hid ((hb5.block _ (lt_of_block HD4.out)).trans HD4.out)
    have HO5 := Lib.hid (HO4.out.below hb5)
    have HQ5 := Lib.hid ((hb5.block _ (lt_of_block HQ4.out)).trans HQ4.out)
    obtain ⟨c0, c1⟩ := two_cells HI5.out.box
    obtain ⟨q0, q1⟩ := two_cells HQ5.out
    have hww5 : ((ws.length : Int) == ws.length) = true := by simp
    have hrs := rsame_any f f ao ao3 b off b3 0 cap cap3 L L (u4.drewN n5) (HO.out.below HI5.out.bel) HO5.out (by have := HN.out; omega) (by have := HN.out; omega)
    rw [eq_self, HN.out] at hrs
    unfold prgV at hrs
    have HRS := Lib.hid hrs
    clear hb5 hrs
    go_wp2_with fail
    with_reducible refine HRS.out.mono ?_
    rintro e u6 ⟨rfl, hb6⟩
    have HI6 := Lib.hid (HI5.out.below hb6)
    have HD6 := Lib.hid ((hb6.block _ (lt_of_block HD5.out)).trans HD5.out)
    have HO6 := Lib.hid (HO5.out.below hb6)
    have HQ6 := Lib.hid ((hb6.block _ (lt_of_block HQ5.out)).trans HQ5.out)
    clear c0 c1 q0 q1
    obtain ⟨c0, c1⟩ := two_cells HI6.out.box
    obtain ⟨q0, q1⟩ := two_cells HQ6.out
    have hps := S.same f f ao ao3 b off b3 0 cap cap3 L L u6 (HO.out.below HI6.out.bel) HO6.out (by have := HN.out; omega) (by have := HN.out; omega) (S.keep HG.out HI6.out.bel)
    rw [eq_self, HN.out] at hps
    unfold prgV at hps
    have HPS := Lib.hid hps
    clear hb6 hps
    go_wp2_with fail
    with_reducible refine HPS.out.mono ?_
    rintro e u7 ⟨rfl, hb7⟩
    have HI7 := Lib.hid (HI6.out.below hb7)
    have HD7 := Lib.hid ((hb7.block _ (lt_of_block HD6.out)).trans HD6.out)
    have r0 := cell1 HI7.out.res
    have f0 := not_frozen HI7.out.res 0
    clear hb7 c0 c1 q0 q1
    go_wp2
    have hf := HI7.out.fin (D := D) (by omega) HD7.out true
    refine ⟨by simp, .inl ⟨_, _, rfl, run_takeDeferred hf.1, ?_⟩⟩
    exact ⟨_, bool_result rfl rfl (hf.2 _).1, rfl, (hf.2 _).2⟩

set_option maxRecDepth 100000 in
set_option maxHeartbeats 1600000 in
theorem progback_long (S : PgSaid) (f : Bool) (ao : Option Addr) (cap : Nat) (L : List Opn) (w : World) (h20 : ¬ L.length ≤ 20) (hg : S.Good w) :
    Calls Tryd.prog 3 #[prgV f ao L.length cap] w fun e w' => e = .returned (.bool true) ∧ Below w.heap.size w w' := by
  have HG := Lib.hid hg
  have HAW := Lib.hid (fun W hW => awake10 S W hW)
  obtain ⟨n, hn⟩ : ∃ n, L.length = n := ⟨_, rfl⟩
  rw [hn] at h20 ⊢
  have hn20 : (20 : Int) < n := by omega
  have HP0 := Lib.hid (BkP.start w #[.bool f, .slice ao n cap])
  clear hg hn
  go_enter Tryd.func3, Tryd.ntmps3
  go_wp2_with fail
  with_reducible refine (HAW.out _ (S.keep HG.out HP0.out.bel)).mono ?_
  rintro e w1 ⟨rfl, hb⟩
  have HP1 := Lib.hid (HP0.out.below hb)
  obtain ⟨c0, c1⟩ := two_cells HP1.out.box
  have r0 := cell1 HP1.out.res
  have f0 := not_frozen HP1.out.res 0
  clear hb
  go_wp2
  have hs : (w1.setCell ⟨w.heap.size + 1, 0, none⟩ (.bool true)).heap[w.heap.size + 1]? = some (.cells #[.bool true] 4 (0, 0)) := by
    rw [heap_setCell_same _ _ _ _ _ _ HP1.out.res]
    rfl
  refine bodyPost_ret (bool_result rfl rfl hs) rfl ?_
  exact ⟨rfl, HP1.out.bel.setCell (by show w.heap.size ≤ w.heap.size + 1; omega) _⟩
/-- ProgBack's walk. -/
theorem progback_walk (S : PgSaid) (f : Bool) (ao : Option Addr) (b off cap : Nat) (L : List Opn) (w : World) (hO : OArg w ao b off L) (hs : ∀ x ∈ L, small x.1) (hg : S.Good w) :
    Calls Tryd.prog 3 #[prgV f ao L.length cap] w fun e w' => e = .returned (.bool true) ∧ Below w.heap.size w w' := by
  by_cases h20 : L.length ≤ 20
  · cases hq : mayR (f, L) with
    | true => exact progback_ok S f ao b off cap L w hO hs h20 hq hg
    | false => exact progback_no S f ao b off cap L w hO hs h20 hq hg
  · exact progback_long S f ao cap L w h20 hg
end Go.Proofs.YtmcfjlkjijaflaaDoor
