/-
  ActsAny's walk. (Made by gen_acany.py.)
-/
import Derived.Test.YtmcfjlkjijaflaaDoorAcSaid
import Derived.Test.YtmcfjlkjijaflaaDoorRaPrs
import Derived.Test.YtmcfjlkjijaflaaDoorAcBack
import Derived.Test.YtmcfjlkjijaflaaDoorGXA
namespace Go.Proofs.YtmcfjlkjijaflaaDoor
open Go.RowKit Go.Maps Go.Shelf
attribute [local go_sem] Oper.semAt_some

theorem parse_none13 {L : List Wd} {a : Int} (h : ¬ (parseAc L a).2.2 = 0) : (parseAc L a).1 = [] := by
  unfold parseAc at h ⊢
  split
  · rfl
  · next h0 =>
    rw [if_neg h0] at h
    cases hp : acsP L (L.length + 1) a.toNat [] with
    | error e => rfl
    | ok x =>
      rw [hp] at h
      exact absurd rfl h
theorem parse_len13 {L : List Wd} (hL : ∀ x ∈ L, x.1 = 2 → in9 x.2.2.1 = true) (a : Int) : (parseAc L a).1.length ≤ 4000 := by
  by_cases h : (parseAc L a).2.2 = 0
  · exact (acts_may hL h).2
  · rw [parse_none13 h]
    exact Nat.zero_le _
/-- The answer's box. -/
structure AyP (w V : World) : Prop where
  res : V.heap[w.heap.size]? = some (.cells #[.bool false] 4 (0, 0))
  bel : Below w.heap.size w V
theorem AyP.below {w V V' : World} (h : AyP w V) (hb : Below V.heap.size V V') : AyP w V' := ⟨(hb.block _ (lt_of_block h.res)).trans h.res, h.bel.trans (hb.mono h.bel.size)⟩
/-- The boxes of the answer, of the acts, of the count; the acts. -/
structure AyI (w V : World) (LB K i : Nat) (v : Value) (L : List Ac) : Prop where
  res : V.heap[w.heap.size]? = some (.cells #[.bool false] 4 (0, 0))
  lb : V.heap[LB]? = some (.cells #[v] 52 (0, 0))
  nb : V.heap[K]? = some (.cells #[.int .i64 (i : Nat)] 3 (0, 0))
  row : ARow w.heap.size V v L
  t : Turned [] w V
  lne : w.heap.size < LB
  kne : LB < K
theorem AyI.below {w V V' : World} {LB K i : Nat} {v : Value} {L : List Ac} (h : AyI w V LB K i v L) (hb : Below V.heap.size V V') : AyI w V' LB K i v L :=
  ⟨(hb.block _ (lt_of_block h.res)).trans h.res, (hb.block _ (lt_of_block h.lb)).trans h.lb, (hb.block _ (lt_of_block h.nb)).trans h.nb, row_below h.row hb, h.t.trans (turned_below0 hb) (Newer.refl _ _), h.lne, h.kne⟩
theorem AyI.mild {w A B : World} {LB K i N : Nat} {v : Value} {L : List Ac} (h : AyI w A LB K i v L) (m : Mild [] N A B) (hN : w.heap.size ≤ N) : AyI w B LB K i v L := by
  refine ⟨m.cells h.res (by simp), m.cells h.lb (by simp), m.cells h.nb (by simp), ownsRow_same h.row (fun k hk _ => ?_), h.t.mild m hN (by simp), h.lne, h.kne⟩
  obtain ⟨cur, hc⟩ := ownsRow_type h.row k hk
  rw [m.cells hc (by simp), hc]
theorem AyI.bel {w V : World} {LB K i : Nat} {v : Value} {L : List Ac} (h : AyI w V LB K i v L) : Below w.heap.size w V := h.t.below (by simp) (Nat.le_refl _)
theorem AyI.count {w V : World} {LB K i : Nat} {v : Value} {L : List Ac} (h : AyI w V LB K i v L) : AyI w (V.setCell ⟨K, 0, none⟩ (.int .i64 ((i + 1 : Nat) : Int))) LB K (i + 1) v L := by
  have hk := h.kne
  have hl := h.lne
  have hoff := block_off h.nb h.row (by decide)
  refine ⟨(Below.heap_setCell _ _ _ _ (by show w.heap.size ≠ K; omega)).trans h.res, (Below.heap_setCell _ _ _ _ (by show LB ≠ K; omega)).trans h.lb, ?_, ownsRow_same h.row (fun k hk2 _ => Below.heap_setCell _ _ _ _ ?_), h.t.setCell (.inr (by show w.heap.size ≤ K; omega)) _, hl, hk⟩
  · rw [heap_setCell_same _ _ _ _ _ _ h.nb]
    rfl
  · show k ≠ K
    rintro rfl
    exact hoff (by simpa using hk2 : v.ownBlock = some k).symm
theorem AyI.fin {w V : World} {LB K i D : Nat} {v : Value} {L : List Ac} (h : AyI w V LB K i v L) (hN : w.heap.size + 1 ≤ D) (hK : V.heap[D]? = some (.deferred (some []))) (q : Bool) :
    (V.setCell ⟨w.heap.size, 0, none⟩ (.bool q)).heap[D]? = some (.deferred (some [])) ∧
    (∀ o, ((V.setCell ⟨w.heap.size, 0, none⟩ (.bool q)).putObj D o).heap[w.heap.size]? = some (.cells #[.bool q] 4 (0, 0)) ∧
    Below w.heap.size w ((V.setCell ⟨w.heap.size, 0, none⟩ (.bool q)).putObj D o)) :=
  (show AMayB w V 0 from ⟨h.res, h.t, Nat.zero_le _⟩).fin hN hK q
theorem azip_at {L : List Ac} {pre : List (Ac × Nat)} {x : Ac × Nat} (h : (pre ++ [x]) <+: L.zipIdx) : x.2 = pre.length ∧ ∃ hl : pre.length < L.length, L[pre.length] = x.1 := by
  obtain ⟨t, ht⟩ := h
  have h1 : L.zipIdx[pre.length]? = some x := by
    rw [← ht, List.append_assoc, List.getElem?_append_right (Nat.le_refl _)]
    simp
  rw [List.getElem?_zipIdx] at h1
  simp only [Option.map_eq_some_iff] at h1
  obtain ⟨a, ha, hx⟩ := h1
  obtain ⟨hl, hv⟩ := List.getElem?_eq_some_iff.1 ha
  subst hx
  exact ⟨by simp, hl, hv⟩
set_option maxRecDepth 100000 in
set_option maxHeartbeats 12800000 in
theorem actsany_in (s : ByteArray) (at_ kind : Int) (w : World) (hT : TabOk w) (hlen : s.size ≤ 200) :
    Calls Tryd.prog 7 #[.string s, .int .i64 at_, .int .i64 kind] w fun e w' => e = .returned (.bool true) ∧ Below w.heap.size w w' := by
  have hl2 : ¬ (200 : Int) < s.size := by omega
  have hmix : Tryd.prog.follows .mixedOrders = true := by kernel_rfl
  have HT := Lib.hid hT
  have HAW := Lib.hid (fun V (hV : AyP w V) => awake13 V (hT.below hV.bel))
  have HSC := Lib.hid (fun W => rscan_any s W)
  have HSL := Lib.hid (scan_len s.data.toList (by rw [← Lib.size_eq]; omega))
  have HSK := Lib.hid (scana_clean s.data.toList)
  have HS9 := Lib.hid (scana_in9 s.data.toList)
  have hpn := fun W => anm_any kind W
  have hrn := fun W => raname_any kind W
  obtain ⟨sn, hsn⟩ : ∃ sn : ByteArray, ⟨(acName kind).toArray⟩ = sn := ⟨_, rfl⟩
  simp only [hsn] at hpn hrn
  have HPN := Lib.hid hpn
  have HRN := Lib.hid hrn
  have hnn : (sn.toList != sn.toList) = false := by simp
  have HP0 : Hid (AyP w (w.alloc (.cells #[.bool false] 4))) := Lib.hid ⟨heap_alloc_new w _, (Below.refl _ w).alloc (Nat.le_refl _) _⟩
  clear hT hpn hrn hsn
  refine callsIn_wide.1 (?_ : CallsIn Fence.wide 20 _ _ _ _ _)
  refine callsIn_of_wp_marks Tryd.func7 rfl trivial ?_ rfl
  simp only [Tryd.ntmps7, List.size_toArray, List.length_cons, List.length_nil, Nat.reduceAdd, Nat.reduceSub, Array.replicate_succ, Array.replicate_zero, List.push_toArray, List.append_toArray, List.nil_append, List.cons_append]
  refine wpIn_wide.2 ?_
  go_wp2_with fail
  with_reducible refine (HAW.out _ HP0.out).mono ?_
  rintro e w1 ⟨rfl, hb⟩
  have HP1 := Lib.hid (HP0.out.below hb)
  clear hb
  go_wp2_with fail
  with_reducible refine (HSC.out _).mono ?_
  rintro e w2 ⟨v, rfl, hr, hb⟩
  obtain ⟨T, hTT⟩ : ∃ T, scanA s.data.toList = T := ⟨_, rfl⟩
  have hsl := HSL.out
  have hsk := HSK.out
  have hs9 := HS9.out
  rw [hTT] at hr hsl hsk hs9 ⊢
  obtain ⟨ws, sp, se⟩ := T
  simp only at hr hsl hsk hs9 ⊢
  obtain ⟨ao, b, cap, rfl, hwa⟩ := WArg.of_row hr
  have HWA := Lib.hid hwa
  have HP2 := Lib.hid (HP1.out.below hb)
  have hp := aparse_any ao b 0 cap ws at_ w2 hwa (by omega) hsk hs9
  have hrp := fun W (hW : WArg W ao b 0 ws) => raparse_any ao b 0 cap ws at_ W hW (by omega)
  have hpl := parse_len13 hs9 at_
  have hmy := fun h => acts_may (L := ws) (a := at_) hs9 h
  obtain ⟨⟨L, rn, re⟩, hR⟩ : ∃ R, parseAc ws at_ = R := ⟨_, rfl⟩
  rw [hR] at hp hpl hmy
  simp only [hR] at hrp
  unfold ParseAP at hp hrp
  simp only at hp hpl hmy hrp
  obtain ⟨nw, hnw⟩ : ∃ n, ws.length = n := ⟨_, rfl⟩
  rw [hnw] at hp ⊢
  simp only [hnw] at hrp
  have HP := Lib.hid hp
  have HRP := Lib.hid hrp
  have HMY := Lib.hid hmy
  have hrr : (rn != rn) = false := by simp
  have hee : (re != re) = false := by simp
  clear hr hb hwa hp hrp hR hTT hsl hsk hs9 hnw hmy HSC HSL HSK HS9 HAW
  go_wp2_with fail
  with_reducible refine HP.out.mono ?_
  rintro e w3 ⟨v3, rfl, hr3, hb⟩
  have HP3 := Lib.hid (HP2.out.below hb)
  have HWA3 := Lib.hid (HWA.out.below hb)
  obtain ⟨a3, cap3, hv3, _⟩ := ownsRow_shape hr3
  subst hv3
  obtain ⟨n, hn⟩ : ∃ n, L.length = n := ⟨_, rfl⟩
  have HR3 : Hid (ARow w.heap.size w3 (.slice a3 n cap3) L) := Lib.hid (by rw [← hn]; exact row_base hr3 HP2.out.bel.size)
  rw [hn] at hpl ⊢
  have HN := Lib.hid hn
  have hbx : Below w3.heap.size w3 (w3.alloc (.cells #[.slice a3 n cap3] 52)) := (Below.refl _ w3).alloc (Nat.le_refl _) _
  have hlb := heap_alloc_new w3 (.cells #[.slice a3 n cap3] 52)
  have HP4' := Lib.hid (HP3.out.below hbx)
  have HWA4' := Lib.hid (HWA3.out.below hbx)
  have HR4' := Lib.hid (row_below HR3.out hbx)
  have HLB' := Lib.hid hlb
  have HLL : Hid (w.heap.size < w3.heap.size) := Lib.hid (lt_of_block HP3.out.res)
  have HX : Hid (∃ W4, w3.alloc (.cells #[.slice a3 n cap3] 52) = W4) := ⟨_, rfl⟩
  have HXB : Hid (∃ LB, w3.heap.size = LB) := ⟨_, rfl⟩
  clear hr3 hb hn hbx hlb HP
  go_wp2_with fail
  obtain ⟨W4, hW4⟩ := HX.out
  obtain ⟨LB, hLB⟩ := HXB.out
  rw [hW4] at HP4' HWA4' HR4' HLB' ⊢
  rw [hLB] at HLB' HLL ⊢
  have HP4 := HP4'
  have HR4 := HR4'
  have HLB := HLB'
  clear hW4 hLB HX HXB
  with_reducible refine (HRP.out _ HWA4'.out).mono ?_
  rintro e w5 ⟨v5, rfl, hr5, hb⟩
  obtain ⟨a5, b5, cap5, rfl, ha5⟩ := AArg.of_row hr5
  have HP5 := Lib.hid (HP4.out.below hb)
  have HR5 := Lib.hid (row_below HR4.out hb)
  have HLB5 := Lib.hid ((hb.block _ (lt_of_block HLB.out)).trans HLB.out)
  obtain ⟨a3', b3', cap3', hv3', ha3⟩ := AArg.of_row HR5.out
  simp only [Value.slice.injEq] at hv3'
  obtain ⟨rfl, -, rfl⟩ := hv3'
  have hsm := rasame_any a3 a5 b3' 0 b5 0 cap3 cap5 L w5 ha3 ha5 (by have := HN.out; omega)
  rw [HN.out] at hsm ⊢
  have HSM := Lib.hid hsm
  have l0 := cell1 HLB5.out
  clear hr5 hb ha5 ha3 hsm HRP
  go_wp2_with fail
  with_reducible refine HSM.out.mono ?_
  rintro e w6 ⟨rfl, n6, h6⟩
  have hb : Below w5.heap.size w5 w6 := by rw [h6]; exact below_drewN (Below.refl _ _) _
  have HP6 := Lib.hid (HP5.out.below hb)
  have HR6 := Lib.hid (row_below HR5.out hb)
  have HLB6 := Lib.hid ((hb.block _ (lt_of_block HLB5.out)).trans HLB5.out)
  clear h6 hb l0
  go_wp2_with fail
  with_reducible refine (HPN.out _).mono ?_
  rintro e w7 ⟨rfl, hb⟩
  have HP7 := Lib.hid (HP6.out.below hb)
  have HR7 := Lib.hid (row_below HR6.out hb)
  have HLB7 := Lib.hid ((hb.block _ (lt_of_block HLB6.out)).trans HLB6.out)
  clear hb
  go_wp2_with fail
  with_reducible refine (HRN.out _).mono ?_
  rintro e w8 ⟨rfl, hb⟩
  have HP8 := Lib.hid (HP7.out.below hb)
  have HR8 := Lib.hid (row_below HR7.out hb)
  have HLB8 := Lib.hid ((hb.block _ (lt_of_block HLB7.out)).trans HLB7.out)
  have l0 := cell1 HLB8.out
  have hl8 := lt_of_block HLB8.out
  have hbk : Below w8.heap.size w8 (w8.alloc (.cells #[.int .i64 ((0 : Nat) : Int)] 3)) := (Below.refl _ w8).alloc (Nat.le_refl _) _
  have HI9' : Hid (AyI w (w8.alloc (.cells #[.int .i64 ((0 : Nat) : Int)] 3)) LB w8.heap.size 0 (.slice a3 n cap3) L) := Lib.hid
    ⟨(hbk.block _ (lt_of_block HP8.out.res)).trans HP8.out.res, (hbk.block _ hl8).trans HLB8.out, heap_alloc_new w8 _, row_below HR8.out hbk, turned_below0 ((HP8.out.below hbk).bel), HLL.out, hl8⟩
  have HX : Hid (∃ W9, w8.alloc (.cells #[.int .i64 ((0 : Nat) : Int)] 3) = W9) := ⟨_, rfl⟩
  have HXB : Hid (∃ K, w8.heap.size = K) := ⟨_, rfl⟩
  have HE0 := Lib.hid (fun V (hV : AyI w V LB w8.heap.size 0 (.slice a3 n cap3) L) => by
    obtain ⟨a3', b3', cap3', hv3', ha3⟩ := AArg.of_row hV.row
    simp only [Value.slice.injEq] at hv3'
    obtain ⟨rfl, -, rfl⟩ := hv3'
    have hx := aeach_any a3 b3' 0 cap3 L V ha3 (by have := HN.out; omega)
    rw [HN.out] at hx
    exact hx)
  clear hb hbk
  go_wp2_with fail
  obtain ⟨W9, hW9⟩ := HX.out
  obtain ⟨K, hK⟩ := HXB.out
  have hW9' : w8.alloc (.cells #[.int .i64 0] 3) = W9 := hW9
  rw [hW9, hK] at HI9'
  rw [hK] at HE0
  rw [hW9', hK]
  have HI9 := HI9'
  have HKN := Lib.hid (lt_of_block HI9.out.nb)
  clear hW9 hW9' hK HX HXB l0 hl8
  refine (HE0.out _ HI9.out).mono ?_
  rintro e W10 ⟨B, rfl, hKO, hb⟩
  obtain ⟨Yb, hY, hseq⟩ := aeach1_seq (n := 19) (by omega) hKO (by have := HN.out; omega)
  have HY := Lib.hid hY
  have HSEQ := Lib.hid hseq
  have HI10 := Lib.hid (HI9.out.below hb)
  have hz9 := hb.size
  have hz8 := lt_of_block HI9.out.res
  have hzk := HI9.out.kne
  have hzl := HI9.out.lne
  clear hY hseq hKO hb HE0
  go_wp2_with fail
  refine (wpIn_wide (n := 20)).1 ?_
  refine range_turns_boxed rfl (by omega) (gf := 61) (lb := #[.pointer (some ⟨B, 0, none⟩)]) rfl trivial (enters_of Tryd.func61 (by kernel_rfl) rfl)
    (X := []) (Y := Yb) (by simp) (fun k hk => (HY.out k hk).2) HSEQ.out (fun _ => rfl) (fun _ _ _ h _ => h) (fun _ _ _ h _ => h)
    (fun pre V => AyI w V LB K pre.length (.slice a3 n cap3) L ∧ W10.heap.size ≤ V.heap.size)
    (fun c pre V => False)
    (fun xs A B h mm => ⟨h.1.mild mm (by omega), Nat.le_trans h.2 mm.size⟩) (fun c xs A B h mm => h) ⟨HI10.out, Nat.le_refl _⟩ (fun xs V h => h.2)
    69 (fun x => #[.int .i64 x.1.1, .int .i64 x.1.2.1, .int .i64 x.1.2.2.1, .int .i64 x.1.2.2.2.1, .int .i64 x.1.2.2.2.2]) ?a1 ?assign ?body ?done ?stop
  case stop => exact fun D c xs V hD hsx h hK => h.elim
  case assign =>
    intro l x Bk V K' hBk hK
    gi_wp2
    exact hK
  case body =>
    rintro l pre ⟨⟨x1, x2, x3, x4, x5⟩, j⟩ Bk V hk hbk ⟨hI, hz⟩ hsp
    obtain ⟨hj, hlt, hLj⟩ := azip_at hsp
    simp only at hk hj hLj
    subst hj
    obtain ⟨j, hjl⟩ : ∃ j, pre.length = j := ⟨_, rfl⟩
    have HJL := Lib.hid hjl
    simp only [hjl] at hlt hLj hI ⊢
    obtain ⟨k0, k1, k2, k3, k4⟩ := act_cells hk
    obtain ⟨g, cap', hv, _, _⟩ := ownsRow_pos hI.row (by omega)
    simp only [Value.slice.injEq] at hv
    obtain ⟨rfl, _, rfl⟩ := hv
    obtain ⟨y0, y1, y2, y3, y4⟩ := row_ac hI.row j hlt
    rw [hLj] at y0 y1 y2 y3 y4
    simp only at y0 y1 y2 y3 y4
    have hgl : g < V.heap.size := ownsRow_lt hI.row g (by simp [Value.ownBlock])
    have c1 := cell1 hI.lb
    have n0 := cell1 hI.nb
    have HI := Lib.hid hI
    have HBK := Lib.hid hk
    have hjn : j < n := by have := HN.out; omega
    have i0 : (0 : Int) ≤ j := by omega
    have i1 : (j : Int) < n := by omega
    have i2 : IntKind.i64.wrap ((j : Int) + 1) = ((j + 1 : Nat) : Int) := by rw [IntKind.wrap_i64]; omega
    have hq := fun W => neq_act_self x1 x2 x3 x4 x5 W
    have HZ := Lib.hid hz
    clear hk hsp hI hLj hjl hz
    have hold : ∀ V', Below V.heap.size V V' → V'.cell? ⟨K, 0, none⟩ = some (.int .i64 (j : Nat)) ∧ V'.cell? ⟨Bk, 0, none⟩ = some (.int .i64 x1) ∧ V'.cell? ⟨Bk, 1, none⟩ = some (.int .i64 x2) ∧ V'.cell? ⟨Bk, 2, none⟩ = some (.int .i64 x3) ∧ V'.cell? ⟨Bk, 3, none⟩ = some (.int .i64 x4) ∧ V'.cell? ⟨Bk, 4, none⟩ = some (.int .i64 x5) ∧ V'.cell? ⟨LB, 0, none⟩ = some (.slice (some ⟨g, 0, none⟩) n cap3) ∧ V'.cell? ⟨g, j * 5, none⟩ = some (.int .i64 x1) ∧ V'.cell? ⟨g, j * 5 + 1, none⟩ = some (.int .i64 x2) ∧ V'.cell? ⟨g, j * 5 + 2, none⟩ = some (.int .i64 x3) ∧ V'.cell? ⟨g, j * 5 + 3, none⟩ = some (.int .i64 x4) ∧ V'.cell? ⟨g, j * 5 + 4, none⟩ = some (.int .i64 x5) := fun V' hb =>
      have hB := lt_of_block HBK.out
      have hb1 := lt_of_block HI.out.nb
      have hb2 := lt_of_block HI.out.lb
      ⟨(hb.cell (p := ⟨K, 0, none⟩) hb1).trans n0, (hb.cell (p := ⟨Bk, 0, none⟩) hB).trans k0, (hb.cell (p := ⟨Bk, 1, none⟩) hB).trans k1, (hb.cell (p := ⟨Bk, 2, none⟩) hB).trans k2, (hb.cell (p := ⟨Bk, 3, none⟩) hB).trans k3, (hb.cell (p := ⟨Bk, 4, none⟩) hB).trans k4, (hb.cell (p := ⟨LB, 0, none⟩) hb2).trans c1,
        (hb.cell (p := ⟨g, j * 5, none⟩) hgl).trans y0, (hb.cell (p := ⟨g, j * 5 + 1, none⟩) hgl).trans y1, (hb.cell (p := ⟨g, j * 5 + 2, none⟩) hgl).trans y2, (hb.cell (p := ⟨g, j * 5 + 3, none⟩) hgl).trans y3, (hb.cell (p := ⟨g, j * 5 + 4, none⟩) hgl).trans y4⟩
    have HTV : Hid (Below V.heap.size V V.drew) := Lib.hid (Below.refl _ V).drew
    gi_wp2_with fail
    refine wpRound_held (fun V' => V'.cell? ⟨K, 0, none⟩ = some (.int .i64 (j : Nat)) ∧ V'.cell? ⟨Bk, 0, none⟩ = some (.int .i64 x1) ∧ V'.cell? ⟨Bk, 1, none⟩ = some (.int .i64 x2) ∧ V'.cell? ⟨Bk, 2, none⟩ = some (.int .i64 x3) ∧ V'.cell? ⟨Bk, 3, none⟩ = some (.int .i64 x4) ∧ V'.cell? ⟨Bk, 4, none⟩ = some (.int .i64 x5) ∧ V'.cell? ⟨LB, 0, none⟩ = some (.slice (some ⟨g, 0, none⟩) n cap3) ∧ V'.cell? ⟨g, j * 5, none⟩ = some (.int .i64 x1) ∧ V'.cell? ⟨g, j * 5 + 1, none⟩ = some (.int .i64 x2) ∧ V'.cell? ⟨g, j * 5 + 2, none⟩ = some (.int .i64 x3) ∧ V'.cell? ⟨g, j * 5 + 3, none⟩ = some (.int .i64 x4) ∧ V'.cell? ⟨g, j * 5 + 4, none⟩ = some (.int .i64 x5)) (by kernel_rfl) ?_ hmix (hold _ HTV.out) (fun hS0 => ?_)
    · rintro ⟨_, _, h⟩; exact h
    clear k0 k1 k2 k3 k4 y0 y1 y2 y3 y4 c1 n0
    refine wpAnyH_take (i := 0) (v := ?_) rfl (by kernel_rfl) (by kernel_rfl) (by kernel_rfl) (fun _ _ _ h => h) (Or.inl ⟨by rfl, ?hy⟩) (by assumption) ?_
    case hy =>
      intro w hSw
      (try dsimp only at hSw)
      obtain ⟨s0, s1, s2, s3, s4, s5, s6, s7, s8, s9, s10, s11⟩ := hSw
      go_simp
      try with_reducible rfl
    (try simp only [List.getElem_toArray])
    (try simp only [List.getElem_cons_succ])
    (try simp only [List.getElem_cons_zero])
    (try simp only [Act.put])
    (try simp only [List.setIfInBounds_toArray])
    (try simp only [List.set_cons_succ])
    (try simp only [List.set_cons_zero])
    refine wpAnyH_take (i := 1) (v := ?_) rfl (by kernel_rfl) (by kernel_rfl) (by kernel_rfl) (fun _ _ _ h => h) (Or.inl ⟨by rfl, ?hy⟩) (by assumption) ?_
    case hy =>
      intro w hSw
      (try dsimp only at hSw)
      obtain ⟨s0, s1, s2, s3, s4, s5, s6, s7, s8, s9, s10, s11⟩ := hSw
      go_simp
      try with_reducible rfl
    (try simp only [List.getElem_toArray])
    (try simp only [List.getElem_cons_succ])
    (try simp only [List.getElem_cons_zero])
    (try simp only [Act.put])
    (try simp only [List.setIfInBounds_toArray])
    (try simp only [List.set_cons_succ])
    (try simp only [List.set_cons_zero])
    refine wpAnyH_take (i := 2) (v := ?_) rfl (by kernel_rfl) (by kernel_rfl) (by kernel_rfl) (fun _ _ _ h => h) (Or.inl ⟨by rfl, ?hy⟩) (by assumption) ?_
    case hy =>
      intro w hSw
      (try dsimp only at hSw)
      obtain ⟨s0, s1, s2, s3, s4, s5, s6, s7, s8, s9, s10, s11⟩ := hSw
      go_simp
      try with_reducible rfl
    (try simp only [List.getElem_toArray])
    (try simp only [List.getElem_cons_succ])
    (try simp only [List.getElem_cons_zero])
    (try simp only [Act.put])
    (try simp only [List.setIfInBounds_toArray])
    (try simp only [List.set_cons_succ])
    (try simp only [List.set_cons_zero])
    refine wpAnyH_take (i := 3) (v := ?_) rfl (by kernel_rfl) (by kernel_rfl) (by kernel_rfl) (fun _ _ _ h => h) (Or.inl ⟨by rfl, ?hy⟩) (by assumption) ?_
    case hy =>
      intro w hSw
      (try dsimp only at hSw)
      obtain ⟨s0, s1, s2, s3, s4, s5, s6, s7, s8, s9, s10, s11⟩ := hSw
      go_simp
      try with_reducible rfl
    (try simp only [List.getElem_toArray])
    (try simp only [List.getElem_cons_succ])
    (try simp only [List.getElem_cons_zero])
    (try simp only [Act.put])
    (try simp only [List.setIfInBounds_toArray])
    (try simp only [List.set_cons_succ])
    (try simp only [List.set_cons_zero])
    refine wpAnyH_take (i := 4) (v := ?_) rfl (by kernel_rfl) (by kernel_rfl) (by kernel_rfl) (fun _ _ _ h => h) (Or.inl ⟨by rfl, ?hy⟩) (by assumption) ?_
    case hy =>
      intro w hSw
      (try dsimp only at hSw)
      obtain ⟨s0, s1, s2, s3, s4, s5, s6, s7, s8, s9, s10, s11⟩ := hSw
      go_simp
      try with_reducible rfl
    (try simp only [List.getElem_toArray])
    (try simp only [List.getElem_cons_succ])
    (try simp only [List.getElem_cons_zero])
    (try simp only [Act.put])
    (try simp only [List.setIfInBounds_toArray])
    (try simp only [List.set_cons_succ])
    (try simp only [List.set_cons_zero])
    refine wpAnyH_take (i := 5) (v := ?_) rfl (by kernel_rfl) (by kernel_rfl) (by kernel_rfl) (fun _ _ _ h => h) (Or.inl ⟨by rfl, ?hy⟩) (by assumption) ?_
    case hy =>
      intro w hSw
      (try dsimp only at hSw)
      obtain ⟨s0, s1, s2, s3, s4, s5, s6, s7, s8, s9, s10, s11⟩ := hSw
      go_simp
      try with_reducible rfl
    (try simp only [List.getElem_toArray])
    (try simp only [List.getElem_cons_succ])
    (try simp only [List.getElem_cons_zero])
    (try simp only [Act.put])
    (try simp only [List.setIfInBounds_toArray])
    (try simp only [List.set_cons_succ])
    (try simp only [List.set_cons_zero])
    refine wpAnyH_take (i := 6) (v := ?_) rfl (by kernel_rfl) (by kernel_rfl) (by kernel_rfl) (fun _ _ _ h => h) (Or.inl ⟨by rfl, ?hy⟩) (by assumption) ?_
    case hy =>
      intro w hSw
      (try dsimp only at hSw)
      obtain ⟨s0, s1, s2, s3, s4, s5, s6, s7, s8, s9, s10, s11⟩ := hSw
      go_simp
      try with_reducible rfl
    (try simp only [List.getElem_toArray])
    (try simp only [List.getElem_cons_succ])
    (try simp only [List.getElem_cons_zero])
    (try simp only [Act.put])
    (try simp only [List.setIfInBounds_toArray])
    (try simp only [List.set_cons_succ])
    (try simp only [List.set_cons_zero])
    refine wpAnyH_take (i := 7) (v := ?_) rfl (by kernel_rfl) (by kernel_rfl) (by kernel_rfl) (fun _ _ _ h => h) (Or.inl ⟨by rfl, ?hy⟩) (by assumption) ?_
    case hy =>
      intro w hSw
      (try dsimp only at hSw)
      obtain ⟨s0, s1, s2, s3, s4, s5, s6, s7, s8, s9, s10, s11⟩ := hSw
      go_simp
      try with_reducible rfl
    (try simp only [List.getElem_toArray])
    (try simp only [List.getElem_cons_succ])
    (try simp only [List.getElem_cons_zero])
    (try simp only [Act.put])
    (try simp only [List.setIfInBounds_toArray])
    (try simp only [List.set_cons_succ])
    (try simp only [List.set_cons_zero])
    refine wpAnyH_take (i := 8) (v := ?_) rfl (by kernel_rfl) (by kernel_rfl) (by kernel_rfl) (fun _ _ _ h => h) (Or.inl ⟨by rfl, ?hy⟩) (by assumption) ?_
    case hy =>
      intro w hSw
      (try dsimp only at hSw)
      obtain ⟨s0, s1, s2, s3, s4, s5, s6, s7, s8, s9, s10, s11⟩ := hSw
      go_simp
      try with_reducible rfl
    (try simp only [List.getElem_toArray])
    (try simp only [List.getElem_cons_succ])
    (try simp only [List.getElem_cons_zero])
    (try simp only [Act.put])
    (try simp only [List.setIfInBounds_toArray])
    (try simp only [List.set_cons_succ])
    (try simp only [List.set_cons_zero])
    refine wpAnyH_take (i := 9) (v := ?_) rfl (by kernel_rfl) (by kernel_rfl) (by kernel_rfl) (fun _ _ _ h => h) (Or.inl ⟨by rfl, ?hy⟩) (by assumption) ?_
    case hy =>
      intro w hSw
      (try dsimp only at hSw)
      obtain ⟨s0, s1, s2, s3, s4, s5, s6, s7, s8, s9, s10, s11⟩ := hSw
      go_simp
      try with_reducible rfl
    (try simp only [List.getElem_toArray])
    (try simp only [List.getElem_cons_succ])
    (try simp only [List.getElem_cons_zero])
    (try simp only [Act.put])
    (try simp only [List.setIfInBounds_toArray])
    (try simp only [List.set_cons_succ])
    (try simp only [List.set_cons_zero])
    refine wpAnyH_take (i := 10) (v := ?_) rfl (by kernel_rfl) (by kernel_rfl) (by kernel_rfl) (fun _ _ _ h => h) (Or.inl ⟨by rfl, ?hy⟩) (by assumption) ?_
    case hy =>
      intro w hSw
      (try dsimp only at hSw)
      obtain ⟨s0, s1, s2, s3, s4, s5, s6, s7, s8, s9, s10, s11⟩ := hSw
      go_simp
      try with_reducible rfl
    (try simp only [List.getElem_toArray])
    (try simp only [List.getElem_cons_succ])
    (try simp only [List.getElem_cons_zero])
    (try simp only [Act.put])
    (try simp only [List.setIfInBounds_toArray])
    (try simp only [List.set_cons_succ])
    (try simp only [List.set_cons_zero])
    refine wpAnyH_done (by kernel_rfl) ?_ _
    (try simp only [List.getElem_toArray])
    (try simp only [List.getElem_cons_succ])
    (try simp only [List.getElem_cons_zero])
    (try simp only [Act.put])
    (try simp only [List.setIfInBounds_toArray])
    (try simp only [List.set_cons_succ])
    (try simp only [List.set_cons_zero])
    have HI2 := Lib.hid (HI.out.below HTV.out)
    have n2 := cell1 HI2.out.nb
    have f2 := not_frozen HI2.out.nb 0
    gi_wp2
    refine ⟨(akeeps_below HTV.out).trans ((KeepsOthers.setCell _ _ _).from _), fun q hq => ?_, ?_, ?_⟩
    · have h1 := HY.out q hq
      have h2 := HKN.out
      have h3 := HZ.out
      exact (Below.heap_setCell _ _ _ _ (by show q ≠ K; omega)).trans (HTV.out.block _ (by omega))
    · have h4 := HI2.out.count
      rw [List.length_append, List.length_singleton, HJL.out]
      exact h4
    · have h3 := HZ.out
      have h4 := HTV.out.size
      simp [World.setCell]
      omega
  case done =>
    rintro D xs V hD rfl ⟨hI, hz⟩ hKD
    rw [List.length_zipIdx, HN.out] at hI
    have c1 := cell1 hI.lb
    have n0 := cell1 hI.nb
    have r0 := cell1 hI.res
    have f0 := not_frozen hI.res 0
    obtain ⟨a3', b3', cap3', hv3', ha3⟩ := AArg.of_row hI.row
    simp only [Value.slice.injEq] at hv3'
    obtain ⟨rfl, -, rfl⟩ := hv3'
    have hma := amay_all a3 b3' 0 cap3 L V ha3 (by have := HN.out; omega)
    rw [HN.out] at hma
    have HMA := Lib.hid hma
    have HI := Lib.hid hI
    have HKD := Lib.hid hKD
    have HZ := Lib.hid hz
    have hnnn : ((n : Int) == n) = true := by simp
    clear hI hKD hz ha3 hma
    by_cases hre : re = 0
    · obtain ⟨m1, m2⟩ := HMY.out hre
      have hmay : actsMay L = true := by
        unfold actsMay
        rw [m1, decide_eq_true m2]
        rfl
      have hma := HMA.out
      rw [hmay] at hma
      have HMB := Lib.hid hma
      subst hre
      clear m1 m2 hmay hma
      go_wp2_with fail
      with_reducible refine HMB.out.mono ?_
      rintro e u1 ⟨rfl, hb⟩
      have HI2 := Lib.hid (HI.out.below hb)
      have HD2 := Lib.hid ((hb.block _ (lt_of_block HKD.out)).trans HKD.out)
      clear hb c1 n0 r0 f0
      have r0 := cell1 HI2.out.res
      have f0 := not_frozen HI2.out.res 0
      go_wp2
      have hf := HI2.out.fin (D := D) (by omega) HD2.out true
      refine ⟨by simp, .inl ⟨_, _, rfl, run_takeDeferred hf.1, ?_⟩⟩
      exact ⟨_, bool_result rfl rfl (hf.2 _).1, rfl, (hf.2 _).2⟩
    · have hreb : (re != 0) = true := by simpa using hre
      clear hre
      go_wp2
      have hf := HI.out.fin (D := D) (by omega) HKD.out true
      refine ⟨by simp, .inl ⟨_, _, rfl, run_takeDeferred hf.1, ?_⟩⟩
      exact ⟨_, bool_result rfl rfl (hf.2 _).1, rfl, (hf.2 _).2⟩
set_option maxRecDepth 100000 in
set_option maxHeartbeats 1600000 in
theorem actsany_walk (s : ByteArray) (at_ kind : Int) (w : World) (hT : TabOk w) :
    Calls Tryd.prog 7 #[.string s, .int .i64 at_, .int .i64 kind] w fun e w' => e = .returned (.bool true) ∧ Below w.heap.size w w' := by
  by_cases hlen : s.size ≤ 200
  · exact actsany_in s at_ kind w hT hlen
  · have hl2 : (200 : Int) < s.size := by omega
    have HAW := Lib.hid (fun V (hV : AyP w V) => awake13 V (hT.below hV.bel))
    have HP0 : Hid (AyP w (w.alloc (.cells #[.bool false] 4))) := Lib.hid ⟨heap_alloc_new w _, (Below.refl _ w).alloc (Nat.le_refl _) _⟩
    clear hT
    go_enter Tryd.func7, Tryd.ntmps7
    go_wp2_with fail
    with_reducible refine (HAW.out _ HP0.out).mono ?_
    rintro e w1 ⟨rfl, hb⟩
    have HP1 := Lib.hid (HP0.out.below hb)
    have r0 := cell1 HP1.out.res
    have f0 := not_frozen HP1.out.res 0
    clear hb
    go_wp2
    have hs : (w1.setCell ⟨w.heap.size, 0, none⟩ (.bool true)).heap[w.heap.size]? = some (.cells #[.bool true] 4 (0, 0)) := by
      rw [heap_setCell_same _ _ _ _ _ _ HP1.out.res]
      rfl
    refine bodyPost_ret (bool_result rfl rfl hs) rfl ?_
    exact ⟨rfl, HP1.out.bel.setCell (by show w.heap.size ≤ w.heap.size; omega) _⟩
end Go.Proofs.YtmcfjlkjijaflaaDoor
