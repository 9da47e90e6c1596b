/-
  A line of the program's: its numbers in memory; read.
  The program's lines of a number each; its parts.
-/
import Derived.Test.YtmcfjlkjijaflaaGreatDoorGAL

/- A line of the program's: its numbers in memory; read. -/
namespace Go.Proofs.YtmcfjlkjijaflaaGreatDoor
open Go.RowKit

/-- A number of a line: its name, the most it may be, where it is kept. -/
abbrev Nm := ByteArray × Int × Nat
/-- A line's numbers in memory: all are kept in block T. -/
structure NArg (w : World) (nb off T : Nat) (N : List Nm) : Prop where
  blk : ∃ X f, w.heap[nb]? = some (.cells X 102 f)
  cells : ∀ i (hi : i < N.length), w.cell? ⟨nb, off + i * 4, none⟩ = some (.string N[i].1) ∧ w.cell? ⟨nb, off + i * 4 + 1, none⟩ = some (.int .i64 1) ∧ w.cell? ⟨nb, off + i * 4 + 2, none⟩ = some (.int .i64 N[i].2.1) ∧ w.cell? ⟨nb, off + i * 4 + 3, none⟩ = some (.pointer (some ⟨T, N[i].2.2, none⟩))
theorem NArg.lt {w : World} {nb off T : Nat} {N : List Nm} (h : NArg w nb off T N) : nb < w.heap.size := by
  obtain ⟨X, f, h⟩ := h.blk
  exact lt_of_block h
theorem NArg.same {w w' : World} {nb off T : Nat} {N : List Nm} (h : NArg w nb off T N) (e : w'.heap[nb]? = w.heap[nb]?) : NArg w' nb off T N := by
  have ec : ∀ o, w'.cell? ⟨nb, o, none⟩ = w.cell? ⟨nb, o, none⟩ := fun o => by simp only [World.cell?, e]
  refine ⟨?_, fun i hi => ?_⟩
  · obtain ⟨X, f, h⟩ := h.blk
    exact ⟨X, f, e.trans h⟩
  · obtain ⟨h0, h1, h2, h3⟩ := h.cells i hi
    exact ⟨(ec _).trans h0, (ec _).trans h1, (ec _).trans h2, (ec _).trans h3⟩
theorem NArg.below {w w' : World} {nb off T : Nat} {N : List Nm} (h : NArg w nb off T N) (hb : Below w.heap.size w w') : NArg w' nb off T N := h.same (hb.block _ h.lt)
def readN (L : List Wd) : List Nm → Rd → Array Value → Rd × Array Value
  | [], s, X => (s, X)
  | x :: ns, s, X =>
    let s1 := if x.1 = ⟨#[]⟩ then s else needS L s 1 x.1.data.toList
    let r := numS L s1 x.2.1
    readN L ns r.2 (X.setIfInBounds x.2.2 (.int .i64 r.1))
def lineR (L : List Wd) (first : ByteArray) (N : List Nm) (s : Rd) (X : Array Value) : Rd × Array Value :=
  let r := readN L N (needS L s 1 first.data.toList) X
  (needS L r.1 3 [59], r.2)
/-- What read holds. -/
structure LnI (w wr : World) (b : Nat) (ao : Option Addr) (bw off cap : Nat) (L : List Wd) (T : Nat) (tT : TypeId) (first : ByteArray) (lv : Value) (nb no : Nat) (N : List Nm) (s : Rd) (X : Array Value) : Prop where
  rd : RwI wr b ao bw off cap L s
  tb : wr.heap[T]? = some (.cells X tT (0, 0))
  na : NArg wr nb no T N
  bx : wr.heap[w.heap.size]? = some (.cells #[.string first, lv] 58 (0, 0))
  t : Turned [b, T] w wr
  l1 : b < w.heap.size
  l2 : T < w.heap.size
  l3 : nb < w.heap.size
  n1 : b ≠ T
  n2 : nb ≠ b
  n3 : nb ≠ T
  n4 : 0 < L.length → bw ≠ T
section
variable {w wr wr' : World} {b : Nat} {ao : Option Addr} {bw off cap : Nat} {L : List Wd} {T : Nat} {tT : TypeId} {first : ByteArray} {lv : Value} {nb no : Nat} {N : List Nm} {s s' : Rd} {X : Array Value}
theorem turned_two {b T : Nat} (h : Turned [b] wr wr') : Turned [b, T] wr wr' := ⟨h.os, h.tape, h.output, h.size, fun k hk hx => h.block k hk (by simp at hx ⊢; exact hx.1)⟩
theorem LnI.moved (h : LnI w wr b ao bw off cap L T tT first lv nb no N s X) (m : RwP b ao bw off cap L s' wr wr') : LnI w wr' b ao bw off cap L T tT first lv nb no N s' X := by
  obtain ⟨m1, m2⟩ := m
  have hb := lt_of_block h.bx
  have := h.l1
  have := h.l2
  have := h.l3
  refine ⟨m1, m2.same h.tb (by simpa using fun e => h.n1 e.symm), h.na.same (m2.block _ (by omega) (by simpa using h.n2)), m2.same h.bx (by simp; omega), h.t.trans (turned_two m2) (Newer.refl _ _), h.l1, h.l2, h.l3, h.n1, h.n2, h.n3, h.n4⟩
theorem LnI.below (h : LnI w wr b ao bw off cap L T tT first lv nb no N s X) (hb : Below wr.heap.size wr wr') : LnI w wr' b ao bw off cap L T tT first lv nb no N s X :=
  h.moved ⟨RdI.below h.rd hb, turned_below hb [b]⟩
theorem LnI.store (h : LnI w wr b ao bw off cap L T tT first lv nb no N s X) (o : Nat) (v : Value) : LnI w (wr.setCell ⟨T, o, none⟩ v) b ao bw off cap L T tT first lv nb no N s (X.setIfInBounds o v) := by
  have h2 := h.l2
  refine ⟨⟨(Below.heap_setCell _ _ _ _ h.n1).trans h.rd.rd, h.rd.ws.same (fun h0 => Below.heap_setCell _ _ _ _ (h.n4 h0)), h.rd.ne, h.rd.le, h.rd.len⟩, heap_setCell_same _ _ _ _ _ _ h.tb, h.na.same (Below.heap_setCell _ _ _ _ h.n3), (Below.heap_setCell _ _ _ _ (by show w.heap.size ≠ T; omega)).trans h.bx, h.t.setCell (.inl (by simp)) _, h.l1, h.l2, h.l3, h.n1, h.n2, h.n3, h.n4⟩
end
theorem cell_at {w : World} {B k : Nat} {X : Array Value} {t : TypeId} {f : Nat × Nat} (h : w.heap[B]? = some (.cells X t f)) (hk : k < X.size) : w.cell? ⟨B, k, none⟩ = some X[k] := by
  simp [World.cell?, h, hk]
theorem name_some {nm : ByteArray} (h : nm ≠ ⟨#[]⟩) : nm.toList.isEmpty = false ∧ ¬ nm.toList = [] := by
  have h1 : ¬ nm.toList = [] := by
    intro e
    apply h
    rw [Lib.toList_data] at e
    have : nm.data = #[] := by simpa using e
    rw [← this]
  exact ⟨by simpa using h1, h1⟩
set_option maxRecDepth 100000 in
set_option maxHeartbeats 6400000 in
theorem lread_any {w : World} {b : Nat} {ao : Option Addr} {bw off cap : Nat} {L : List Wd} {T : Nat} {tT : TypeId} (first : ByteArray) (nb no nc : Nat) (N : List Nm) {s : Rd} {X : Array Value} (h : RwI w b ao bw off cap L s) (hL : Clean L) (hT : w.heap[T]? = some (.cells X tT (0, 0))) (hN : NArg w nb no T N)
    (n1 : b ≠ T) (n2 : nb ≠ b) (n3 : nb ≠ T) (n4 : 0 < L.length → bw ≠ T) (hX : ∀ x ∈ N, x.2.2 < X.size) (hlen : N.length ≤ 8) :
    Calls Tryz.prog 71 #[.agg #[.string first, .slice (some ⟨nb, no, none⟩) N.length nc], .pointer (some ⟨b, 0, none⟩)] w fun r w' => r = .returned (.tuple #[]) ∧ RwI w' b ao bw off cap L (lineR L first N s X).1 ∧ w'.heap[T]? = some (.cells (lineR L first N s X).2 tT (0, 0)) ∧ Turned [b, T] w w' := by
  have HST : Hid (LnI w (w.alloc (.cells #[.string first, .slice (some ⟨nb, no, none⟩) N.length nc] 58)) b ao bw off cap L T tT first (.slice (some ⟨nb, no, none⟩) N.length nc) nb no N s X) := Lib.hid (by
    have hb : Below w.heap.size w (w.alloc (.cells #[.string first, .slice (some ⟨nb, no, none⟩) N.length nc] 58)) := (Below.refl _ w).alloc (Nat.le_refl _) _
    exact ⟨RdI.below h hb, (hb.block _ (lt_of_block hT)).trans hT, hN.below hb, heap_alloc_new _ _, turned_below hb _, lt_of_block h.rd, lt_of_block hT, hN.lt, n1, n2, n3, n4⟩)
  have HNM := Lib.hid (fun s W => pname_any s W)
  have HMK := Lib.hid (fun s W => pmark_any s W)
  have HND := Lib.hid (fun V (s : Rd) (hV : RwI V b ao bw off cap L s) (k : Int) (hk : k = 1 ∨ k = 3) (t : ByteArray) => sneed_any hV hL hk t)
  have HNU := Lib.hid (fun V (s : Rd) (hV : RwI V b ao bw off cap L s) (m : Int) => snum_any hV hL m)
  have HX := Lib.hid hX
  obtain ⟨s1, e1⟩ : ∃ s1, needS L s 1 first.data.toList = s1 := ⟨_, rfl⟩
  obtain ⟨⟨s2, X2⟩, e2⟩ : ∃ G, readN L N s1 X = G := ⟨_, rfl⟩
  have eg : lineR L first N s X = (needS L s2 3 [59], X2) := by
    unfold lineR
    simp only [e1, e2]
  have E1 := Lib.hid e1
  have E2 := Lib.hid e2
  rw [eg]
  simp only
  obtain ⟨n, hn⟩ : ∃ n, N.length = n := ⟨_, rfl⟩
  have HN := Lib.hid hn
  obtain ⟨xs, hxs⟩ : ∃ m, X.size = m := ⟨_, rfl⟩
  have HXS := Lib.hid hxs
  rw [hn] at HST hlen ⊢
  rw [hxs] at HX
  have hbx := two_cells HST.out.bx
  obtain ⟨bx0, bx1⟩ := hbx
  clear h hL hT hN n1 n2 n3 n4 hX e1 e2 eg hn hxs
  go_enter Tryz.func71, Tryz.ntmps71
  go_wp2_with fail
  with_reducible refine (HNM.out _ _).mono ?_
  rintro r w1 ⟨rfl, hb⟩
  have HI1 := Lib.hid (HST.out.below hb)
  clear hb bx0 bx1
  go_wp2_with fail
  with_reducible refine (HND.out _ _ HI1.out.rd 1 (.inl rfl) _).mono ?_
  rintro r w2 ⟨rfl, hm⟩
  have HI2' := Lib.hid (HI1.out.moved hm)
  rw [E1.out] at HI2'
  have HI2 := Lib.hid HI2'.out
  clear hm HI2'
  obtain ⟨bx0, bx1⟩ := two_cells HI2.out.bx
  go_wp2_with fail
  go_loopw [14] (fun i' wr => ∃ (i : Nat) (s : Rd) (X : Array Value), i' = .int .i64 i ∧ i ≤ n ∧ Hid (LnI w wr b ao bw off cap L T tT first (.slice (some ⟨nb, no, none⟩) n nc) nb no N s X) ∧ Hid (readN L (N.drop i) s X = (s2, X2)) ∧ Hid (X.size = xs)) (fun i' _ => n - (intOf i').toNat)
  case atStart => exact ⟨0, s1, X, rfl, Nat.zero_le _, HI2, E2, HXS⟩
  case round =>
    obtain ⟨i, s, X, rfl, hi, HI, HG, HXS⟩ := hrel
    by_cases hlt : i < n
    · have hiN : i < N.length := by rw [HN.out]; exact hlt
      have i0 : (0 : Int) ≤ i := by omega
      have i1 : (i : Int) < n := by omega
      have i2 : IntKind.i64.wrap ((i : Int) + 1) = (i : Int) + 1 := by rw [IntKind.wrap_i64]; omega
      obtain ⟨x0, x1, x2, x3⟩ := HI.out.na.cells i hiN
      obtain ⟨⟨nm, mo, o⟩, hx⟩ : ∃ x, N[i] = x := ⟨_, rfl⟩
      have HXO : Hid (o < X.size) := Lib.hid (by
        have := HX.out _ (List.getElem_mem hiN)
        rw [hx] at this
        rw [HXS.out]
        exact this)
      have hg := HG.out
      rw [List.drop_eq_getElem_cons hiN, hx] at hg
      rw [hx] at x0 x2 x3
      unfold readN at hg
      simp only at x0 x2 x3 hg
      clear hx
      obtain ⟨sa, hsa⟩ : ∃ sa, (if nm = ⟨#[]⟩ then s else needS L s 1 nm.data.toList) = sa := ⟨_, rfl⟩
      rw [hsa] at hg
      obtain ⟨⟨v, sb⟩, hsb⟩ : ∃ r, numS L sa mo = r := ⟨_, rfl⟩
      rw [hsb] at hg
      simp only at hg
      have HG2 := Lib.hid hg
      have HSA := Lib.hid hsa
      have HSB := Lib.hid hsb
      have HBX := Lib.hid (heap_alloc_new wr (.cells #[.string nm, .int .i64 1, .int .i64 mo, .pointer (some ⟨T, o, none⟩)] 102))
      have HIA := Lib.hid (HI.out.below ((Below.refl _ wr).alloc (Nat.le_refl _) (.cells #[.string nm, .int .i64 1, .int .i64 mo, .pointer (some ⟨T, o, none⟩)] 102)))
      have HNU2 := Lib.hid (fun V hV => HNU.out V sa hV mo)
      simp only [hsb] at HNU2
      clear hg hsa hsb
      by_cases hnm : nm = ⟨#[]⟩
      · have hss : s = sa := by
          have := HSA.out
          rw [if_pos hnm] at this
          exact this
        subst hnm
        subst hss
        go_wp2_with fail
        have HBW := HBX
        have HIW := HIA
        have s0 := word_cells HBW.out
        have HIW2 := Lib.hid (HIW.out.below (Below.refl _ _).drew)
        go_region_held3 (fun V => V.cell? ⟨wr.heap.size, 0, none⟩ = some (.string ⟨#[]⟩) ∧ V.cell? ⟨wr.heap.size, 1, none⟩ = some (.int .i64 1) ∧ V.cell? ⟨wr.heap.size, 2, none⟩ = some (.int .i64 mo) ∧ V.cell? ⟨wr.heap.size, 3, none⟩ = some (.pointer (some ⟨T, o, none⟩)))
          (first | exact s0 | exact s1 | exact s2)
          (first
            | (go_at_call 104
               with_reducible refine (HNU2.out _ HIW2.out.rd).mono ?_
               rintro r V1 ⟨rfl, hm⟩
               have HI4 := Lib.hid (HIW2.out.moved hm)
               have hbk := hm.2.same ((Below.refl _ _).drew.block _ (lt_of_block HBW.out) |>.trans HBW.out) (by have := HI.out.l1; have := HI.out.t.size; simp; omega)
               have s1 := word_cells hbk
               have hTb := HI4.out.tb
               have dT := cell_at hTb HXO.out
               have fT := not_frozen hTb o
               have s2 := word_cells ((Below.heap_setCell V1 ⟨T, o, none⟩ (.int .i64 v) _ (by show wr.heap.size ≠ T; have := HI.out.l2; have := HI.out.t.size; omega)).trans hbk)
               clear hm hbk hTb))
        have HI5 := Lib.hid (HI4.out.store o (.int .i64 v))
        clear s0 s1 s2 dT fT
        go_wp2
        go_roundw
        case rel => exact ⟨i + 1, sb, _, by go_num, by omega, HI5, HG2, Lib.hid (by rw [Array.size_setIfInBounds]; exact HXS.out)⟩
        case measure => simp [intOf]; omega
      · obtain ⟨hn1, hn2⟩ := name_some hnm
        have hsn : needS L s 1 nm.data.toList = sa := by
          have := HSA.out
          rw [if_neg hnm] at this
          exact this
        have HSN := Lib.hid hsn
        clear hnm hsn
        obtain ⟨y0, y1, y2, y3⟩ := word_cells HBX.out
        go_wp2_with fail
        with_reducible refine (HNM.out _ _).mono ?_
        rintro r w3 ⟨rfl, hb⟩
        have HI3 := Lib.hid (HIA.out.below hb)
        have HB3 := Lib.hid ((hb.block _ (lt_of_block HBX.out)).trans HBX.out)
        clear hb y0 y1 y2 y3
        go_wp2_with fail
        with_reducible refine (HND.out _ _ HI3.out.rd 1 (.inl rfl) _).mono ?_
        rintro r w4 ⟨rfl, hm⟩
        have HIW' := Lib.hid (HI3.out.moved hm)
        rw [HSN.out] at HIW'
        have HIW := Lib.hid HIW'.out
        have HBW := Lib.hid (hm.2.same HB3.out (by have := HI.out.l1; have := HI.out.t.size; simp; omega))
        clear hm HIW'
        go_wp2_with fail
        have s0 := word_cells HBW.out
        have HIW2 := Lib.hid (HIW.out.below (Below.refl _ _).drew)
        go_region_held3 (fun V => V.cell? ⟨wr.heap.size, 0, none⟩ = some (.string nm) ∧ V.cell? ⟨wr.heap.size, 1, none⟩ = some (.int .i64 1) ∧ V.cell? ⟨wr.heap.size, 2, none⟩ = some (.int .i64 mo) ∧ V.cell? ⟨wr.heap.size, 3, none⟩ = some (.pointer (some ⟨T, o, none⟩)))
          (first | exact s0 | exact s1 | exact s2)
          (first
            | (go_at_call 104
               with_reducible refine (HNU2.out _ HIW2.out.rd).mono ?_
               rintro r V1 ⟨rfl, hm⟩
               have HI4 := Lib.hid (HIW2.out.moved hm)
               have hbk := hm.2.same ((Below.refl _ _).drew.block _ (lt_of_block HBW.out) |>.trans HBW.out) (by have := HI.out.l1; have := HI.out.t.size; simp; omega)
               have s1 := word_cells hbk
               have hTb := HI4.out.tb
               have dT := cell_at hTb HXO.out
               have fT := not_frozen hTb o
               have s2 := word_cells ((Below.heap_setCell V1 ⟨T, o, none⟩ (.int .i64 v) _ (by show wr.heap.size ≠ T; have := HI.out.l2; have := HI.out.t.size; omega)).trans hbk)
               clear hm hbk hTb))
        have HI5 := Lib.hid (HI4.out.store o (.int .i64 v))
        clear s0 s1 s2 dT fT
        go_wp2
        go_roundw
        case rel => exact ⟨i + 1, sb, _, by go_num, by omega, HI5, HG2, Lib.hid (by rw [Array.size_setIfInBounds]; exact HXS.out)⟩
        case measure => simp [intOf]; omega
    · have hg := HG.out
      rw [List.drop_of_length_le (by rw [HN.out]; omega)] at hg
      unfold readN at hg
      simp only [Prod.mk.injEq] at hg
      obtain ⟨rfl, rfl⟩ := hg
      go_wp2_with fail
      with_reducible refine (HMK.out _ _).mono ?_
      rintro r w3 ⟨rfl, hb⟩
      have HI3 := Lib.hid (HI.out.below hb)
      clear hb
      go_wp2_with fail
      with_reducible refine (HND.out _ _ HI3.out.rd 3 (.inr rfl) _).mono ?_
      rintro r w4 ⟨rfl, hm⟩
      have HI4 := Lib.hid (HI3.out.moved hm)
      clear hm
      go_wp2
      go_end0
      exact ⟨rfl, HI4.out.rd, HI4.out.tb, HI4.out.t⟩
end Go.Proofs.YtmcfjlkjijaflaaGreatDoor

/- The program's lines of a number each; its parts. -/
namespace Go.Proofs.YtmcfjlkjijaflaaGreatDoor
open Go.RowKit

theorem line_res {fn : Func} {p : Tmp} (hf : fn.results = #[.cell p 58]) {tmps : Array Value} {w : World} {B : Nat} {a b : Value} (hp : tmps.getD p undef = .pointer (some ⟨B, 0, none⟩)) (h : w.heap[B]? = some (.cells #[a, b] 58 (0, 0))) :
    (results fn tmps).run Tryz.prog w = .ok (.agg #[a, b]) w := by
  obtain ⟨h0, h1⟩ := two_cells h
  rw [results_one hf, hp]
  simp [loadVar, go_sem, h0, h1]
theorem part_res {fn : Func} {p : Tmp} (hf : fn.results = #[.cell p 117]) {tmps : Array Value} {w : World} {B : Nat} {a b c : Value} (hp : tmps.getD p undef = .pointer (some ⟨B, 0, none⟩)) (h : w.heap[B]? = some (.cells #[a, b, c] 117 (0, 0))) :
    (results fn tmps).run Tryz.prog w = .ok (.agg #[a, b, c]) w := by
  obtain ⟨h0, h1, h2⟩ := three_cells h
  rw [results_one hf, hp]
  simp [loadVar, go_sem, h0, h1, h2]
/-- What makes a line. -/
def LineP (first : ByteArray) (N : List Nm) (T : Nat) (w : World) (e : Ending) (w' : World) : Prop :=
  ∃ nb nc, e = .returned (.agg #[.string first, .slice (some ⟨nb, 0, none⟩) N.length nc]) ∧ NArg w' nb 0 T N ∧ w.heap.size ≤ nb ∧ Below w.heap.size w w'
theorem NArg.one {w : World} {nb T o : Nat} {nm : ByteArray} {m : Int} {f : Nat × Nat} (h : w.heap[nb]? = some (.cells #[.string nm, .int .i64 1, .int .i64 m, .pointer (some ⟨T, o, none⟩)] 102 f)) : NArg w nb 0 T [(nm, m, o)] := by
  refine ⟨⟨_, _, h⟩, fun i hi => ?_⟩
  obtain rfl : i = 0 := by simp at hi; omega
  simp [World.cell?, h]
theorem line_one {w : World} {nm : ByteArray} {T o : Nat} {m : Int} {a b : Value} :
    ((w.alloc (.cells #[a, b] 58)).alloc (.cells #[.string nm, .int .i64 1, .int .i64 m, .pointer (some ⟨T, o, none⟩)] 102)).heap[w.heap.size]? = some (.cells #[a, b] 58 (0, 0)) ∧
    NArg ((w.alloc (.cells #[a, b] 58)).alloc (.cells #[.string nm, .int .i64 1, .int .i64 m, .pointer (some ⟨T, o, none⟩)] 102)) (w.heap.size + 1) 0 T [(nm, m, o)] ∧ Below w.heap.size w ((w.alloc (.cells #[a, b] 58)).alloc (.cells #[.string nm, .int .i64 1, .int .i64 m, .pointer (some ⟨T, o, none⟩)] 102)) := by
  have h0 := heap_alloc_new w (.cells #[a, b] 58)
  have h1 := heap_alloc_new (w.alloc (.cells #[a, b] 58)) (.cells #[.string nm, .int .i64 1, .int .i64 m, .pointer (some ⟨T, o, none⟩)] 102)
  rw [World.size_alloc] at h1
  exact ⟨(Below.heap_alloc _ _ _ (by simp)).trans h0, NArg.one h1, ((Below.refl _ w).alloc (Nat.le_refl _) _).alloc (by simp) _⟩
theorem coresline_any (T o : Nat) (w : World) :
    Calls Tryz.prog 50 #[.pointer (some ⟨T, o, none⟩)] w (LineP ⟨#[99, 111, 114, 101, 115]⟩ [(⟨#[]⟩, 4, o)] T w) := by
  go_enter Tryz.func50, Tryz.ntmps50
  go_wp2
  refine bodyPost_ret (line_res rfl rfl line_one.1) rfl ?_
  exact ⟨_, _, rfl, line_one.2.1, by omega, line_one.2.2⟩
theorem grainline_any (T o : Nat) (w : World) :
    Calls Tryz.prog 51 #[.pointer (some ⟨T, o, none⟩)] w (LineP ⟨#[103, 114, 97, 105, 110]⟩ [(⟨#[]⟩, 8, o)] T w) := by
  go_enter Tryz.func51, Tryz.ntmps51
  go_wp2
  refine bodyPost_ret (line_res rfl rfl line_one.1) rfl ?_
  exact ⟨_, _, rfl, line_one.2.1, by omega, line_one.2.2⟩
theorem groupline_any (T o : Nat) (w : World) :
    Calls Tryz.prog 52 #[.pointer (some ⟨T, o, none⟩)] w (LineP ⟨#[103, 114, 111, 117, 112]⟩ [(⟨#[]⟩, 16, o)] T w) := by
  go_enter Tryz.func52, Tryz.ntmps52
  go_wp2
  refine bodyPost_ret (line_res rfl rfl line_one.1) rfl ?_
  exact ⟨_, _, rfl, line_one.2.1, by omega, line_one.2.2⟩
/-- A slice of texts as it is read. -/
structure TArg (w : World) (pb off : Nat) (F : List ByteArray) : Prop where
  lt : pb < w.heap.size
  cells : ∀ i (hi : i < F.length), w.cell? ⟨pb, off + i, none⟩ = some (.string F[i])
theorem TArg.below {w w' : World} {pb off : Nat} {F : List ByteArray} (h : TArg w pb off F) (hb : Below w.heap.size w w') : TArg w' pb off F :=
  ⟨Nat.lt_of_lt_of_le h.lt hb.size, fun i hi => (hb.cell (p := ⟨pb, off + i, none⟩) h.lt).trans (h.cells i hi)⟩
/-- What makes a part. -/
def PartP (lo hi : Int) (F : List ByteArray) (w : World) (e : Ending) (w' : World) : Prop :=
  ∃ pb pc, e = .returned (.agg #[.int .i64 lo, .int .i64 hi, .slice (some ⟨pb, 0, none⟩) F.length pc]) ∧ TArg w' pb 0 F ∧ w.heap.size ≤ pb ∧ Below w.heap.size w w'
theorem part_made {w : World} {C : Array Value} {tC : TypeId} (F : List ByteArray) {a b c : Value} (hC : C = (F.map (fun s => Value.string s)).toArray) :
    ((w.alloc (.cells #[a, b, c] 117)).alloc (.cells C tC)).heap[w.heap.size]? = some (.cells #[a, b, c] 117 (0, 0)) ∧
    TArg ((w.alloc (.cells #[a, b, c] 117)).alloc (.cells C tC)) (w.heap.size + 1) 0 F ∧ Below w.heap.size w ((w.alloc (.cells #[a, b, c] 117)).alloc (.cells C tC)) := by
  have h0 := heap_alloc_new w (.cells #[a, b, c] 117)
  have h1 := heap_alloc_new (w.alloc (.cells #[a, b, c] 117)) (.cells C tC)
  rw [World.size_alloc] at h1
  refine ⟨(Below.heap_alloc _ _ _ (by simp)).trans h0, ⟨lt_of_block h1, fun i hi => ?_⟩, ((Below.refl _ w).alloc (Nat.le_refl _) _).alloc (by simp) _⟩
  have hs : i < C.size := by rw [hC]; simpa using hi
  rw [Nat.zero_add, cell_at h1 hs]
  simp [hC]
theorem grouppart_any (w : World) :
    Calls Tryz.prog 63 #[] w (PartP 1 4 [⟨#[103, 114, 111, 117, 112]⟩] w) := by
  go_enter Tryz.func63, Tryz.ntmps63
  go_wp2
  have hx := fun a b c => part_made (w := w) (a := a) (b := b) (c := c) (tC := 9) [⟨#[103, 114, 111, 117, 112]⟩] rfl
  refine bodyPost_ret (part_res rfl rfl (hx _ _ _).1) rfl ?_
  exact ⟨_, _, rfl, (hx _ _ _).2.1, by omega, (hx _ _ _).2.2⟩
theorem lockpart_any (w : World) :
    Calls Tryz.prog 65 #[] w (PartP 0 8 [⟨#[108, 111, 99, 107]⟩, ⟨#[115, 104, 97, 114, 101, 100]⟩] w) := by
  go_enter Tryz.func65, Tryz.ntmps65
  go_wp2
  have hx := fun a b c => part_made (w := w) (a := a) (b := b) (c := c) (tC := 9) [⟨#[108, 111, 99, 107]⟩, ⟨#[115, 104, 97, 114, 101, 100]⟩] rfl
  refine bodyPost_ret (part_res rfl rfl (hx _ _ _).1) rfl ?_
  exact ⟨_, _, rfl, (hx _ _ _).2.1, by omega, (hx _ _ _).2.2⟩
theorem progpart_any (w : World) :
    Calls Tryz.prog 66 #[] w (PartP 1 8 [⟨#[112, 114, 111, 103]⟩] w) := by
  go_enter Tryz.func66, Tryz.ntmps66
  go_wp2
  have hx := fun a b c => part_made (w := w) (a := a) (b := b) (c := c) (tC := 9) [⟨#[112, 114, 111, 103]⟩] rfl
  refine bodyPost_ret (part_res rfl rfl (hx _ _ _).1) rfl ?_
  exact ⟨_, _, rfl, (hx _ _ _).2.1, by omega, (hx _ _ _).2.2⟩
end Go.Proofs.YtmcfjlkjijaflaaGreatDoor
