/-
  The document's is, Name, Limits, One.
  The document's One, May.
  The document's May.
  What Parse answers; steps of the document's.
-/
import Derived.Test.YtmcfjlkjijaflaaDoorGS

/- The document's is, Name, Limits, One. -/
namespace Go.Proofs.YtmcfjlkjijaflaaDoor
open Go.RowKit

/-- Is that word at a place? -/
theorem is_any (ao : Option Addr) (b off cap : Nat) (L : List Wd) (a : Nat) (k : Int) (s : ByteArray) (w : World) (h : WArg w ao b off L) (hl : L.length ≤ 100000) :
    Calls Tryd.prog 51 #[.slice ao L.length cap, .int .i64 a, .int .i64 k, .string s] w fun e w' => e = .returned (.bool (isR L a k s.data.toList)) ∧ w' = w := by
  have HA := Lib.hid h
  obtain ⟨n, hn⟩ : ∃ n, L.length = n := ⟨_, rfl⟩
  have HN := Lib.hid hn
  rw [hn] at hl ⊢
  clear h hn
  by_cases hlt : a < n
  · have hlt' : a < L.length := by rw [HN.out]; exact hlt
    obtain ⟨rfl, hb⟩ := HA.out.at_ (by omega)
    obtain ⟨x0, x1, x2, x3⟩ := HA.out.cells a hlt'
    have e : isR L a k s.data.toList = (decide (L[a].1 = k) && decide (L[a].2.1 = s.data.toList)) := by
      unfold isR; rw [List.getElem?_eq_getElem hlt']
    rw [e]
    obtain ⟨⟨k1, t1, m, p⟩, hx⟩ : ∃ x, L[a] = x := ⟨_, rfl⟩
    rw [hx] at x0 x1 ⊢
    simp only at x0 x1 ⊢
    clear x2 x3 e
    by_cases hk : k1 = k
    · subst hk
      by_cases ht : t1 = s.data.toList
      · have ht2 : (⟨t1.toArray⟩ : ByteArray) = s := by rw [ht]
        rw [ht2] at x1
        go_enter Tryd.func51, Tryd.ntmps51
        go_wp2
        go_ret
        simp [ht]
      · go_enter Tryd.func51, Tryd.ntmps51
        go_wp2
        go_ret
        simp [ht, Lib.toList_data]
    · go_enter Tryd.func51, Tryd.ntmps51
      go_wp2
      go_ret
      simp [hk]
  · have e : isR L a k s.data.toList = false := by
      unfold isR; rw [List.getElem?_eq_none (by rw [HN.out]; omega)]
    rw [e]
    go_enter Tryd.func51, Tryd.ntmps51
    go_wp2
    go_ret
    exact ⟨rfl, rfl⟩
theorem rname_out (k : Int) (hk : k < 0 ∨ 11 < k) (h0 : -9223372036854775808 ≤ k) (h1 : k ≤ 9223372036854775807) (w : World) :
    Calls Tryd.prog 15 #[.int .i64 k] w fun e w' => e = .returned (.string ⟨(nameR k).toArray⟩) ∧ Below w.heap.size w w' := by
  have e : nameR k = [] := by unfold nameR; rw [if_neg (by omega)]
  rw [e]
  clear e
  rcases hk with hk | hk
  · go_enter Tryd.func15, Tryd.ntmps15
    go_wp2
    go_ret
    exact ⟨rfl, (Below.refl _ w).alloc (Nat.le_refl _) _⟩
  · go_enter Tryd.func15, Tryd.ntmps15
    go_wp2
    go_ret
    exact ⟨rfl, (Below.refl _ w).alloc (Nat.le_refl _) _⟩
set_option maxHeartbeats 12800000 in
theorem rname_in (k : Int) (h0 : 0 ≤ k) (h1 : k ≤ 11) (w : World) :
    Calls Tryd.prog 15 #[.int .i64 k] w fun e w' => e = .returned (.string ⟨(nameR k).toArray⟩) ∧ Below w.heap.size w w' := by
  have : k = 0 ∨ k = 1 ∨ k = 2 ∨ k = 3 ∨ k = 4 ∨ k = 5 ∨ k = 6 ∨ k = 7 ∨ k = 8 ∨ k = 9 ∨ k = 10 ∨ k = 11 := by omega
  rcases this with h | h | h | h | h | h | h | h | h | h | h | h <;> subst h <;>
  · go_enter Tryd.func15, Tryd.ntmps15
    go_wp2
    go_ret
    exact ⟨rfl, (Below.refl _ w).alloc (Nat.le_refl _) _⟩
/-- The name of any kind. -/
theorem rname_any (k : Int) (h0 : -9223372036854775808 ≤ k) (h1 : k ≤ 9223372036854775807) (w : World) :
    Calls Tryd.prog 15 #[.int .i64 k] w fun e w' => e = .returned (.string ⟨(nameR k).toArray⟩) ∧ Below w.heap.size w w' := by
  by_cases h : 0 ≤ k ∧ k ≤ 11
  · exact rname_in k h.1 h.2 w
  · exact rname_out k (by omega) h0 h1 w
/-- The least and the greatest A of any kind. -/
theorem rlim_any (k : Int) (w : World) :
    Calls Tryd.prog 48 #[.int .i64 k] w fun e w' => e = .returned (.tuple #[.int .i64 (limR k).1, .int .i64 (limR k).2]) ∧ w' = w := by
  by_cases h1 : k = 1
  · subst h1
    go_enter Tryd.func48, Tryd.ntmps48
    go_wp2
    go_ret2
    exact ⟨rfl, rfl⟩
  · by_cases h2 : 2 ≤ k ∧ k ≤ 6
    · have e : limR k = (0, 7) := by unfold limR; rw [if_neg h1, if_pos (Or.inl h2)]
      obtain ⟨h2, h3⟩ := h2
      rw [e]
      go_enter Tryd.func48, Tryd.ntmps48
      go_wp2
      go_ret2
      exact ⟨rfl, rfl⟩
    · by_cases h9 : k = 9
      · subst h9
        go_enter Tryd.func48, Tryd.ntmps48
        go_wp2
        go_ret2
        exact ⟨rfl, rfl⟩
      · by_cases h7 : k = 7
        · subst h7
          go_enter Tryd.func48, Tryd.ntmps48
          go_wp2
          go_ret2
          exact ⟨rfl, rfl⟩
        · by_cases h10 : k = 10
          · subst h10
            go_enter Tryd.func48, Tryd.ntmps48
            go_wp2
            go_ret2
            exact ⟨rfl, rfl⟩
          · have e : limR k = (-1, -1) := by unfold limR; rw [if_neg h1, if_neg (by omega), if_neg h7, if_neg h10]
            rw [e]
            by_cases hlt : k < 2
            · go_enter Tryd.func48, Tryd.ntmps48
              go_wp2
              go_ret2
              exact ⟨rfl, rfl⟩
            · have hgt : ¬ k ≤ 6 := by omega
              have hgt2 : decide (k ≤ 6) = false := by simpa using hgt
              have hk9 : (k == 9) = false := by simpa using h9
              go_enter Tryd.func48, Tryd.ntmps48
              go_wp2
              go_ret2
              exact ⟨rfl, rfl⟩
end Go.Proofs.YtmcfjlkjijaflaaDoor

/- The document's One, May. -/
namespace Go.Proofs.YtmcfjlkjijaflaaDoor
open Go.RowKit

theorem op_cells {w : World} {B : Nat} {a b c : Value} {t : TypeId} (h : w.heap[B]? = some (.cells #[a, b, c] t (0, 0))) :
    w.cell? ⟨B, 0, none⟩ = some a ∧ w.cell? ⟨B, 1, none⟩ = some b ∧ w.cell? ⟨B, 2, none⟩ = some c := by
  refine ⟨?_, ?_, ?_⟩ <;> simp [World.cell?, h]
theorem two_cells {w : World} {B : Nat} {a b : Value} {t : TypeId} (h : w.heap[B]? = some (.cells #[a, b] t (0, 0))) :
    w.cell? ⟨B, 0, none⟩ = some a ∧ w.cell? ⟨B, 1, none⟩ = some b := by
  refine ⟨?_, ?_⟩ <;> simp [World.cell?, h]
/-- Behind a call that made memory, the box. -/
theorem box_kept {w w2 : World} {X : Obj} (hb : Below (w.alloc X).heap.size (w.alloc X) w2) : w2.heap[w.heap.size]? = some X ∧ Below w.heap.size w w2 := by
  refine ⟨(hb.block _ (by simp)).trans (heap_alloc_new w _), ((Below.refl _ w).alloc (Nat.le_refl _) _).trans (hb.mono (by simp))⟩
theorem bool_iff {x y : Bool} (h : x = true ↔ y = true) : Ending.returned (.bool x) = .returned (.bool y) := by rw [Bool.eq_iff_iff.2 h]
set_option maxHeartbeats 1600000 in
theorem rone_any (k a b : Int) (h0 : -9223372036854775808 ≤ k) (h1 : k ≤ 9223372036854775807) (w : World) :
    Calls Tryd.prog 64 #[.agg #[.int .i64 k, .int .i64 a, .int .i64 b]] w fun e w' => e = .returned (.bool (opMay (k, a, b))) ∧ Below w.heap.size w w' := by
  obtain ⟨lo, hi, hl⟩ : ∃ lo hi, limR k = (lo, hi) := ⟨_, _, rfl⟩
  have hl2 := fun W => rlim_any k W
  simp only [hl] at hl2
  have HL := Lib.hid hl2
  have hn := fun W => rname_any k h0 h1 W
  obtain ⟨tx, htx⟩ : ∃ tx : ByteArray, ⟨(nameR k).toArray⟩ = tx := ⟨_, rfl⟩
  have ht : tx.toList = nameR k := by rw [Lib.toList_data, ← htx]
  simp only [htx] at hn
  have HN := Lib.hid hn
  clear hn hl2
  by_cases he : nameR k = []
  · have ho : opMay (k, a, b) = false := by unfold opMay; simp [he]
    rw [ho]
    have q1 : (tx.toList == []) = true := by rw [ht, he]; rfl
    have q2 : tx.toList.isEmpty = true := by rw [ht, he]; rfl
    have q0 : tx.toList = [] := by rw [ht, he]
    clear ho he htx ht hl
    go_enter Tryd.func64, Tryd.ntmps64
    go_wp2_with fail
    with_reducible refine (HN.out _).mono ?_
    rintro e w1 ⟨rfl, hb⟩
    have HB := Lib.hid (box_kept hb).2
    clear hb
    go_wp2
    go_ret
    exact ⟨rfl, HB.out⟩
  · have ho : opMay (k, a, b) = (aMay (k, a, b) && bMay (k, a, b)) := by unfold opMay; simp [he]
    rw [ho]
    have q1 : (tx.toList == []) = false := by rw [ht]; simpa using he
    have q2 : tx.toList.isEmpty = false := by rw [ht]; simpa using he
    have q0 : ¬ tx.toList = [] := by rw [ht]; exact he
    unfold aMay bMay
    simp only [hl]
    have hlk : k = 5 → lo = 0 := by
      rintro rfl
      have : limR 5 = (0, 7) := by decide
      rw [this] at hl
      simp only [Prod.mk.injEq] at hl
      exact hl.1.symm
    clear ho he htx ht hl
    by_cases hlo : 0 ≤ lo
    · rw [if_pos hlo]
      by_cases h5 : k = 5
      · rw [if_pos h5]
        have h00 := hlk h5
        subst h00
        subst h5
        clear hlk hlo
        go_enter Tryd.func64, Tryd.ntmps64
        go_wp2_with fail
        with_reducible refine (HN.out _).mono ?_
        rintro e w1 ⟨rfl, hb⟩
        obtain ⟨hx, hb2⟩ := box_kept hb
        have HB := Lib.hid hb2
        obtain ⟨c0, c1, c2⟩ := op_cells hx
        clear hb hx hb2
        go_wp2_with fail
        with_reducible refine (HL.out _).mono ?_
        rintro e w2 ⟨rfl, rfl⟩
        go_wp2
        all_goals
          go_ret
          refine ⟨bool_iff ?_, HB.out⟩
          first
            | (simp; done)
            | (simp; omega)
      · rw [if_neg h5]
        have h5b : (k == 5) = false := by simpa using h5
        clear hlk
        go_enter Tryd.func64, Tryd.ntmps64
        go_wp2_with fail
        with_reducible refine (HN.out _).mono ?_
        rintro e w1 ⟨rfl, hb⟩
        obtain ⟨hx, hb2⟩ := box_kept hb
        have HB := Lib.hid hb2
        obtain ⟨c0, c1, c2⟩ := op_cells hx
        clear hb hx hb2
        go_wp2_with fail
        with_reducible refine (HL.out _).mono ?_
        rintro e w2 ⟨rfl, rfl⟩
        go_wp2
        all_goals
          go_ret
          refine ⟨bool_iff ?_, HB.out⟩
          first
            | (simp; done)
            | (simp; omega)
    · rw [if_neg hlo]
      by_cases h5 : k = 5
      · have := hlk h5
        omega
      · rw [if_neg h5]
        have h5b : (k == 5) = false := by simpa using h5
        clear hlk
        go_enter Tryd.func64, Tryd.ntmps64
        go_wp2_with fail
        with_reducible refine (HN.out _).mono ?_
        rintro e w1 ⟨rfl, hb⟩
        obtain ⟨hx, hb2⟩ := box_kept hb
        have HB := Lib.hid hb2
        obtain ⟨c0, c1, c2⟩ := op_cells hx
        clear hb hx hb2
        go_wp2_with fail
        with_reducible refine (HL.out _).mono ?_
        rintro e w2 ⟨rfl, rfl⟩
        go_wp2
        all_goals
          go_ret
          refine ⟨bool_iff ?_, HB.out⟩
          first
            | (simp; done)
            | (simp; omega)
end Go.Proofs.YtmcfjlkjijaflaaDoor

/- The document's May. -/
namespace Go.Proofs.YtmcfjlkjijaflaaDoor
open Go.RowKit

theorem may_from {f : Bool} {L : List Opn} {i : Nat} (hi : i < L.length) (h : opMay L[i] = false) : mayR (f, L) = false := by
  unfold mayR
  have : L.all opMay = false := by
    rw [List.all_eq_false]
    exact ⟨L[i], List.getElem_mem hi, by simp [h]⟩
  simp only [this]
  simp
theorem may_long {f : Bool} {L : List Opn} (h : 12 < L.length) : mayR (f, L) = false := by
  unfold mayR
  have : decide (L.length ≤ 12) = false := by simp; omega
  simp [this]
theorem may_all {f : Bool} {L : List Opn} {n : Nat} (hn : L.length = n) (h12 : n ≤ 12) (h : ∀ i (hi : i < L.length), opMay L[i] = true) : mayR (f, L) = decide (0 < n) := by
  unfold mayR
  have : L.all opMay = true := by
    rw [List.all_eq_true]
    intro x hx
    obtain ⟨i, hi, rfl⟩ := List.getElem_of_mem hx
    exact h i hi
  simp [this, hn, h12]
def small (x : Int) : Prop := -9223372036854775808 ≤ x ∧ x ≤ 9223372036854775807
set_option maxRecDepth 100000 in
set_option maxHeartbeats 3200000 in
theorem rmay_any (f : Bool) (ao : Option Addr) (b off cap : Nat) (L : List Opn) (w : World) (h : OArg w ao b off L) (hm : L.length ≤ 100000) (hs : ∀ x ∈ L, small x.1) :
    Calls Tryd.prog 36 #[prgV f ao L.length cap] w fun e w' => e = .returned (.bool (mayR (f, L))) ∧ Below w.heap.size w w' := by
  have HA := Lib.hid h
  have HS := Lib.hid hs
  obtain ⟨n, hn⟩ : ∃ n, L.length = n := ⟨_, rfl⟩
  have HN := Lib.hid hn
  rw [hn] at hm ⊢
  obtain ⟨r, hr⟩ : ∃ r, mayR (f, L) = r := ⟨_, rfl⟩
  have HR := Lib.hid hr
  rw [hr]
  clear h hs hn hr
  go_enter Tryd.func36, Tryd.ntmps36
  go_wp2
  go_loopw [3] (fun i' wr => ∃ i : Nat, i ≤ n ∧ i ≤ 12 ∧ i' = .int .i64 i ∧ Hid (Below w.heap.size w wr) ∧ wr.cell? ⟨w.heap.size, 1, none⟩ = some (.slice ao n cap) ∧ w.heap.size < wr.heap.size ∧ Hid (∀ j (hj : j < L.length), j < i → opMay L[j] = true)) (fun i' _ => n - (intOf i').toNat)
  case atStart => exact ⟨0, Nat.zero_le _, by omega, rfl, (Below.refl _ w).alloc (Nat.le_refl _) _, by simp, by simp, fun j _ hj => absurd hj (Nat.not_lt_zero _)⟩
  case round =>
    obtain ⟨i, hi, h12, rfl, HB, c1, hsz, HO⟩ := hrel
    by_cases hlt : i < n
    · by_cases hg : 11 < i
      · have HE : Hid (r = false) := Lib.hid (HR.out.symm.trans (may_long (by rw [HN.out]; omega)))
        have hg2 : (11 : Int) < i := by omega
        go_wp2
        go_ret
        exact ⟨congrArg (fun x => Ending.returned (.bool x)) HE.out.symm, HB.out⟩
      · have hlt' : i < L.length := by rw [HN.out]; exact hlt
        have ha := HA.out.below HB.out
        obtain ⟨rfl, hb⟩ := ha.at_ (by omega)
        obtain ⟨x0, x1, x2⟩ := ha.cells i hlt'
        have hk := HS.out L[i] (List.getElem_mem hlt')
        have HF := Lib.hid (fun h => may_from (f := f) hlt' h)
        have HO2 : Hid (opMay L[i] = true → ∀ j (hj : j < L.length), j < i + 1 → opMay L[j] = true) := Lib.hid (fun hm j hj hji => by
          rcases Nat.lt_or_ge j i with h | h
          · exact HO.out j hj h
          · have : j = i := by omega
            subst this
            exact hm)
        obtain ⟨⟨k, a, c⟩, hx⟩ : ∃ x, L[i] = x := ⟨_, rfl⟩
        rw [hx] at x0 x1 x2 hk HF HO2
        simp only at x0 x1 x2 hk
        have hng : ¬ (11 : Int) < i := by omega
        have HC := Lib.hid (fun W => rone_any k a c hk.1 hk.2 W)
        obtain ⟨q, hq⟩ : ∃ q, opMay (k, a, c) = q := ⟨_, rfl⟩
        rw [hq] at HF HO2
        simp only [hq] at HC
        clear hq hk hx ha
        cases q with
        | false =>
          have HE : Hid (r = false) := Lib.hid (HR.out.symm.trans (HF.out rfl))
          go_wp2_with fail
          with_reducible refine (HC.out _).mono ?_
          rintro e w1 ⟨rfl, hb2⟩
          have hle := HB.out.size
          have HB2 := Lib.hid (HB.out.trans (hb2.mono hle))
          clear hb2
          go_wp2
          go_ret
          exact ⟨congrArg (fun x => Ending.returned (.bool x)) HE.out.symm, HB2.out⟩
        | true =>
          have HO3 := Lib.hid (HO2.out rfl)
          go_wp2_with fail
          with_reducible refine (HC.out _).mono ?_
          rintro e w1 ⟨rfl, hb2⟩
          have hle := HB.out.size
          have HB2 := Lib.hid (HB.out.trans (hb2.mono hle))
          have c1' := (hb2.cell (p := ⟨w.heap.size, 1, none⟩) hsz).trans c1
          have hsz2 : w.heap.size < w1.heap.size := Nat.lt_of_lt_of_le hsz hb2.size
          clear hb2
          go_wp2
          go_roundw
          case rel => exact ⟨i + 1, by omega, by omega, by go_num, HB2, c1', hsz2, HO3⟩
          case measure => simp [intOf]; omega
    · have HE : Hid (r = decide (0 < n)) := Lib.hid (HR.out.symm.trans (may_all HN.out (by omega) (fun j hj => HO.out j hj (by have := HN.out; omega))))
      go_wp2
      go_ret
      refine ⟨?_, HB.out⟩
      rw [HE.out]
      refine bool_iff ?_
      simp
end Go.Proofs.YtmcfjlkjijaflaaDoor

/- What Parse answers; steps of the document's. -/
namespace Go.Proofs.YtmcfjlkjijaflaaDoor
open Go.RowKit

theorem two_stored {w : World} {B : Nat} {a b a' b' : Value} {t : TypeId} (h : w.heap[B]? = some (.cells #[a, b] t (0, 0))) :
    ((w.setCell ⟨B, 0, none⟩ a').setCell ⟨B, 1, none⟩ b').heap[B]? = some (.cells #[a', b'] t (0, 0)) := by
  rw [heap_setCell_same _ _ _ _ _ _ (heap_setCell_same _ _ _ _ _ _ h)]
  rfl
theorem results_prg {fn : Func} {p u v : Tmp} {ty : TypeId} (h : fn.results = #[.cell p ty, .tmp u, .tmp v]) (tmps : Array Value) (P : Program) (w : World) :
    (results fn tmps).run P w =
      ((asAddr (tmps.getD p undef)).run P w).andThen fun a w₁ => ((loadVar ty a).run P w₁).andThen fun x w₂ => .ok (.tuple #[x, tmps.getD u undef, tmps.getD v undef]) w₂ := by
  simp only [results, h]
  simp [Sem.run_bind, Result.andThen]
theorem prg_result2 {fn : Func} {p u v : Tmp} (hf : fn.results = #[.cell p 24, .tmp u, .tmp v]) {tmps : Array Value} {w : World} {B : Nat} {a b x y : Value} (hp : tmps.getD p undef = .pointer (some ⟨B, 0, none⟩)) (hu : tmps.getD u undef = x) (hv : tmps.getD v undef = y) (h : w.heap[B]? = some (.cells #[a, b] 24 (0, 0))) :
    (results fn tmps).run Tryd.prog w = .ok (.tuple #[.agg #[a, b], x, y]) w := by
  obtain ⟨h0, h1⟩ := two_cells h
  rw [results_prg hf, hp, hu, hv]
  simp [loadVar, go_sem, h0, h1]
theorem not_frozen {w : World} {B : Nat} {a : Array Value} {t : TypeId} (h : w.heap[B]? = some (.cells a t (0, 0))) (o : Nat) : w.frozen? ⟨B, o, none⟩ = false := by
  simp [World.frozen?, h]
/-- What Parse answers. -/
def ParseP (R : Prg × Int × Int) (w : World) (e : Ending) (w' : World) : Prop :=
  ∃ v, e = .returned (.tuple #[.agg #[.bool R.1.1, v], .int .i64 R.2.1, .int .i64 R.2.2]) ∧ ORow w.heap.size w' v R.1.2 ∧ Below w.heap.size w w'
theorem parse_bad {R : Prg × Int × Int} {x y : Int} (h : R = ((false, []), x, y)) {w w' : World} (hb : Below w.heap.size w w') : ParseP R w (.returned (.tuple #[.agg #[.bool false, .slice none 0 0], .int .i64 x, .int .i64 y])) w' := by
  subst h
  exact ⟨_, rfl, World.ownsRow_nil _ _ _ _, hb⟩
theorem parse_good {R : Prg × Int × Int} {f : Bool} {ops : List Opn} {x : Int} (h : R = ((f, ops), x, 0)) {w w' : World} {v : Value} (hr : ORow w.heap.size w' v ops) (hb : Below w.heap.size w w') : ParseP R w (.returned (.tuple #[.agg #[.bool f, v], .int .i64 x, .int .i64 0])) w' := by
  subst h
  exact ⟨_, rfl, hr, hb⟩
/-- What is left, told by the ops' answer. -/
def tailP (f : Bool) : Except Bad (List Opn × Nat) → Prg × Int × Int
  | .error e => ((false, []), e.1, e.2)
  | .ok (ops, n) => ((f, ops), n, 0)
theorem parse_out {L : List Wd} {at_ : Int} (h : at_ < 0 ∨ (L.length : Int) < at_) : parseR L at_ = ((false, []), 0, 5) := by
  unfold parseR; rw [if_pos h]
theorem parse_prog {L : List Wd} {a : Nat} (h : a ≤ L.length) (h1 : isR L a 1 progB = false) : parseR L a = ((false, []), (a : Int), 5) := by
  unfold parseR; rw [if_neg (by omega), Int.toNat_natCast, h1]; rfl
theorem parse_open {L : List Wd} {a a1 : Nat} {f : Bool} (h : a ≤ L.length) (h1 : isR L a 1 progB = true) (ho : openR L (a + 1) = (f, a1)) (h2 : isR L a1 3 [123] = false) : parseR L a = ((false, []), (a1 : Int), 5) := by
  unfold parseR; rw [if_neg (by omega), Int.toNat_natCast, h1, ho]
  simp only [h2]; rfl
theorem parse_ops {L : List Wd} {a a1 : Nat} {f : Bool} (h : a ≤ L.length) (h1 : isR L a 1 progB = true) (ho : openR L (a + 1) = (f, a1)) (h2 : isR L a1 3 [123] = true) : parseR L a = tailP f (opsR L 13 (a1 + 1) []) := by
  unfold parseR; rw [if_neg (by omega), Int.toNat_natCast, h1, ho]
  simp only [h2]
  simp only [Bool.not_true, Bool.false_eq_true, if_false]
  cases opsR L 13 (a1 + 1) [] <;> rfl
theorem is_lt {L : List Wd} {a : Nat} {k : Int} {t : List By} (h : isR L a k t = true) : a < L.length := by
  unfold isR at h
  split at h
  · next e => exact (List.getElem?_eq_some_iff.1 e).1
  · cases h
theorem is_empty {L : List Wd} {a : Nat} {k : Int} {t : List By} (h : L.length ≤ a) : isR L a k t = false := by
  unfold isR; rw [List.getElem?_eq_none h]
/-- One round over the ops. -/
theorem ops_end {L : List Wd} {a : Nat} {ops : List Opn} (hl : ops.length ≤ 12) (h : isR L a 3 [125] = true) : opsR L (13 - ops.length) a ops = if ops = [] then .error (a, 4) else .ok (ops, a + 1) := by
  rw [show 13 - ops.length = (12 - ops.length) + 1 by omega, opsR, if_pos h]
theorem ops_none {L : List Wd} {a : Nat} {ops : List Opn} (hl : ops.length ≤ 12) (h : isR L a 3 [125] = false) (hk : kindR L a = 0) : opsR L (13 - ops.length) a ops = .error (a, 5) := by
  rw [show 13 - ops.length = (12 - ops.length) + 1 by omega, opsR, if_neg (by simp [h]), if_pos hk]
theorem ops_long {L : List Wd} {a : Nat} {ops : List Opn} (hl : ops.length = 12) (h : isR L a 3 [125] = false) (hk : ¬ kindR L a = 0) : opsR L (13 - ops.length) a ops = .error (a, 6) := by
  rw [show 13 - ops.length = (12 - ops.length) + 1 by omega, opsR, if_neg (by simp [h]), if_neg hk, if_pos hl]
theorem ops_fail {L : List Wd} {a : Nat} {ops : List Opn} (hl : ops.length < 12) (h : isR L a 3 [125] = false) (hk : ¬ kindR L a = 0) {e : Bad} (ho : opR L (a + 1) (kindR L a) = .error e) : opsR L (13 - ops.length) a ops = .error e := by
  rw [show 13 - ops.length = (12 - ops.length) + 1 by omega, opsR, if_neg (by simp [h]), if_neg hk, if_neg (by omega), ho]
theorem ops_more {L : List Wd} {a a2 : Nat} {ops : List Opn} {o : Opn} (hl : ops.length < 12) (h : isR L a 3 [125] = false) (hk : ¬ kindR L a = 0) (ho : opR L (a + 1) (kindR L a) = .ok (o, a2)) : opsR L (13 - ops.length) a ops = opsR L (13 - (ops ++ [o]).length) a2 (ops ++ [o]) := by
  rw [show 13 - ops.length = (12 - ops.length) + 1 by omega, opsR, if_neg (by simp [h]), if_neg hk, if_neg (by omega), ho]
  simp only [List.length_append, List.length_singleton]
  rw [show 13 - (ops.length + 1) = 12 - ops.length by omega]
theorem op_arg1 {L : List Wd} {a : Nat} {k : Int} {e : Bad} (h : arg1R L a k = .error e) : opR L a k = .error e := by unfold opR; rw [h]
theorem op_arg2 {L : List Wd} {a a1 : Nat} {k x : Int} {e : Bad} (h : arg1R L a k = .ok (x, a1)) (h2 : arg2R L a1 k = .error e) : opR L a k = .error e := by
  unfold opR; rw [h]; simp only [h2]
theorem op_semi {L : List Wd} {a a1 a2 : Nat} {k x y : Int} (h : arg1R L a k = .ok (x, a1)) (h2 : arg2R L a1 k = .ok (y, a2)) (h3 : isR L a2 3 [59] = false) : opR L a k = .error (a2, 5) := by
  unfold opR; rw [h]; simp only [h2, h3]; rfl
theorem op_done {L : List Wd} {a a1 a2 : Nat} {k x y : Int} (h : arg1R L a k = .ok (x, a1)) (h2 : arg2R L a1 k = .ok (y, a2)) (h3 : isR L a2 3 [59] = true) : opR L a k = .ok ((k, x, y), a2 + 1) := by
  unfold opR; rw [h]; simp only [h2, h3]; rfl
theorem arg_none {L : List Wd} {a : Nat} {lo hi : Int} (h : L.length ≤ a) : argR L a lo hi = .error (a, 5) := by
  unfold argR; rw [List.getElem?_eq_none h]
theorem arg_kind {L : List Wd} {a : Nat} {lo hi : Int} (h : a < L.length) (hk : ¬ L[a].1 = 2) : argR L a lo hi = .error (a, 5) := by
  unfold argR; rw [List.getElem?_eq_getElem h]; simp only; rw [if_neg hk]
theorem arg_range {L : List Wd} {a : Nat} {lo hi : Int} (h : a < L.length) (hk : L[a].1 = 2) (hr : L[a].2.2.1 < lo ∨ hi < L[a].2.2.1) : argR L a lo hi = .error (a, 1) := by
  unfold argR; rw [List.getElem?_eq_getElem h]; simp only; rw [if_pos hk, if_pos hr]
theorem arg_ok {L : List Wd} {a : Nat} {lo hi : Int} (h : a < L.length) (hk : L[a].1 = 2) (hr : ¬ (L[a].2.2.1 < lo ∨ hi < L[a].2.2.1)) : argR L a lo hi = .ok (L[a].2.2.1, a + 1) := by
  unfold argR; rw [List.getElem?_eq_getElem h]; simp only; rw [if_pos hk, if_neg hr]
abbrev zeroP : Obj := .cells #[.bool false, .slice none 0 0] 24
theorem start_facts (w : World) (f : Bool) :
    ((w.alloc zeroP).alloc (.cells #[.bool f, .slice none 0 0] 24)).heap[w.heap.size]? = some zeroP
    ∧ ((w.alloc zeroP).alloc (.cells #[.bool f, .slice none 0 0] 24)).heap[w.heap.size + 1]? = some (.cells #[.bool f, .slice none 0 0] 24)
    ∧ Below w.heap.size w ((w.alloc zeroP).alloc (.cells #[.bool f, .slice none 0 0] 24))
    ∧ ((w.alloc zeroP).alloc (.cells #[.bool f, .slice none 0 0] 24)).heap.size = w.heap.size + 2 := by
  refine ⟨(Below.heap_alloc _ _ _ (by simp)).trans (heap_alloc_new w _), ?_, ((Below.refl _ w).alloc (Nat.le_refl _) _).alloc (by simp) _, by simp⟩
  have h := heap_alloc_new (w.alloc zeroP) (.cells #[.bool f, .slice none 0 0] 24)
  rw [show (w.alloc zeroP).heap.size = w.heap.size + 1 by simp] at h
  exact h
/-- What holds ahead of each op. -/
structure PInv (L : List Wd) (n : Nat) (f : Bool) (R : Prg × Int × Int) (w wr : World) (c : Nat) (ops : List Opn) (v : Value) : Prop where
  len : ops.length ≤ 12
  ans : R = tailP f (opsR L (13 - ops.length) c ops)
  res : wr.heap[w.heap.size]? = some zeroP
  prg : wr.heap[w.heap.size + 1]? = some (.cells #[.bool f, v] 24)
  row : ORow (w.heap.size + 2) wr v ops
  bel : Below w.heap.size w wr
  siz : w.heap.size + 2 ≤ wr.heap.size
theorem PInv.start {L : List Wd} {n : Nat} {f : Bool} {R : Prg × Int × Int} {w : World} {c : Nat} (h : R = tailP f (opsR L 13 c [])) :
    PInv L n f R w ((w.alloc zeroP).alloc (.cells #[.bool f, .slice none 0 0] 24)) c [] (.slice none 0 0) := by
  obtain ⟨h1, h2, h3, h4⟩ := start_facts w f
  exact ⟨by simp, h, h1, h2, World.ownsRow_nil _ _ _ _, h3, by omega⟩
/-- Where only new memory was made. -/
theorem PInv.more {L : List Wd} {n : Nat} {f : Bool} {R : Prg × Int × Int} {w wr wr' : World} {c : Nat} {ops : List Opn} {v : Value} (h : PInv L n f R w wr c ops v) (hb : Below wr.heap.size wr wr') :
    PInv L n f R w wr' c ops v :=
  ⟨h.len, h.ans, (hb.block _ (by have := h.siz; omega)).trans h.res, (hb.block _ (by have := h.siz; omega)).trans h.prg, row_below h.row hb, h.bel.trans (hb.mono (by have := h.siz; omega)), by have := h.siz; have := hb.size; omega⟩
theorem row_base {w : World} {base base' : Nat} {e : TypeId} {size : Nat} {v : Value} {n : Nat} {xs : List Value} (h : w.ownsRow base e size v n xs) (hb : base' ≤ base) : w.ownsRow base' e size v n xs := by
  refine ⟨h.1, ?_⟩
  rcases h.2 with h2 | ⟨g, cap, cur, rfl, hg, rest⟩
  · exact .inl h2
  · exact .inr ⟨g, cap, cur, rfl, Nat.le_trans hb hg, rest⟩
theorem row_same {w w' : World} {base : Nat} {e : TypeId} {size : Nat} {v : Value} {n : Nat} {xs : List Value} (h : w.ownsRow base e size v n xs)
    (hs : ∀ k, base ≤ k → k < w.heap.size → w'.heap[k]? = w.heap[k]?) : w'.ownsRow base e size v n xs := by
  refine ⟨h.1, ?_⟩
  rcases h.2 with h2 | ⟨g, cap, cur, rfl, hb, hg, rest⟩
  · exact .inl h2
  · exact .inr ⟨g, cap, cur, rfl, hb, (hs g hb (lt_of_block hg)).trans hg, rest⟩
/-- The answer stored. -/
theorem PInv.ended {L : List Wd} {n : Nat} {f : Bool} {R : Prg × Int × Int} {w wr : World} {c : Nat} {ops : List Opn} {v : Value} (h : PInv L n f R w wr c ops v) (x y : Value) :
    ((wr.setCell ⟨w.heap.size, 0, none⟩ x).setCell ⟨w.heap.size, 1, none⟩ y).heap[w.heap.size]? = some (.cells #[x, y] 24 (0, 0))
    ∧ Below w.heap.size w ((wr.setCell ⟨w.heap.size, 0, none⟩ x).setCell ⟨w.heap.size, 1, none⟩ y)
    ∧ ORow w.heap.size ((wr.setCell ⟨w.heap.size, 0, none⟩ x).setCell ⟨w.heap.size, 1, none⟩ y) v ops := by
  refine ⟨two_stored h.res, (h.bel.setCell (Nat.le_refl _) _).setCell (Nat.le_refl _) _, row_base (row_same h.row fun k hk _ => ?_) (Nat.le_add_right _ 2)⟩
  exact (Below.heap_setCell _ _ _ _ (by simp; omega)).trans (Below.heap_setCell _ _ _ _ (by simp; omega))
/-- One op more. -/
theorem PInv.push {L : List Wd} {n : Nat} {f : Bool} {R : Prg × Int × Int} {w wx w4 : World} {c c' : Nat} {ops : List Opn} {o : Opn} {v v' : Value} (h : PInv L n f R w wx c ops v)
    (hown : ORow (w.heap.size + 2) w4 v' (ops ++ [o])) (hg : wx.grownBy w4 v.ownBlock) (hR : R = tailP f (opsR L (13 - (ops ++ [o]).length) c' (ops ++ [o]))) (hl : ops.length < 12) :
    PInv L n f R w (w4.setCell ⟨w.heap.size + 1, 1, none⟩ v') c' (ops ++ [o]) v' := by
  have hb : Below (w.heap.size + 2) wx w4 := app_below (Below.refl _ _) h.siz (Nat.le_refl _) h.row hg
  have hs4 : w.heap.size + 2 ≤ w4.heap.size := Nat.le_trans h.siz hb.size
  refine ⟨by simp; omega, hR, ?_, ?_, row_same hown fun k hk _ => Below.heap_setCell _ _ _ _ (by simp; omega), (h.bel.trans (hb.mono (by omega))).setCell (by simp) _, by simp; omega⟩
  · exact (Below.heap_setCell _ _ _ _ (by simp)).trans ((hb.block _ (by omega)).trans h.res)
  · rw [heap_setCell_same _ _ _ _ _ _ ((hb.block _ (by omega)).trans h.prg)]
    rfl
/-- What holds at the two numbers of an op. -/
structure AInv (L : List Wd) (c : Nat) (K lo hi : Int) (wk wr : World) (q : Nat) (x y : Int) (d : Nat) (lo' hi' : Int) : Prop where
  cell : wr.heap[wk.heap.size]? = some (.cells #[.int .i64 K, .int .i64 x, .int .i64 y] 39 (0, 0))
  bel : Below wk.heap.size wk wr
  st : (q = 0 ∧ d = c + 1 ∧ x = 0 ∧ y = 0 ∧ lo' = lo ∧ hi' = hi) ∨ (q = 1 ∧ arg1R L (c + 1) K = .ok (x, d) ∧ y = 0) ∨ (q = 2 ∧ ∃ d1, arg1R L (c + 1) K = .ok (x, d1) ∧ arg2R L d1 K = .ok (y, d))
theorem op_stored1 {w : World} {B : Nat} {a b c b' : Value} {t : TypeId} (h : w.heap[B]? = some (.cells #[a, b, c] t (0, 0))) :
    (w.setCell ⟨B, 1, none⟩ b').heap[B]? = some (.cells #[a, b', c] t (0, 0)) := by
  rw [heap_setCell_same _ _ _ _ _ _ h]
  rfl
theorem op_stored2 {w : World} {B : Nat} {a b c c' : Value} {t : TypeId} (h : w.heap[B]? = some (.cells #[a, b, c] t (0, 0))) :
    (w.setCell ⟨B, 2, none⟩ c').heap[B]? = some (.cells #[a, b, c'] t (0, 0)) := by
  rw [heap_setCell_same _ _ _ _ _ _ h]
  rfl
theorem kind_yes {L : List Wd} {c j : Nat} (hj : 1 ≤ j) (h : isR L c 1 (nameR (j : Int)) = true) : kindUp L c j = j := by
  obtain ⟨i, rfl⟩ : ∃ i, j = i + 1 := ⟨j - 1, by omega⟩
  rw [kindUp, if_pos h]
theorem kind_no {L : List Wd} {c j : Nat} (hj : 1 ≤ j) (h : isR L c 1 (nameR (j : Int)) = false) : kindUp L c j = kindUp L c (j - 1) := by
  obtain ⟨i, rfl⟩ : ∃ i, j = i + 1 := ⟨j - 1, by omega⟩
  rw [kindUp, if_neg (by rw [h]; exact Bool.false_ne_true), Nat.add_sub_cancel]
theorem arg1_skip {L : List Wd} {c : Nat} {K lo hi : Int} (hl : limR K = (lo, hi)) (h : lo < 0) : arg1R L c K = .ok (0, c) := by
  unfold arg1R; rw [hl]; simp [h]
theorem arg1_arg {L : List Wd} {c : Nat} {K lo hi : Int} (hl : limR K = (lo, hi)) (h : ¬ lo < 0) : arg1R L c K = argR L c lo hi := by
  unfold arg1R; rw [hl]; simp [h]
theorem arg2_skip {L : List Wd} {c : Nat} {K : Int} (h : ¬ K = 5) : arg2R L c K = .ok (0, c) := by unfold arg2R; rw [if_neg h]
theorem arg2_arg {L : List Wd} {c : Nat} {K : Int} (h : K = 5) : arg2R L c K = argR L c 1 64 := by unfold arg2R; rw [if_pos h]
theorem arg_le {L : List Wd} {c d : Nat} {lo hi x : Int} (h : argR L c lo hi = .ok (x, d)) : d ≤ L.length := by
  unfold argR at h
  split at h
  · next e =>
    have := (List.getElem?_eq_some_iff.1 e).1
    split at h
    · split at h
      · cases h
      · simp only [Except.ok.injEq, Prod.mk.injEq] at h
        omega
    · cases h
  · cases h
theorem ans_fail {L : List Wd} {n : Nat} {f : Bool} {R : Prg × Int × Int} {w wr : World} {c : Nat} {ops : List Opn} {v : Value} {e : Bad} (h : PInv L n f R w wr c ops v)
    (hl : ops.length < 12) (h1 : isR L c 3 [125] = false) (hk : ¬ kindR L c = 0) (ho : opR L (c + 1) (kindR L c) = .error e) : R = ((false, []), (e.1 : Int), e.2) :=
  h.ans.trans (by rw [ops_fail hl h1 hk ho]; rfl)
theorem kind_lt {L : List Wd} {c : Nat} : ∀ n, ¬ kindUp L c n = 0 → c < L.length
  | 0, h => absurd rfl h
  | n + 1, h => by
    rw [kindUp] at h
    split at h
    · next e => exact is_lt e
    · exact kind_lt n h
theorem AInv.start {L : List Wd} {c : Nat} {K lo hi : Int} (wk : World) : AInv L c K lo hi wk (wk.alloc (.cells #[.int .i64 K, .int .i64 0, .int .i64 0] 39)) 0 0 0 (c + 1) lo hi :=
  ⟨heap_alloc_new wk _, (Below.refl _ wk).alloc (Nat.le_refl _) _, .inl ⟨rfl, rfl, rfl, rfl, rfl, rfl⟩⟩
theorem PInv.grown {L : List Wd} {n : Nat} {f : Bool} {R : Prg × Int × Int} {w wx w4 : World} {c : Nat} {ops : List Opn} {v : Value} (h : PInv L n f R w wx c ops v) (hg : wx.grownBy w4 v.ownBlock) :
    w4.heap[w.heap.size + 1]? = some (.cells #[.bool f, v] 24 (0, 0)) := by
  have hb : Below (w.heap.size + 2) wx w4 := app_below (Below.refl _ _) h.siz (Nat.le_refl _) h.row hg
  exact (hb.block _ (by omega)).trans h.prg
theorem op_new (W : World) (a b c : Value) (t : TypeId) : ∀ (j : Nat) (u : Value), [a, b, c][j]? = some u → (W.alloc (.cells #[a, b, c] t)).cell? ((⟨W.heap.size, 0, none⟩ : Addr).add j) = some u := by
  intro j u hj
  rw [Addr.add_lit]
  match j, hj with
  | 0, hj => simp at hj; subst hj; simp
  | 1, hj => simp at hj; subst hj; simp
  | 2, hj => simp at hj; subst hj; simp
end Go.Proofs.YtmcfjlkjijaflaaDoor
