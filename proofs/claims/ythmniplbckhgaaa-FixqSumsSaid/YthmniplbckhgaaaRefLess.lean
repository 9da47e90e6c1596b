/-
  The reference's Less and Minus.
-/
import Derived.Test.YthmniplbckhgaaaRefSum
namespace Go.Proofs.Ythmniplbckhgaaa
open Go.RowKit Go.Shelf

/-- From k up to n the digits are the same. -/
def Same (A B : List Int) (k n : Nat) : Prop := ∀ j, k ≤ j → j < n → dg A j = dg B j

set_option maxHeartbeats 800000 in
theorem less_any {w : World} {a b : Value} {X Y : Int} {p q : Nat} (ha : Num w a X p) (hb : Num w b Y q) (hp : p ≤ 1000) (hq : q ≤ 1000) :
    Calls Try.prog 33 #[a, b] w fun e w' => e = .returned (.int .i64 (ordW X Y)) ∧ w = w' := by
  obtain ⟨A, da, ga, va, la⟩ := ha.digs
  obtain ⟨B, db, gb, vb, lb⟩ := hb.digs
  clear ha hb
  have hn1 : A.length ≤ max A.length B.length := by omega
  have hn2 : B.length ≤ max A.length B.length := by omega
  have hn3 : max A.length B.length ≤ 1000 := by omega
  have HL := Lib.hid (longer_any da db)
  generalize max A.length B.length = n at HL hn1 hn2 hn3
  have EX : Hid (pv (dg A) n = X) := by rw [← va]; exact pv_ext hn1
  have EY : Hid (pv (dg B) n = Y) := by rw [← vb]; exact pv_ext hn2
  clear va vb
  go_enter Try.func33, Try.ntmps33
  go_wp2_with (go_at_call 37; refine HL.out.mono ?_; rintro e w1 ⟨rfl, rfl⟩)
  go_loop [5] (fun i => ∃ c : Int, i = .int .i64 c ∧ -1 ≤ c ∧ c ≤ (n : Int) - 1 ∧ Same A B (c + 1).toNat n) (fun i => (intOf i + 1).toNat)
  case atStart => exact ⟨_, rfl, by omega, by omega, fun j a b => by omega⟩
  case round =>
    obtain ⟨c, rfl, hk0, hk, hs⟩ := hrel
    by_cases h0 : 0 ≤ c
    · obtain ⟨i, rfl⟩ := Int.eq_ofNat_of_zero_le h0
      have HA := Lib.hid (at_any da i (by omega))
      have HB := Lib.hid (at_any db i (by omega))
      have hs' : Same A B (i + 1) n := fun j a b => hs j (by omega) b
      clear hs
      by_cases h1 : dg A i < dg B i
      · have hlt := less_at (n := n) ga gb (by omega) (fun j a b => hs' j (by omega) b) h1
        go_wp2_with fail
        refine HA.out.mono ?_
        rintro e w1 ⟨rfl, rfl⟩
        go_wp2_with fail
        refine HB.out.mono ?_
        rintro e w1 ⟨rfl, rfl⟩
        go_wp2
        go_ret
        rw [EX.out, EY.out] at hlt
        rw [ordW_lt hlt]
        exact ⟨rfl, rfl⟩
      · by_cases h2 : dg B i < dg A i
        · have hlt := less_at (n := n) gb ga (by omega) (fun j a b => (hs' j (by omega) b).symm) h2
          go_wp2_with fail
          refine HA.out.mono ?_
          rintro e w1 ⟨rfl, rfl⟩
          go_wp2_with fail
          refine HB.out.mono ?_
          rintro e w1 ⟨rfl, rfl⟩
          go_wp2_with fail
          refine HA.out.mono ?_
          rintro e w1 ⟨rfl, rfl⟩
          go_wp2_with fail
          refine HB.out.mono ?_
          rintro e w1 ⟨rfl, rfl⟩
          go_wp2
          go_ret
          rw [EX.out, EY.out] at hlt
          rw [ordW_gt hlt]
          exact ⟨rfl, rfl⟩
        · have hs2 : Same A B i n := fun j a b => by
            by_cases e : j = i
            · subst e; omega
            · exact hs' j (by omega) b
          clear hs'
          go_wp2_with fail
          refine HA.out.mono ?_
          rintro e w1 ⟨rfl, rfl⟩
          go_wp2_with fail
          refine HB.out.mono ?_
          rintro e w1 ⟨rfl, rfl⟩
          go_wp2_with fail
          refine HA.out.mono ?_
          rintro e w1 ⟨rfl, rfl⟩
          go_wp2_with fail
          refine HB.out.mono ?_
          rintro e w1 ⟨rfl, rfl⟩
          go_wp2
          go_round
          case rel => exact ⟨_, rfl, by omega, by omega, by rw [show ((i : Int) - 1 + 1).toNat = i by omega]; exact hs2⟩
          case measure => simp [intOf]
    · have hs0 : pv (dg A) n = pv (dg B) n := pv_congr n fun j hj => hs j (by omega) hj
      rw [EX.out, EY.out] at hs0
      have hs1 := Lib.hid hs0
      clear hs0 hs
      go_wp2
      go_ret
      rw [ordW_eq hs1.out]
      exact ⟨rfl, rfl⟩

set_option maxHeartbeats 800000 in
theorem minus_own {w : World} {a b : Value} {X Y : Int} {p q : Nat} (ha : Num w a X p) (hb : Num w b Y q) (hp : p ≤ 1000) (hq : q ≤ 1000) :
    Calls Try.prog 35 #[a, b] w fun e w' => ∃ v Z, e = .returned v ∧ Num w' v Z (max p q) ∧ (Y ≤ X → Z = X - Y) ∧ Below w.heap.size w w' ∧ (∀ k, v.ownBlock = some k → w.heap.size ≤ k) := by
  obtain ⟨A, da, ga, va, la⟩ := ha.digs
  obtain ⟨B, db, gb, vb, lb⟩ := hb.digs
  clear ha hb
  have hn1 : A.length ≤ max A.length B.length := by omega
  have hn2 : B.length ≤ max A.length B.length := by omega
  have hn3 : max A.length B.length ≤ 1000 := by omega
  have hn4 : max A.length B.length ≤ max p q := by omega
  have Hfin : Hid (Y ≤ X → val ((List.range (max A.length B.length)).map (minD A B)) = X - Y) := by rw [← va, ← vb]; exact min_val ga gb hn1 hn2
  have HL : ∀ wr : World, Below w.heap.size w wr → Calls Try.prog 37 #[a, b] wr fun e w' => e = .returned (.int .i64 ((max A.length B.length : Nat) : Int)) ∧ wr = w' := fun wr h => longer_any (da.below h) (db.below h)
  have HL' := Lib.hid HL
  clear HL
  generalize max A.length B.length = n at HL' Hfin hn1 hn2 hn3 hn4
  clear va vb
  obtain ⟨i0, hi0, hz0, hz1, hz2⟩ := info_parts word_info
  go_enter Try.func35, Try.ntmps35
  go_wp2
  go_loopw [5, 6, 7] (fun o c i wr => ∃ k : Nat, k ≤ n ∧ i = .int .i64 k ∧ c = .int .u64 (minC A B k) ∧ wr.ownsRow w.heap.size 22 1 o k (((List.range k).map (minD A B)).map (Value.int .u64)) ∧ Below w.heap.size w wr) (fun _ _ i _ => n - (intOf i).toNat)
  case atStart => exact ⟨0, Nat.zero_le _, rfl, rfl, World.ownsRow_nil _ _ _ _, Below.refl _ _⟩
  case round =>
    obtain ⟨k, hk, rfl, rfl, hown, hbel⟩ := hrel
    have HN := Lib.hid (HL'.out wr hbel)
    by_cases hlt : k < n
    · have HA := Lib.hid (at_any (da.below hbel) k (by omega))
      have HB := Lib.hid (at_any (db.below hbel) k (by omega))
      obtain ⟨a0, a1⟩ := ga k
      obtain ⟨b0, b1⟩ := gb k
      obtain ⟨c0, c1⟩ := minC_bd ga gb k
      go_wp2_with fail
      refine HN.out.mono ?_
      rintro e w2 ⟨rfl, rfl⟩
      go_wp2_with fail
      refine HA.out.mono ?_
      rintro e w2 ⟨rfl, rfl⟩
      go_wp2_with fail
      refine HB.out.mono ?_
      rintro e w2 ⟨rfl, rfl⟩
      go_wp2_with (at_builtin; refine wpList_append_own _ rfl _ _ 45 rfl w.heap.size 22 i0 (.int .u64 0) 1 8 Try.underlying45 hi0 hz0 hz1 hz2 rfl (by decide) _ _ _ rfl (hown.alloc _) ⟨wr.heap.size, 0, none⟩ 1 1 [.int .u64 ((65536 + dg A k - dg B k - minC A B k) % 65536)] rfl rfl ?c1 ?c2 ?c3 ?c4 ?c5 ?_)
      case c1 =>
        intro j u hj
        match j, hj with
        | 0, hj => simp at hj; subst hj; simp [Addr.add]
      case c2 => intro u hu; simp at hu; subst hu; rfl
      case c3 => unfold maxLen; omega
      case c4 => omega
      case c5 => have := hbel.size; simp; omega
      intro v' w2 hown2 hgrow _
      have hb2 := app_below hbel hown hgrow
      have hown3 : w2.ownsRow w.heap.size 22 1 v' (k + 1) (((List.range (k + 1)).map (minD A B)).map (Value.int .u64)) := by
        rw [range_succ_map, List.map_append, List.map_map]
        exact hown2
      clear hown2 hgrow hown
      go_wp2
      go_roundw
      case rel => exact ⟨k + 1, by omega, by go_num, rfl, hown3, hb2⟩
      case measure => simp [intOf]; omega
    · have hkn : k = n := by omega
      subst hkn
      go_wp2_with fail
      refine HN.out.mono ?_
      rintro e w2 ⟨rfl, rfl⟩
      go_wp2
      go_ret
      exact ⟨_, _, rfl, ⟨_, Digs.owned hown, min_good, rfl, by simp; omega⟩, Hfin.out, hbel, fun k hk => (hown.lt k hk).1⟩

theorem minus_any {w : World} {a b : Value} {X Y : Int} {p q : Nat} (ha : Num w a X p) (hb : Num w b Y q) (hp : p ≤ 1000) (hq : q ≤ 1000) :
    Calls Try.prog 35 #[a, b] w fun e w' => ∃ v Z, e = .returned v ∧ Num w' v Z (max p q) ∧ (Y ≤ X → Z = X - Y) ∧ Below w.heap.size w w' :=
  (minus_own ha hb hp hq).mono fun _ _ ⟨v, Z, h1, h2, h3, h4, _⟩ => ⟨v, Z, h1, h2, h3, h4⟩
end Go.Proofs.Ythmniplbckhgaaa
