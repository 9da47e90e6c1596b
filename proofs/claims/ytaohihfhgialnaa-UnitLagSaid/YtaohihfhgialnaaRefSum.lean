/-
  The reference's number, Sum and Fits.
-/
import Derived.Test.YtaohihfhgialnaaRefBase
namespace Go.Proofs.Ytaohihfhgialnaa
open Go.RowKit Go.Shelf

/-- Behind an append to a row of the call's own, old memory is as it was. -/
theorem app_below {w wr w2 : World} {e : TypeId} {v : Value} {n : Nat} {xs : List Value} {o : Obj} (hb : Below w.heap.size w wr) (hown : wr.ownsRow w.heap.size e 1 v n xs) (hg : (wr.alloc o).grownBy w2 v.ownBlock) : Below w.heap.size w w2 :=
  (hb.alloc hb.size o).grown hg (by have := hb.size; simp; omega) (fun k hk => (hown.lt k hk).1)

set_option maxHeartbeats 800000 in
theorem sum_any {w : World} {a b : Value} {X Y : Int} {p q : Nat} (ha : Num w a X p) (hb : Num w b Y q) (hp : p ≤ 1000) (hq : q ≤ 1000) :
    Calls Try.prog 25 #[a, b] w fun e w' => ∃ v, e = .returned v ∧ Num w' v (X + Y) (max p q + 1) ∧ Below w.heap.size w w' := by
  obtain ⟨A, da, ga, va, la⟩ := ha.digs
  obtain ⟨B, db, gb, vb, lb⟩ := hb.digs
  clear ha hb
  have hn1 : A.length ≤ max A.length B.length := by omega
  have hn2 : B.length ≤ max A.length B.length := by omega
  have hn3 : max A.length B.length ≤ 1000 := by omega
  have hn4 : max A.length B.length ≤ max p q := by omega
  have HL := Lib.hid (longer_any da db)
  have Hfin : Hid (val ((List.range (max A.length B.length + 1)).map (sumD A B)) = X + Y) := by rw [← va, ← vb]; exact sum_val ga gb hn1 hn2
  generalize max A.length B.length = n at HL Hfin hn1 hn2 hn3 hn4
  clear va vb
  obtain ⟨i0, hi0, hz0, hz1, hz2⟩ := info_parts word_info
  go_enter Try.func25, Try.ntmps25
  go_wp2_with (go_at_call 31; refine HL.out.mono ?_; rintro e w1 ⟨rfl, rfl⟩)
  go_loopw [5, 6, 8] (fun o c i wr => ∃ k : Nat, k ≤ n + 1 ∧ i = .int .i64 k ∧ c = .int .u64 (sumC A B k) ∧ wr.ownsRow w.heap.size 23 1 o k (((List.range k).map (sumD A B)).map (Value.int .u64)) ∧ Below w.heap.size w wr) (fun _ _ i _ => n + 1 - (intOf i).toNat)
  case atStart => exact ⟨0, Nat.zero_le _, rfl, rfl, World.ownsRow_nil _ _ _ _, Below.refl _ _⟩
  case round =>
    obtain ⟨k, hk, rfl, rfl, hown, hbel⟩ := hrel
    by_cases hlt : k ≤ n
    · have HA := Lib.hid (at_any (da.below hbel) k (by omega))
      have HB := Lib.hid (at_any (db.below hbel) k (by omega))
      obtain ⟨a0, a1⟩ := ga k
      obtain ⟨b0, b1⟩ := gb k
      obtain ⟨c0, c1⟩ := sumC_bd ga gb k
      go_wp2_with fail
      refine (HA.out).mono ?_
      rintro e w2 ⟨rfl, rfl⟩
      go_wp2_with fail
      refine (HB.out).mono ?_
      rintro e w2 ⟨rfl, rfl⟩
      go_wp2_with (at_builtin; refine wpList_append_own _ rfl _ _ 34 rfl w.heap.size 23 i0 (.int .u64 0) 1 8 Try.underlying34 hi0 hz0 hz1 hz2 rfl (by decide) _ _ _ rfl (hown.alloc _) ⟨wr.heap.size, 0, none⟩ 1 1 [.int .u64 ((dg A k + dg B k + sumC A B k) % 65536)] rfl rfl ?c1 ?c2 ?c3 ?c4 ?c5 ?_)
      case c1 =>
        intro j u hj
        match j, hj with
        | 0, hj => simp at hj; subst hj; simp [Addr.add]
      case c2 => intro u hu; simp at hu; subst hu; rfl
      case c3 => unfold maxLen; omega
      case c4 => omega
      case c5 => have := hbel.size; simp; omega
      intro v' w2 hown2 hgrow _
      have hb2 := app_below hbel hown hgrow
      have hown3 : w2.ownsRow w.heap.size 23 1 v' (k + 1) (((List.range (k + 1)).map (sumD A B)).map (Value.int .u64)) := by
        rw [range_succ_map, List.map_append, List.map_map]
        exact hown2
      clear hown2 hgrow hown
      go_wp2
      go_roundw
      case rel => exact ⟨k + 1, by omega, by go_num, rfl, hown3, hb2⟩
      case measure => simp [intOf]; omega
    · have hkn : k = n + 1 := by omega
      subst hkn
      go_wp2
      go_ret
      exact ⟨_, rfl, ⟨_, Digs.owned hown, sum_good, Hfin.out, by simp; omega⟩, hbel⟩

set_option maxHeartbeats 400000 in
theorem number_any (a : Int) (h : Word a) (w : World) :
    Calls Try.prog 26 #[.int .u64 a] w fun e w' => ∃ v, e = .returned v ∧ Num w' v a 4 ∧ Below w.heap.size w w' := by
  obtain ⟨h0, h1⟩ := h
  go_enter Try.func26, Try.ntmps26
  go_wp2
  go_ret
  refine ⟨_, rfl, ⟨[a % 65536, a / 65536 % 65536, a / 4294967296 % 65536, a / 281474976710656], .inr ⟨w.heap.size, 0, 4, rfl, Nat.le_refl _, by unfold maxLen; omega, by simp, ?_⟩, ?_, ?_, Nat.le_refl _⟩, (Below.refl _ _).alloc (Nat.le_refl _) _⟩
  · intro i hi
    match i, hi with
    | 0, _ => simp [go_sem, dg]
    | 1, _ => simp [go_sem, dg]
    | 2, _ => simp [go_sem, dg]
    | 3, _ => simp [go_sem, dg]
  · intro k
    match k with
    | 0 => unfold Digit dg; simp; omega
    | 1 => unfold Digit dg; simp; omega
    | 2 => unfold Digit dg; simp; omega
    | 3 => unfold Digit dg; simp; omega
    | k + 4 => rw [dg_out (by simp)]; unfold Digit; omega
  · rw [val_four rfl]
    simp [dg]
    omega

/-- Digits of no worth from 4 up to k. -/
def Zeros (L : List Int) (k : Nat) : Prop := ∀ j, 4 ≤ j → j < k → dg L j = 0
theorem Zeros.succ {L : List Int} {k : Nat} (h : Zeros L k) (h0 : dg L k = 0) : Zeros L (k + 1) := fun j h4 hj => by
  by_cases e : j = k
  · rw [e]; exact h0
  · exact h j h4 (by omega)

set_option maxHeartbeats 800000 in
theorem fits_any {w : World} {v : Value} {X : Int} {m : Nat} (h : Num w v X m) (hm : m ≤ 1000) :
    Calls Try.prog 24 #[v] w fun e w' => e = .returned (.tuple #[.int .u64 (satV X), .int .i64 (satE X)]) ∧ w = w' := by
  obtain ⟨L, dl, gl, vl, ll⟩ := h.digs
  have HL := Lib.hid vl
  have A0 := Lib.hid (at_any dl 0 (by omega))
  have A1 := Lib.hid (at_any dl 1 (by omega))
  have A2 := Lib.hid (at_any dl 2 (by omega))
  have A3 := Lib.hid (at_any dl 3 (by omega))
  have hcell : ∀ A c, v = .slice A L.length c → ∀ k, k < L.length → ∃ g o, A = some ⟨g, o, none⟩ ∧ w.cell? ⟨g, o + k, none⟩ = some (.int .u64 (dg L k)) := by
    intro A c hv k hk
    rcases dl with ⟨_, h2⟩ | ⟨g, o, c', h1, _, _, _, h5⟩
    · subst h2; simp at hk
    · rw [hv] at h1
      simp only [Value.slice.injEq] at h1
      exact ⟨g, o, h1.1, h5 k hk⟩
  obtain ⟨A, c, rfl⟩ := dl.form
  have HC := Lib.hid (hcell A c rfl)
  clear h vl hcell dl
  have hd := fun k => (gl k)
  obtain ⟨x0, y0⟩ := hd 0
  obtain ⟨x1, y1⟩ := hd 1
  obtain ⟨x2, y2⟩ := hd 2
  obtain ⟨x3, y3⟩ := hd 3
  clear hd
  go_enter Try.func24, Try.ntmps24
  go_wp2
  go_loop [4] (fun i => ∃ k : Nat, i = .int .i64 k ∧ 4 ≤ k ∧ k ≤ 1004 ∧ Zeros L k) (fun i => 1004 - (intOf i).toNat)
  case atStart => exact ⟨4, rfl, by omega, by omega, fun j a b => by omega⟩
  case round =>
    obtain ⟨k, rfl, h4, hk, hz⟩ := hrel
    by_cases hlt : k < L.length
    · obtain ⟨g, o, rfl, hc⟩ := HC.out k hlt
      obtain ⟨xk, yk⟩ := gl k
      by_cases hp : 0 < dg L k
      · go_wp2
        go_ret2
        have hb := val_high gl h4 hlt hp
        rw [HL.out] at hb
        rw [satV_big hb, satE_big hb]
        exact ⟨rfl, rfl⟩
      · have h0 : dg L k = 0 := by omega
        have hz' := hz.succ h0
        clear h0
        go_wp2
        go_round
        case rel => exact ⟨k + 1, by go_num, by omega, by omega, hz'⟩
        case measure => simp [intOf]; omega
    · go_wp2_with fail
      refine A0.out.mono ?_
      rintro e w1 ⟨rfl, rfl⟩
      go_wp2_with fail
      refine A1.out.mono ?_
      rintro e w1 ⟨rfl, rfl⟩
      go_wp2_with fail
      refine A2.out.mono ?_
      rintro e w1 ⟨rfl, rfl⟩
      go_wp2_with fail
      refine A3.out.mono ?_
      rintro e w1 ⟨rfl, rfl⟩
      go_wp2
      go_ret2
      have hv := val_low (l := L) (fun j a b => hz j a (by omega))
      rw [HL.out] at hv
      have hfit : X ≤ 18446744073709551615 := by omega
      rw [satV_fit hfit, satE_fit hfit, hv]
      exact ⟨rfl, rfl⟩
end Go.Proofs.Ytaohihfhgialnaa
