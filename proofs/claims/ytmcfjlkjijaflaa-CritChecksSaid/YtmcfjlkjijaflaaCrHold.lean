/-
  The program's mayHold.
-/
import Derived.Test.YtmcfjlkjijaflaaCrSec
namespace Go.Proofs.Ytmcfjlkjijaflaa
open Go.RowKit

/-- May a section be, of a lock with that Crit? -/
def holdR (f : Bool) (n : Nat) (crit : Int) (S : Nat × Int) : Bool := !(decide (S.2 < 1) || (decide (crit < S.2) || (f && decide (S.1 = n))))
set_option maxRecDepth 100000 in
set_option maxHeartbeats 3200000 in
theorem mayhold_any (f : Bool) (ao : Option Addr) (b off cap : Nat) (L : List Opn) (i : Nat) (crit : Int) (w : World) (h : OArg w ao b off L) (hi : i < L.length) (hm : L.length ≤ 12) (ho : ∀ o ∈ L, opMay o = true) :
    Calls Try.prog 27 #[prgV f ao L.length cap, .int .i64 i, .int .i64 crit] w fun e w' => e = .returned (.bool (holdR f L.length crit (secR (L[i]).2.1 (L.drop (i + 1)) (i + 1) 0))) ∧ Below w.heap.size w w' := by
  have hb0 : Below w.heap.size w (w.alloc (.cells #[.bool f, .slice ao L.length cap] 24)) := (Below.refl _ w).alloc (Nat.le_refl _) _
  have hsec := csec_any ao b off cap L i _ (h.below hb0) hi hm ho
  have hbd := (sec_bound (L[i]).2.1 (L.drop (i + 1)) (i + 1) 0 (fun o h => ho o (List.mem_of_mem_drop h))).1
  obtain ⟨lk, hlk⟩ : ∃ lk, (L[i]).2.1 = lk := ⟨_, rfl⟩
  rw [hlk] at hsec hbd ⊢
  obtain ⟨⟨te, tt⟩, hR⟩ : ∃ R, secR lk (L.drop (i + 1)) (i + 1) 0 = R := ⟨_, rfl⟩
  rw [hR] at hsec hbd ⊢
  obtain ⟨n, hn⟩ : ∃ n, L.length = n := ⟨_, rfl⟩
  rw [hn] at hsec ⊢
  simp only at hsec hbd
  have HS := Lib.hid hsec
  clear h hi hm ho hb0 hsec hlk hR hn
  have ho : f = false ∨ (f = true ∧ te = n) ∨ (f = true ∧ ¬ te = n) := by
    cases f with
    | false => exact .inl rfl
    | true =>
      by_cases hh : te = n
      · exact .inr (.inl ⟨rfl, hh⟩)
      · exact .inr (.inr ⟨rfl, hh⟩)
  have ht : tt = 0 ∨ (¬ tt = 0 ∧ tt ≤ crit) ∨ (¬ tt = 0 ∧ ¬ tt ≤ crit) := by omega
  rcases ho with ho | ho | ho
  · rcases ht with ht | ht | ht
    · subst ho
      subst ht
      have HE : holdR false n crit (te, 0) = false := by
        unfold holdR
        simp
      rw [HE]
      clear HE
      go_enter Try.func27, Try.ntmps27
      go_wp2_with fail
      refine HS.out.mono ?_
      rintro e w1 ⟨rfl, hb⟩
      obtain ⟨hx, hbw⟩ := box_kept hb
      obtain ⟨c0, c1⟩ := two_cells hx
      have hl := lt_of_block hx
      have HB := Lib.hid hbw
      clear hb hbw hx
      go_wp2
      go_ret
      exact ⟨rfl, HB.out.alloc HB.out.size _⟩
    · subst ho
      obtain ⟨h1, h2⟩ := ht
      have hq1 : (tt == 0) = false := by simpa using h1
      have hq2 : (tt != 0) = true := by simpa using h1
      have HE : holdR false n crit (te, tt) = true := by
        unfold holdR
        rw [decide_eq_false (by omega), decide_eq_false (by omega)]
        simp
      rw [HE]
      clear HE
      go_enter Try.func27, Try.ntmps27
      go_wp2_with fail
      refine HS.out.mono ?_
      rintro e w1 ⟨rfl, hb⟩
      obtain ⟨hx, hbw⟩ := box_kept hb
      obtain ⟨c0, c1⟩ := two_cells hx
      have hl := lt_of_block hx
      have HB := Lib.hid hbw
      clear hb hbw hx
      go_wp2
      go_ret
      exact ⟨rfl, HB.out.alloc HB.out.size _⟩
    · subst ho
      obtain ⟨h1, h2⟩ := ht
      have hq1 : (tt == 0) = false := by simpa using h1
      have hq2 : (tt != 0) = true := by simpa using h1
      have HE : holdR false n crit (te, tt) = false := by
        unfold holdR
        rw [decide_eq_true (show crit < tt by omega)]
        simp
      rw [HE]
      clear HE
      go_enter Try.func27, Try.ntmps27
      go_wp2_with fail
      refine HS.out.mono ?_
      rintro e w1 ⟨rfl, hb⟩
      obtain ⟨hx, hbw⟩ := box_kept hb
      obtain ⟨c0, c1⟩ := two_cells hx
      have hl := lt_of_block hx
      have HB := Lib.hid hbw
      clear hb hbw hx
      go_wp2
      go_ret
      exact ⟨rfl, HB.out.alloc HB.out.size _⟩
  · rcases ht with ht | ht | ht
    · obtain ⟨rfl, rfl⟩ := ho
      subst ht
      have HE : holdR true te crit (te, 0) = false := by
        unfold holdR
        simp
      rw [HE]
      clear HE
      go_enter Try.func27, Try.ntmps27
      go_wp2_with fail
      refine HS.out.mono ?_
      rintro e w1 ⟨rfl, hb⟩
      obtain ⟨hx, hbw⟩ := box_kept hb
      obtain ⟨c0, c1⟩ := two_cells hx
      have hl := lt_of_block hx
      have HB := Lib.hid hbw
      clear hb hbw hx
      go_wp2
      go_ret
      exact ⟨rfl, HB.out.alloc HB.out.size _⟩
    · obtain ⟨rfl, rfl⟩ := ho
      obtain ⟨h1, h2⟩ := ht
      have hq1 : (tt == 0) = false := by simpa using h1
      have hq2 : (tt != 0) = true := by simpa using h1
      have HE : holdR true te crit (te, tt) = false := by
        unfold holdR
        rw [decide_eq_false (by omega), decide_eq_false (by omega)]
        simp
      rw [HE]
      clear HE
      go_enter Try.func27, Try.ntmps27
      go_wp2_with fail
      refine HS.out.mono ?_
      rintro e w1 ⟨rfl, hb⟩
      obtain ⟨hx, hbw⟩ := box_kept hb
      obtain ⟨c0, c1⟩ := two_cells hx
      have hl := lt_of_block hx
      have HB := Lib.hid hbw
      clear hb hbw hx
      go_wp2
      go_ret
      exact ⟨rfl, HB.out.alloc HB.out.size _⟩
    · obtain ⟨rfl, rfl⟩ := ho
      obtain ⟨h1, h2⟩ := ht
      have hq1 : (tt == 0) = false := by simpa using h1
      have hq2 : (tt != 0) = true := by simpa using h1
      have HE : holdR true te crit (te, tt) = false := by
        unfold holdR
        rw [decide_eq_true (show crit < tt by omega)]
        simp
      rw [HE]
      clear HE
      go_enter Try.func27, Try.ntmps27
      go_wp2_with fail
      refine HS.out.mono ?_
      rintro e w1 ⟨rfl, hb⟩
      obtain ⟨hx, hbw⟩ := box_kept hb
      obtain ⟨c0, c1⟩ := two_cells hx
      have hl := lt_of_block hx
      have HB := Lib.hid hbw
      clear hb hbw hx
      go_wp2
      go_ret
      exact ⟨rfl, HB.out.alloc HB.out.size _⟩
  · rcases ht with ht | ht | ht
    · obtain ⟨rfl, hne⟩ := ho
      have hq : ((te : Int) == (n : Int)) = false := by
        rw [beq_eq_false_iff_ne]
        omega
      have hz : ¬ (te : Int) = n := by omega
      subst ht
      have HE : holdR true n crit (te, 0) = false := by
        unfold holdR
        simp
      rw [HE]
      clear HE
      go_enter Try.func27, Try.ntmps27
      go_wp2_with fail
      refine HS.out.mono ?_
      rintro e w1 ⟨rfl, hb⟩
      obtain ⟨hx, hbw⟩ := box_kept hb
      obtain ⟨c0, c1⟩ := two_cells hx
      have hl := lt_of_block hx
      have HB := Lib.hid hbw
      clear hb hbw hx
      go_wp2
      go_ret
      exact ⟨rfl, HB.out.alloc HB.out.size _⟩
    · obtain ⟨rfl, hne⟩ := ho
      have hq : ((te : Int) == (n : Int)) = false := by
        rw [beq_eq_false_iff_ne]
        omega
      have hz : ¬ (te : Int) = n := by omega
      obtain ⟨h1, h2⟩ := ht
      have hq1 : (tt == 0) = false := by simpa using h1
      have hq2 : (tt != 0) = true := by simpa using h1
      have HE : holdR true n crit (te, tt) = true := by
        unfold holdR
        rw [decide_eq_false (by omega), decide_eq_false (by omega)]
        simp [hne]
      rw [HE]
      clear HE
      go_enter Try.func27, Try.ntmps27
      go_wp2_with fail
      refine HS.out.mono ?_
      rintro e w1 ⟨rfl, hb⟩
      obtain ⟨hx, hbw⟩ := box_kept hb
      obtain ⟨c0, c1⟩ := two_cells hx
      have hl := lt_of_block hx
      have HB := Lib.hid hbw
      clear hb hbw hx
      go_wp2
      go_ret
      exact ⟨rfl, HB.out.alloc HB.out.size _⟩
    · obtain ⟨rfl, hne⟩ := ho
      have hq : ((te : Int) == (n : Int)) = false := by
        rw [beq_eq_false_iff_ne]
        omega
      have hz : ¬ (te : Int) = n := by omega
      obtain ⟨h1, h2⟩ := ht
      have hq1 : (tt == 0) = false := by simpa using h1
      have hq2 : (tt != 0) = true := by simpa using h1
      have HE : holdR true n crit (te, tt) = false := by
        unfold holdR
        rw [decide_eq_true (show crit < tt by omega)]
        simp
      rw [HE]
      clear HE
      go_enter Try.func27, Try.ntmps27
      go_wp2_with fail
      refine HS.out.mono ?_
      rintro e w1 ⟨rfl, hb⟩
      obtain ⟨hx, hbw⟩ := box_kept hb
      obtain ⟨c0, c1⟩ := two_cells hx
      have hl := lt_of_block hx
      have HB := Lib.hid hbw
      clear hb hbw hx
      go_wp2
      go_ret
      exact ⟨rfl, HB.out.alloc HB.out.size _⟩
end Go.Proofs.Ytmcfjlkjijaflaa
