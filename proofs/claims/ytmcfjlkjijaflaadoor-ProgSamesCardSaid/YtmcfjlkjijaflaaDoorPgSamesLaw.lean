/-
  ProgSames, given the program's contracts.
-/
import Derived.Test.YtmcfjlkjijaflaaDoorPgSaid
import Derived.Test.YtmcfjlkjijaflaaDoorPgAnyLaw
import Derived.Deep.RegionHeld3
namespace Go.Proofs.YtmcfjlkjijaflaaDoor
open Go.RowKit

/-- The boxes of the two programs. -/
def SmK (w : World) (pv qv : Array Value) (V : World) : Prop :=
  V.heap[w.heap.size]? = some (.cells pv 24 (0, 0)) ∧ V.heap[w.heap.size + 1]? = some (.cells qv 24 (0, 0)) ∧ Below w.heap.size w V
theorem SmK.keep {w V V' : World} {pv qv : Array Value} (h : SmK w pv qv V) (hb : Below V.heap.size V V') : SmK w pv qv V' :=
  ⟨(hb.block _ (lt_of_block h.1)).trans h.1, (hb.block _ (lt_of_block h.2.1)).trans h.2.1, h.2.2.trans (hb.mono h.2.2.size)⟩
theorem SmK.drew {w V : World} {pv qv : Array Value} (h : SmK w pv qv V) : SmK w pv qv V.drew := ⟨h.1, h.2.1, h.2.2.drew⟩
theorem SmK.start (w : World) (pv qv : Array Value) : SmK w pv qv ((w.alloc (.cells pv 24)).alloc (.cells qv 24)) := by
  have hz := heap_alloc_new (w.alloc (.cells pv 24)) (.cells qv 24)
  rw [World.size_alloc] at hz
  exact ⟨(Below.heap_alloc _ _ _ (by simp)).trans (heap_alloc_new w _), hz, ((Below.refl _ w).alloc (Nat.le_refl _) _).alloc (by simp) _⟩
theorem SmK.view {w V : World} {p0 p1 q0 q1 : Value} (h : SmK w #[p0, p1] #[q0, q1] V) :
    V.cell? ⟨w.heap.size, 0, none⟩ = some p0 ∧ V.cell? ⟨w.heap.size, 1, none⟩ = some p1 ∧ V.cell? ⟨w.heap.size + 1, 0, none⟩ = some q0 ∧ V.cell? ⟨w.heap.size + 1, 1, none⟩ = some q1 ∧ SmK w #[p0, p1] #[q0, q1] V := by
  obtain ⟨a, b⟩ := two_cells h.1
  obtain ⟨c, d⟩ := two_cells h.2.1
  exact ⟨a, b, c, d, h⟩
theorem SmK.bel {w V : World} {pv qv : Array Value} (h : SmK w pv qv V) : Below w.heap.size w V := h.2.2
set_option maxRecDepth 100000 in
set_option maxHeartbeats 6400000 in
theorem progsames_walk (S : PgSaid) (f g : Bool) (ao : Option Addr) (b off cap : Nat) (ao2 : Option Addr) (b2 off2 cap2 : Nat) (A B : List Opn) (k : Int) (w : World) (hA : OArg w ao b off A) (hB : OArg w ao2 b2 off2 B) (hk : small k)
    (hm : A.length < 9223372036854775808) (hm2 : B.length < 9223372036854775808) (hg : S.Good w) :
    Calls Tryd.prog 5 #[prgV f ao A.length cap, prgV g ao2 B.length cap2, .int .i64 k] w fun e w' => e = .returned (.bool true) ∧ Below w.heap.size w w' := by
  have HG := Lib.hid hg
  have HAW := Lib.hid (fun W hW => awake10 S W hW)
  have hk0 := SmK.start w #[.bool f, .slice ao A.length cap] #[.bool g, .slice ao2 B.length cap2]
  have HA := Lib.hid hA
  have HB := Lib.hid hB
  have HSK := Lib.hid hk
  clear hg hA hB hk
  by_cases ha : A.length ≤ 20
  · by_cases hb : B.length ≤ 20
    · have hsm : ∀ V, SmK w #[.bool f, .slice ao A.length cap] #[.bool g, .slice ao2 B.length cap2] V → Calls Tryd.prog 20 #[.agg #[.bool f, .slice ao A.length cap], .agg #[.bool g, .slice ao2 B.length cap2]] V fun e w' => e = .returned (.bool (eqR (f, A) (g, B))) ∧ SmK w #[.bool f, .slice ao A.length cap] #[.bool g, .slice ao2 B.length cap2] w' := fun V hV =>
        (S.same f g ao ao2 b off b2 off2 cap cap2 A B V (HA.out.below hV.bel) (HB.out.below hV.bel) (by omega) (by omega) (S.keep HG.out hV.bel)).mono fun e w' h => ⟨h.1, hV.keep h.2⟩
      have hrs : ∀ V, SmK w #[.bool f, .slice ao A.length cap] #[.bool g, .slice ao2 B.length cap2] V → Calls Tryd.prog 19 #[.agg #[.bool f, .slice ao A.length cap], .agg #[.bool g, .slice ao2 B.length cap2]] V fun e w' => e = .returned (.bool (eqR (f, A) (g, B))) ∧ SmK w #[.bool f, .slice ao A.length cap] #[.bool g, .slice ao2 B.length cap2] w' := fun V hV =>
        (rsame_any f g ao ao2 b off b2 off2 cap cap2 A B V (HA.out.below hV.bel) (HB.out.below hV.bel) (by omega) (by omega)).mono fun e w' h => ⟨h.1, hV.keep h.2⟩
      have hss : ∀ V, SmK w #[.bool f, .slice ao A.length cap] #[.bool g, .slice ao2 B.length cap2] V → Calls Tryd.prog 20 #[.agg #[.bool f, .slice ao A.length cap], .agg #[.bool f, .slice ao A.length cap]] V fun e w' => e = .returned (.bool true) ∧ SmK w #[.bool f, .slice ao A.length cap] #[.bool g, .slice ao2 B.length cap2] w' := fun V hV =>
        (S.same f f ao ao b off b off cap cap A A V (HA.out.below hV.bel) (HA.out.below hV.bel) (by omega) (by omega) (S.keep HG.out hV.bel)).mono fun e w' h => ⟨by rw [h.1, eq_self], hV.keep h.2⟩
      have hpn : ∀ V, SmK w #[.bool f, .slice ao A.length cap] #[.bool g, .slice ao2 B.length cap2] V → Calls Tryd.prog 14 #[.int .i64 k] V fun e w' => e = .returned (.string ⟨(nameR k).toArray⟩) ∧ SmK w #[.bool f, .slice ao A.length cap] #[.bool g, .slice ao2 B.length cap2] w' := fun V hV =>
        (S.name k V HSK.out (S.keep HG.out hV.bel)).mono fun e w' h => ⟨h.1, hV.keep h.2⟩
      have hrn : ∀ V, SmK w #[.bool f, .slice ao A.length cap] #[.bool g, .slice ao2 B.length cap2] V → Calls Tryd.prog 15 #[.int .i64 k] V fun e w' => e = .returned (.string ⟨(nameR k).toArray⟩) ∧ SmK w #[.bool f, .slice ao A.length cap] #[.bool g, .slice ao2 B.length cap2] w' := fun V hV =>
        (rname_any k HSK.out.1 HSK.out.2 V).mono fun e w' h => ⟨h.1, hV.keep h.2⟩
      obtain ⟨r, hr⟩ : ∃ r, eqR (f, A) (g, B) = r := ⟨_, rfl⟩
      simp only [hr] at hsm hrs
      obtain ⟨sx, hsx⟩ : ∃ sx : ByteArray, ⟨(nameR k).toArray⟩ = sx := ⟨_, rfl⟩
      simp only [hsx] at hpn hrn
      have hrr : (r == r) = true := by simp
      have hxx : (sx.toList == sx.toList) = true := by simp
      obtain ⟨n, hn⟩ : ∃ n, A.length = n := ⟨_, rfl⟩
      obtain ⟨m, hm'⟩ : ∃ m, B.length = m := ⟨_, rfl⟩
      simp only [hn, hm'] at hsm hrs hss hpn hrn hk0 ha hb ⊢
      have ha2 : ¬ (20 : Int) < n := by omega
      have hb2 : ¬ (20 : Int) < m := by omega
      have HSM := Lib.hid hsm
      have HRS := Lib.hid hrs
      have HSS := Lib.hid hss
      have HPN := Lib.hid hpn
      have HRN := Lib.hid hrn
      have HK0 := Lib.hid hk0
      clear hsm hrs hss hpn hrn hk0 hn hm' hr hsx hm hm2
      go_enter Tryd.func5, Tryd.ntmps5
      go_wp2_with fail
      with_reducible refine (HAW.out _ (S.keep HG.out HK0.out.bel)).mono ?_
      rintro e w1 ⟨rfl, hb1⟩
      have HK1 := Lib.hid (HK0.out.keep hb1)
      obtain ⟨c0, c1, c2, c3, ck⟩ := HK1.out.drew.view
      obtain ⟨d0, d1, d2, d3, -⟩ := HK1.out.view
      clear hb1
      go_wp2_with fail
      go_region_held3 (fun V => V.cell? ⟨w.heap.size, 0, none⟩ = some (.bool f) ∧ V.cell? ⟨w.heap.size, 1, none⟩ = some (.slice ao n cap) ∧ V.cell? ⟨w.heap.size + 1, 0, none⟩ = some (.bool g) ∧ V.cell? ⟨w.heap.size + 1, 1, none⟩ = some (.slice ao2 m cap2) ∧ SmK w #[.bool f, .slice ao n cap] #[.bool g, .slice ao2 m cap2] V)
        (first | exact ⟨c0, c1, c2, c3, ck⟩)
        (first
          | (go_at_call 20; with_reducible refine (HSM.out _ ck).mono ?_; rintro e w' ⟨rfl, kk⟩; obtain ⟨c0, c1, c2, c3, ck⟩ := kk.view)
          | (go_at_call 20; with_reducible refine (HSS.out _ ck).mono ?_; rintro e w' ⟨rfl, kk⟩; obtain ⟨c0, c1, c2, c3, ck⟩ := kk.view)
          | (go_at_call 19; with_reducible refine (HRS.out _ ck).mono ?_; rintro e w' ⟨rfl, kk⟩; obtain ⟨c0, c1, c2, c3, ck⟩ := kk.view)
          | (go_at_call 14; with_reducible refine (HPN.out _ ck).mono ?_; rintro e w' ⟨rfl, kk⟩; obtain ⟨c0, c1, c2, c3, ck⟩ := kk.view)
          | (go_at_call 15; with_reducible refine (HRN.out _ ck).mono ?_; rintro e w' ⟨rfl, kk⟩; obtain ⟨c0, c1, c2, c3, ck⟩ := kk.view))
      all_goals (go_wp2; go_ret; exact ⟨by simp, ck.bel⟩)
    · obtain ⟨n, hn⟩ : ∃ n, A.length = n := ⟨_, rfl⟩
      obtain ⟨m, hm'⟩ : ∃ m, B.length = m := ⟨_, rfl⟩
      simp only [hn, hm'] at hk0 ha hb ⊢
      have ha2 : ¬ (20 : Int) < n := by omega
      have hb2 : (20 : Int) < m := by omega
      have HK0 := Lib.hid hk0
      clear hk0 hn hm' hm hm2
      go_enter Tryd.func5, Tryd.ntmps5
      go_wp2_with fail
      with_reducible refine (HAW.out _ (S.keep HG.out HK0.out.bel)).mono ?_
      rintro e w1 ⟨rfl, hb1⟩
      have HK1 := Lib.hid (HK0.out.keep hb1)
      obtain ⟨d0, d1, d2, d3, -⟩ := HK1.out.view
      clear hb1
      go_wp2
      go_ret
      exact ⟨rfl, HK1.out.bel⟩
  · obtain ⟨n, hn⟩ : ∃ n, A.length = n := ⟨_, rfl⟩
    obtain ⟨m, hm'⟩ : ∃ m, B.length = m := ⟨_, rfl⟩
    simp only [hn, hm'] at hk0 ha ⊢
    have ha2 : (20 : Int) < n := by omega
    have HK0 := Lib.hid hk0
    clear hk0 hn hm' hm hm2
    go_enter Tryd.func5, Tryd.ntmps5
    go_wp2_with fail
    with_reducible refine (HAW.out _ (S.keep HG.out HK0.out.bel)).mono ?_
    rintro e w1 ⟨rfl, hb1⟩
    have HK1 := Lib.hid (HK0.out.keep hb1)
    obtain ⟨d0, d1, d2, d3, -⟩ := HK1.out.view
    clear hb1
    go_wp2
    go_ret
    exact ⟨rfl, HK1.out.bel⟩
end Go.Proofs.YtmcfjlkjijaflaaDoor
