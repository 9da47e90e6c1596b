/-
  The program's Parse of acts.
-/
import Derived.Test.YtmcfjlkjijaflaaDoorAcPar
namespace Go.Proofs.YtmcfjlkjijaflaaDoor
open Go.RowKit

/-- What Parse of acts answers. -/
def ParseAP (R : List Ac × Int × Int) (w : World) (e : Ending) (w' : World) : Prop :=
  ∃ v, e = .returned (.tuple #[v, .int .i64 R.2.1, .int .i64 R.2.2]) ∧ ARow w.heap.size w' v R.1 ∧ Below w.heap.size w w'
theorem aparse_start {w : World} {ao : Option Addr} {b off cap : Nat} {L : List Wd} {a : Nat} {e0 : Int} (h : WArg w ao b off L) (hm : L.length ≤ 100000) (ha : a ≤ L.length) :
    RdI (w.alloc (.cells (rdC ao L.length cap a e0) 115)) w.heap.size ao b off cap L a e0 := by
  have hb : Below w.heap.size w (w.alloc (.cells (rdC ao L.length cap a e0) 115)) := (Below.refl _ w).alloc (Nat.le_refl _) _
  exact ⟨heap_alloc_new w _, h.below hb, fun h0 => by have := (h.at_ h0).2; omega, ha, hm⟩
set_option maxRecDepth 100000 in
set_option maxHeartbeats 3200000 in
theorem aparse_gen {A : Except Bad (List Ac × Nat)} (ao : Option Addr) (b off cap : Nat) (L : List Wd) (a : Nat) (e0 : Int) (vs : Value) (iat : Value) (w : World) (h : WArg w ao b off L) (hm : L.length ≤ 100000) (ha : a ≤ L.length) (hL : Clean L) (hN : In9 L) (hA : AcsI L A a e0 [])
    (hread : ∀ w, Calls Tryd.prog 45 #[vs, iat] w fun r w' => r = .returned (.pointer (some ⟨w.heap.size, 0, none⟩)) ∧ w' = w.alloc (.cells (rdC ao L.length cap a e0) 115))
    (R : List Ac × Int × Int) (hR : ∀ out c e, ((e = 0 ∧ A = .ok (out, c)) ∨ (e ≠ 0 ∧ A = .error (c, e))) → (e = 0 ∧ R = (out, (c : Int), 0)) ∨ (e ≠ 0 ∧ R = ([], (c : Int), e))) :
    Calls Tryd.prog 29 #[vs, iat] w (ParseAP R w) := by
  have hp := acts_gen (aparse_start (cap := cap) (e0 := e0) h hm ha) hL hN hA
  unfold AcsP at hp
  have HR := Lib.hid hR
  obtain ⟨n, hn⟩ : ∃ n, L.length = n := ⟨_, rfl⟩
  rw [hn] at hp hread
  have HP := Lib.hid hp
  have HRD := Lib.hid (hread w)
  clear hp hR hn h ha hm hread hL hN hA
  go_enter Tryd.func29, Tryd.ntmps29
  go_wp2_with fail
  with_reducible refine HRD.out.mono ?_
  rintro r w1 ⟨rfl, rfl⟩
  go_wp2_with fail
  refine HP.out.mono ?_
  rintro r w2 ⟨v, out, c, e, rfl, hr, ht, hrow, -, hq⟩
  have hb2 : Below w.heap.size w w2 := (turned_box rfl ht).below (by simp) (Nat.le_refl _)
  have HB2 := Lib.hid hb2
  have HROW := Lib.hid (row_base hrow (by simp : w.heap.size ≤ _))
  have HQ := Lib.hid (HR.out _ _ _ hq)
  have HMT := Lib.hid (met_any hr)
  obtain ⟨aov, capv, hv, _⟩ := ownsRow_shape hrow
  subst hv
  clear hr ht hrow hq hb2
  go_wp2_with fail
  with_reducible refine HMT.out.mono ?_
  rintro r V ⟨rfl, q, hV⟩
  have HBV : Hid (Below w2.heap.size w2 V) := Lib.hid (by rw [hV]; exact below_drewN (Below.refl _ _) q)
  clear hV
  have HB3 := Lib.hid (HB2.out.trans (HBV.out.mono HB2.out.size))
  have HROW3 := Lib.hid (row_below HROW.out HBV.out)
  by_cases he : e = 0
  · subst he
    have hR : R = (out, (c : Int), 0) := by
      rcases HQ.out with ⟨_, h⟩ | ⟨h, _⟩
      · exact h
      · exact absurd rfl h
    subst hR
    go_wp2
    go_ret3
    exact ⟨_, rfl, HROW3.out, HB3.out⟩
  · have hR : R = ([], (c : Int), e) := by
      rcases HQ.out with ⟨h, _⟩ | ⟨_, h⟩
      · exact absurd h he
      · exact h
    subst hR
    have he1 : (e != 0) = true := by simpa using he
    clear he
    go_wp2
    go_ret3
    exact ⟨_, rfl, World.ownsRow_nil _ _ _ _, HB3.out⟩
theorem aparse_any (ao : Option Addr) (b off cap : Nat) (L : List Wd) (at_ : Int) (w : World) (h : WArg w ao b off L) (hm : L.length ≤ 100000) (hL : Clean L) (hN : In9 L) :
    Calls Tryd.prog 29 #[.slice ao L.length cap, .int .i64 at_] w (ParseAP (parseAc L at_) w) := by
  by_cases hout : at_ < 0 ∨ (L.length : Int) < at_
  · refine aparse_gen (A := .error (0, 5)) none 0 0 0 [] 0 5 _ _ w ⟨fun h => absurd h (by simp), fun i hi => by simp at hi⟩ (by simp) (Nat.le_refl _) clean_nil (fun x hx => by cases hx) (.inr ⟨by decide, by simp, rfl⟩) (fun w => pread_out ao L.length cap at_ w hout) _ ?_
    intro out c e hq
    rcases hq with ⟨_, hq⟩ | ⟨he, hq⟩
    · cases hq
    · injection hq with hq
      injection hq with h1 h2
      subst h1
      subst h2
      refine .inr ⟨he, ?_⟩
      unfold parseAc
      rw [if_pos hout]
      rfl
  · obtain ⟨a, rfl⟩ : ∃ a : Nat, at_ = a := ⟨at_.toNat, by omega⟩
    refine aparse_gen (A := acsP L (L.length + 1) a []) ao b off cap L a 0 _ _ w h hm (by omega) hL hN (AcsI.start L a) (fun w => pread_in ao L.length cap a w (by omega)) _ ?_
    intro out c e hq
    unfold parseAc
    rw [if_neg hout, Int.toNat_natCast]
    rcases hq with ⟨he, hq⟩ | ⟨he, hq⟩
    · rw [hq]
      exact .inl ⟨he, rfl⟩
    · rw [hq]
      exact .inr ⟨he, rfl⟩
end Go.Proofs.YtmcfjlkjijaflaaDoor
