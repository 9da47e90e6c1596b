/-
  What layer 10's laws lean on: the program's contracts; awake. (Made by gen_law.py.)
-/
import Derived.Test.YtmcfjlkjijaflaaDoorRgPrint
import Derived.Test.YtmcfjlkjijaflaaDoorRgParse
import Derived.Test.YtmcfjlkjijaflaaDoorRgSame
import Derived.Test.YtmcfjlkjijaflaaDoorTkRef
import Derived.Test.YtmcfjlkjijaflaaDoorGT
import Derived.Test.YtmcfjlkjijaflaaDoorPgClean
namespace Go.Proofs.YtmcfjlkjijaflaaDoor
open Go.RowKit

/-- What is said of the program's calls. Good: what memory must bear (tables that are read), kept where nothing elder turns. -/
structure PgSaid where
  Good : World → Prop
  keep : ∀ {w w' : World}, Good w → Below w.heap.size w w' → Good w'
  name : ∀ (k : Int) (w : World), small k → Good w → Calls Tryd.prog 14 #[.int .i64 k] w fun e w' => e = .returned (.string ⟨(nameR k).toArray⟩) ∧ Below w.heap.size w w'
  may : ∀ (f : Bool) (ao : Option Addr) (b off cap : Nat) (L : List Opn) (w : World), OArg w ao b off L → L.length ≤ 100000 → (∀ x ∈ L, small x.1) → Good w →
    Calls Tryd.prog 12 #[prgV f ao L.length cap] w fun e w' => e = .returned (.bool (mayR (f, L))) ∧ Below w.heap.size w w'
  print : ∀ (f : Bool) (ao : Option Addr) (b off cap : Nat) (L : List Opn) (w : World), OArg w ao b off L → L.length ≤ 100000 → (∀ x ∈ L, small x.1) → Good w →
    Calls Tryd.prog 9 #[prgV f ao L.length cap] w (PrintP (printR (f, L)) w)
  words : ∀ (f : Bool) (ao : Option Addr) (b off cap : Nat) (L : List Opn) (w : World), OArg w ao b off L → L.length ≤ 100000 → (∀ x ∈ L, small x.1) → Good w →
    Calls Tryd.prog 11 #[prgV f ao L.length cap] w fun e w' => ∃ v, e = .returned (.tuple #[v, .int .i64 (if mayR (f, L) then 0 else 1)]) ∧ WRow w.heap.size w' v (if mayR (f, L) then wordsR (f, L) else []) ∧ Below w.heap.size w w'
  same : ∀ (f g : Bool) (ao1 ao2 : Option Addr) (b1 o1 b2 o2 c1 c2 : Nat) (A B : List Opn) (w : World), OArg w ao1 b1 o1 A → OArg w ao2 b2 o2 B → A.length ≤ 100000 → B.length ≤ 100000 → Good w →
    Calls Tryd.prog 20 #[prgV f ao1 A.length c1, prgV g ao2 B.length c2] w fun e w' => e = .returned (.bool (eqR (f, A) (g, B))) ∧ Below w.heap.size w w'
  parse : ∀ (ao : Option Addr) (b off cap : Nat) (L : List Wd) (at_ : Int) (w : World), WArg w ao b off L → L.length ≤ 100000 → small at_ → Clean L → Good w →
    Calls Tryd.prog 16 #[.slice ao L.length cap, .int .i64 at_] w (ParseP (parseR L at_) w)
theorem pw_clean : Clean pw1 := by
  unfold Clean
  decide
theorem pp_small : ∀ x ∈ pp1.2, small x.1 := by
  intro x hx
  simp only [pp1, List.mem_cons, List.not_mem_nil, or_false] at hx
  unfold small
  rcases hx with rfl | rfl | rfl <;> decide
set_option maxRecDepth 100000 in
set_option maxHeartbeats 3200000 in
theorem awake10 (S : PgSaid) (w : World) (hg : S.Good w) : Calls Tryd.prog 8 #[] w fun e w' => e = .returned (.bool true) ∧ Below w.heap.size w w' := by
  have HG := Lib.hid hg
  have HSC := Lib.hid (fun W => rscan_any ⟨#[112, 114, 111, 103, 32, 102, 111, 114, 101, 118, 101, 114, 32, 123, 32, 108, 111, 99, 107, 32, 48, 59, 32, 99, 111, 109, 112, 117, 116, 101, 32, 50, 59, 32, 117, 110, 108, 111, 99, 107, 32, 48, 59, 32, 125, 32, 120]⟩ W)
  clear hg
  go_enter Tryd.func8, Tryd.ntmps8
  go_wp2_with fail
  with_reducible refine (HSC.out _).mono ?_
  rintro e w1 ⟨v, he, hr, hb⟩
  rw [pw_scan] at he hr
  subst he
  obtain ⟨g, cap, rfl, _, _⟩ := ownsRow_pos hr (by decide)
  have hp0 := S.parse (some ⟨g, 0, none⟩) g 0 cap pw1 0 w1 (WArg.row_at hr) (by decide) (by unfold small; decide) pw_clean (S.keep HG.out hb)
  unfold ParseP at hp0
  rw [pp_parse, show pw1.length = 14 from rfl] at hp0
  simp only [show pp1.fst = true from rfl] at hp0
  have HP0 := Lib.hid hp0
  have HWA := Lib.hid (WArg.row_at hr)
  have HB1 := Lib.hid hb
  rw [show pw1.length = 14 from rfl]
  clear hr hb hp0 HSC
  go_wp2_with fail
  with_reducible refine HP0.out.mono ?_
  rintro e w2 ⟨v2, rfl, hr2, hb2⟩
  obtain ⟨ao, b, cap2, rfl, hoa⟩ := OArg.of_row hr2
  rw [show pp1.snd.length = 3 from rfl]
  have HB2 := Lib.hid (HB1.out.trans (hb2.mono HB1.out.size))
  have HWA2 := Lib.hid (HWA.out.below hb2)
  have HOA := Lib.hid hoa
  have hb2x := (Below.refl w2.heap.size w2).alloc (Nat.le_refl _) (.cells #[.bool true, .slice ao 3 cap2] 24)
  have hpr := S.print true ao b 0 cap2 pp1.2 (w2.alloc (.cells #[.bool true, .slice ao 3 cap2] 24)) (hoa.below hb2x) (by decide) pp_small (S.keep HG.out (HB2.out.trans (hb2x.mono HB2.out.size)))
  have ep : printR (true, pp1.2) = (pt1, 0) := by
    unfold printR
    rw [show ((true, pp1.2) : Prg) = pp1 from rfl, pp_may, pp_join]
    rfl
  unfold PrintP prgV at hpr
  rw [ep, show pp1.snd.length = 3 from rfl] at hpr
  obtain ⟨sx, hsx⟩ : ∃ sx : ByteArray, ⟨pt1.toArray⟩ = sx := ⟨_, rfl⟩
  have hsl : sx.toList = pt1 := by rw [Lib.toList_data, ← hsx]
  simp only [hsx] at hpr
  have hsq : (sx.toList == [112, 114, 111, 103, 32, 102, 111, 114, 101, 118, 101, 114, 32, 123, 32, 108, 111, 99, 107, 32, 48, 59, 32, 99, 111, 109, 112, 117, 116, 101, 32, 50, 59, 32, 117, 110, 108, 111, 99, 107, 32, 48, 59, 32, 125]) = true := by rw [hsl]; decide +kernel
  have HPR := Lib.hid hpr
  clear hpr hr2 hb2 hoa hb2x ep hsx hsl HP0
  go_wp2_with fail
  with_reducible refine HPR.out.mono ?_
  rintro e w3 ⟨rfl, hb3⟩
  obtain ⟨hx, hb3w⟩ := box_kept hb3
  have HX := Lib.hid hx
  have HB3 := Lib.hid (HB2.out.trans (hb3w.mono HB2.out.size))
  have hp1 := S.parse (some ⟨g, 0, none⟩) g 0 cap pw1 1 w3 (HWA2.out.below hb3w) (by decide) (by unfold small; decide) pw_clean (S.keep HG.out HB3.out)
  unfold ParseP at hp1
  rw [pp_parse1, show pw1.length = 14 from rfl] at hp1
  have HP1 := Lib.hid hp1
  clear hx hb3 hb3w hp1 HPR
  go_wp2_with fail
  with_reducible refine HP1.out.mono ?_
  rintro e w4 ⟨v4, rfl, hr4, hb4⟩
  have hx4 := (hb4.block _ (lt_of_block HX.out)).trans HX.out
  obtain ⟨c0, c1⟩ := two_cells hx4
  have hlt4 := lt_of_block hx4
  have HB4 := Lib.hid (HB3.out.trans (hb4.mono HB3.out.size))
  obtain ⟨ao4, cap4, hv4, _⟩ := ownsRow_shape hr4
  subst hv4
  have hn := S.name 1 (w4.alloc (.cells #[.bool false, .slice ao4 0 cap4] 24)) (by unfold small; decide) (S.keep HG.out (HB4.out.alloc HB4.out.size _))
  rw [pp_name] at hn
  have HNM := Lib.hid hn
  clear hr4 hb4 hn hx4 HP1
  go_wp2_with fail
  with_reducible refine HNM.out.mono ?_
  rintro e w5 ⟨rfl, hb5⟩
  have HB5 := Lib.hid ((HB4.out.alloc HB4.out.size _).trans (hb5.mono (by have := HB4.out.size; simp; omega)))
  clear hb5
  go_wp2
  go_ret
  exact ⟨rfl, HB5.out⟩
end Go.Proofs.YtmcfjlkjijaflaaDoor
