/-
  The program's Sections, and what a loop over it hands out.
-/
import Derived.Test.YtmcfjlkjijaflaaCrSec
import Derived.Test.YtmcfjlkjijaflaaPgMay
namespace Go.Proofs.Ytmcfjlkjijaflaa
open Go.RowKit Go.Maps Go.Shelf

/-- A section: from, to, lock, ticks. -/
abbrev Sec := Nat × Nat × Int × Int
def secAt (L : List Opn) (i : Nat) : Sec := (i, (secR (L.getD i (0, 0, 0)).2.1 (L.drop (i + 1)) (i + 1) 0).1, (L.getD i (0, 0, 0)).2.1, (secR (L.getD i (0, 0, 0)).2.1 (L.drop (i + 1)) (i + 1) 0).2)
/-- Those that begin ahead of place k. -/
def secsTo (L : List Opn) : Nat → List Sec
  | 0 => []
  | k + 1 => if takesR (L.getD k (0, 0, 0)) then secsTo L k ++ [secAt L k] else secsTo L k
def secsR (L : List Opn) : List Sec := secsTo L L.length
theorem secs_step (L : List Opn) (k : Nat) : secsTo L k <+: secsTo L (k + 1) := by
  conv => { rhs; unfold secsTo }
  split
  · exact List.prefix_append _ _
  · exact List.prefix_refl _
theorem secs_le (L : List Opn) (k : Nat) : ∀ d, secsTo L k <+: secsTo L (k + d)
  | 0 => List.prefix_refl _
  | d + 1 => (secs_le L k d).trans (secs_step L (k + d))
theorem secs_pre {L : List Opn} {k : Nat} (h : k ≤ L.length) : secsTo L k <+: secsR L := by
  have h2 := secs_le L k (L.length - k)
  rw [Nat.add_sub_cancel' h] at h2
  exact h2
abbrev encS (x : Sec) : Array Value := #[.agg #[.int .i64 (x.1 : Nat), .int .i64 (x.2.1 : Nat), .int .i64 x.2.2.1, .int .i64 x.2.2.2]]
set_option maxRecDepth 100000 in
theorem sections_any (f : Bool) (ao : Option Addr) (b off cap : Nat) (L : List Opn) (w : World) (h : OArg w ao b off L) (hm : L.length ≤ 100000) :
    Calls Try.prog 11 #[prgV f ao L.length cap] w fun e w' => ∃ B, e = .returned (.func (.func 21) #[] #[.pointer (some ⟨B, 0, none⟩)]) ∧ KeptO w.heap.size w' B L ∧ Below w.heap.size w w' := by
  have h0 := h.below ((Below.refl _ w).alloc (Nat.le_refl _) (.cells #[.bool f, .slice ao L.length cap] 24))
  have HC := Lib.hid (clone_any ao b off cap L _ h0 hm)
  clear h h0 hm
  obtain ⟨n, hn⟩ : ∃ n, L.length = n := ⟨_, rfl⟩
  rw [hn] at HC ⊢
  clear hn
  go_enter Try.func11, Try.ntmps11
  go_wp2_with fail
  refine HC.out.mono ?_
  rintro e w1 ⟨v, rfl, hrow, hb⟩
  obtain ⟨av, vcap, rfl, _, _⟩ := ownsRow_shape hrow
  have hb2 := (box_kept hb).2
  have HK := Lib.hid (show KeptO w.heap.size (w1.alloc (.cells #[.slice av L.length vcap] 22)) w1.heap.size L from ⟨_, heap_alloc_new w1 _, hb2.size, row_base (hrow.alloc _) (by simp)⟩)
  have HB := Lib.hid (hb2.alloc hb2.size (.cells #[.slice av L.length vcap] 22))
  clear hrow hb hb2
  go_wp2
  go_ret
  exact ⟨_, rfl, HK.out, HB.out⟩
attribute [local go_sem] Oper.semAt_some
set_option maxRecDepth 100000 in
set_option maxHeartbeats 3200000 in
/-- **THE LOOP OVER A PROGRAM's SECTIONS**: all of them; or the first ones. -/
theorem secs1_seq {n n₀ : Nat} (hn : 1 ≤ n) {w : World} {B : Nat} {L : List Opn} (h : KeptO n₀ w B L) (hL : L.length ≤ 12) (ho : ∀ o ∈ L, opMay o = true) :
    ∃ Y : List Nat, (∀ k ∈ Y, n₀ ≤ k ∧ k < w.heap.size) ∧ TurnSeq Fence.wide n Try.prog 21 #[.pointer (some ⟨B, 0, none⟩)] encS [] Y (fun xs => xs <+: secsR L) (fun xs _ => xs = secsR L) (fun xs _ => xs <+: secsR L) w := by
  obtain ⟨cv, h1, h2, h3⟩ := h
  refine ⟨B :: cv.ownBlock.toList, fun k hk => ?_, ?_⟩
  · rcases List.mem_cons.1 hk with rfl | hk
    · exact ⟨h2, lt_of_block h1⟩
    · exact ⟨(h3.lt k (by simpa using hk)).1, ownsRow_lt h3 k hk⟩
  intro l J Jx W hW hJ hY hj0
  have hb0 := hW.same h1 (by simp)
  have b0 := cell1 hb0
  have hr := ownsRow_same (w' := W) h3 (fun k _ hl => hW.block k hl (by simp))
  have HJ := Lib.hid hJ
  have HY := Lib.hid hY
  have HR := Lib.hid hr
  have HBX := Lib.hid hb0
  have HT := Lib.hid (fun k a c V => ctakes_any k a c V)
  have HO := Lib.hid ho
  obtain ⟨av, vcap, hv, _, _⟩ := ownsRow_shape hr
  subst hv
  clear hJ hY h1 h3 hr hb0 ho
  refine callsIn_of_wp Try.func21 rfl trivial ?_ rfl
  simp only [Try.ntmps21, List.size_toArray, List.length_cons, List.length_nil, Nat.reduceAdd, Nat.reduceSub, Array.replicate_succ, Array.replicate_zero, List.push_toArray, List.append_toArray, List.nil_append, List.cons_append]
  gi_wp2
  gi_loopw [7] (fun i wr => ∃ k : Nat, k ≤ L.length ∧ i = .int .i64 k ∧ Hid (J (secsTo L k) wr) ∧ Hid (ORow n₀ wr (.slice av L.length vcap) L) ∧ Hid (wr.heap[B]? = some (.cells #[.slice av L.length vcap] 22 (0, 0)))) (fun i _ => L.length - (intOf i).toNat)
  case atStart => exact ⟨0, Nat.zero_le _, rfl, Lib.hid hj0, HR, HBX⟩
  case round =>
    obtain ⟨k, hk, rfl, HJ0, HRR, HBB⟩ := hrel
    by_cases hlt : k < L.length
    · obtain ⟨g, cap', hv, _, _⟩ := ownsRow_pos HRR.out (by omega)
      simp only [Value.slice.injEq] at hv
      obtain ⟨rfl, _, rfl⟩ := hv
      have rc := row_op HRR.out k hlt
      have hd : L.getD k (0, 0, 0) = L[k] := by
        rw [List.getD_eq_getElem?_getD, List.getElem?_eq_getElem hlt]
        rfl
      have hat : OArg wr (some ⟨g, 0, none⟩) g 0 L := ⟨fun _ => ⟨rfl, ownsRow_lt HRR.out g (by simp [Value.ownBlock])⟩, fun i hi => by
        have hq := row_op HRR.out i hi
        simpa using hq⟩
      have HAT := Lib.hid hat
      have HSEC := Lib.hid (fun V (hV : Below wr.heap.size wr V) => csec_any (some ⟨g, 0, none⟩) g 0 vcap L k V (hat.below hV) hlt hL HO.out)
      have hnext : secsTo L (k + 1) = if takesR (L[k]) then secsTo L k ++ [secAt L k] else secsTo L k := by rw [← hd]; rfl
      have hsa : secAt L k = (k, (secR (L[k]).2.1 (L.drop (k + 1)) (k + 1) 0).1, (L[k]).2.1, (secR (L[k]).2.1 (L.drop (k + 1)) (k + 1) 0).2) := by rw [← hd]; rfl
      obtain ⟨⟨n1, n2, n3⟩, hnd⟩ : ∃ nd, L[k] = nd := ⟨_, rfl⟩
      rw [hnd] at rc hnext hsa HSEC
      simp only at rc HSEC hsa
      obtain ⟨r0, r1, r2⟩ := rc
      have hbl := cell1 HBB.out
      have hgl : g < wr.heap.size := ownsRow_lt HRR.out g (by simp [Value.ownBlock])
      have hBl : B < wr.heap.size := lt_of_block HBB.out
      have HTK := Lib.hid (fun V => HT.out n1 n2 n3 V)
      have HB0 := Lib.hid ((Below.refl wr.heap.size wr).alloc (Nat.le_refl _) (.cells #[.int .i64 n1, .int .i64 n2, .int .i64 n3] 38))
      have i1 : (k : Int) < L.length := by omega
      have i0 : (0 : Int) ≤ k := by omega
      have HNX := Lib.hid hnext
      have HSA := Lib.hid hsa
      obtain ⟨q, hq⟩ : ∃ q, takesR (n1, n2, n3) = q := ⟨_, rfl⟩
      rw [hq] at HNX
      simp only [hq] at HTK
      clear hnd hd hat hnext hsa hq
      cases q with
      | false =>
        gi_wp2_with fail
        refine ⟨trivial, ?_⟩
        refine (callsIn_wide.2 (HTK.out _)).mono ?_
        rintro e V ⟨rfl, hb⟩
        have HV := Lib.hid (HB0.out.trans (hb.mono HB0.out.size))
        clear hb
        gi_wp2_with fail
        refine ⟨trivial, ?_⟩
        gi_wp2_with fail
        refine ⟨fun _ h => (by cases h), ?_⟩
        gi_wp2
        go_roundw
        case rel => exact ⟨k + 1, by omega, by simp, Lib.hid (by rw [HNX.out]; exact HJ.out _ _ _ HJ0.out (turned_below0 HV.out)), Lib.hid (ownsRow_same HRR.out (fun j _ hl => HV.out.block j hl)), Lib.hid ((HV.out.block _ hBl).trans HBB.out)⟩
        case measure => simp [intOf]; omega
      | true =>
        gi_wp2_with fail
        refine ⟨trivial, ?_⟩
        refine (callsIn_wide.2 (HTK.out _)).mono ?_
        rintro e V ⟨rfl, hb⟩
        have HV := Lib.hid (HB0.out.trans (hb.mono HB0.out.size))
        have hbl2 := cell1 ((HV.out.block _ hBl).trans HBB.out)
        clear hb hbl
        gi_wp2_with fail
        refine ⟨trivial, ?_⟩
        refine (callsIn_wide.2 (HSEC.out _ HV.out)).mono ?_
        rintro e V2 ⟨rfl, hb⟩
        have HV2 := Lib.hid (HV.out.trans (hb.mono HV.out.size))
        have hsn : secsTo L (k + 1) = secsTo L k ++ [secAt L k] := by rw [HNX.out]; rfl
        have hpre : secsTo L k ++ [secAt L k] <+: secsR L := by rw [← hsn]; exact secs_pre (by omega)
        obtain ⟨fn, tmps, assign, body, hy, hR⟩ := HY.out (secsTo L k) (secAt L k) V2 (HJ.out _ _ _ HJ0.out (turned_below0 HV2.out)) hpre
        have HPRE := Lib.hid hpre
        have HSN := Lib.hid hsn
        rw [HSA.out] at hy hR
        clear hb hsn hpre
        (try dsimp only at hy hR)
        gi_wp2
        refine hR.mono ?_
        rintro e W3 ⟨hs, hz, ⟨rfl, hj3⟩ | ⟨rfl, hx3⟩⟩
        · have J3 := Lib.hid hj3
          have R3 := Lib.hid (ownsRow_same HRR.out (fun j hj hl => by
            have h1 := hs j (List.mem_cons_of_mem _ hj)
            rw [h1]
            exact HV2.out.block _ hl))
          have B3 := Lib.hid ((hs B (by simp)).trans ((HV2.out.block _ hBl).trans HBB.out))
          clear hj3 hs hz
          gi_wp2
          go_roundw
          case rel => exact ⟨k + 1, by omega, by simp, by rw [HSN.out, HSA.out]; exact J3, R3, B3⟩
          case measure => simp [intOf]; omega
        · have J3 := Lib.hid hx3
          clear hx3 hs hz
          gi_wp2
          refine bodyPost_ret (results_none rfl _ _ _) rfl ?_
          exact ⟨⟨_, rfl⟩, .inr ⟨_, HPRE.out, by rw [HSA.out]; exact J3.out⟩⟩
    · obtain rfl : k = L.length := by omega
      gi_wp2
      go_end0
      exact ⟨⟨_, rfl⟩, .inl (by first | exact HJ0.out | exact ⟨_, rfl, HJ0.out⟩)⟩
end Go.Proofs.Ytmcfjlkjijaflaa
