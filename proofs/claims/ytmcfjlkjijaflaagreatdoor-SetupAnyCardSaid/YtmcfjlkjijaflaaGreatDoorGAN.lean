/-
  The program's begins: is that word one of a part's firsts?
  Lines of the program's, by what their numbers are: may.
-/
import Derived.Test.YtmcfjlkjijaflaaGreatDoorGAM

/- The program's begins: is that word one of a part's firsts? -/
namespace Go.Proofs.YtmcfjlkjijaflaaGreatDoor
open Go.RowKit

def firstOf (x : Wd) (f : ByteArray) : Bool := decide (x = (1, f.data.toList, 0, 0))
abbrev begV (B : Nat) : Value := .func (.func 120) #[] #[.pointer (some ⟨B, 0, none⟩)]
/-- A word's box. -/
abbrev WBox (w : World) (B : Nat) (x : Wd) : Prop := w.heap[B]? = some (.cells #[.int .i64 x.1, .string ⟨x.2.1.toArray⟩, .int .i64 x.2.2.1, .int .i64 x.2.2.2] 72 (0, 0))
set_option maxRecDepth 100000 in
set_option maxHeartbeats 3200000 in
theorem begin1_any (B : Nat) (x : Wd) (f : ByteArray) (w : World) (h : WBox w B x) :
    Calls Tryz.prog 120 #[.string f, .pointer (some ⟨B, 0, none⟩)] w fun e w' => e = .returned (.bool (firstOf x f)) ∧ Below w.heap.size w w' := by
  unfold firstOf
  have hq := fun W => eq_words x (1, f.data.toList, 0, 0) W
  have hl := lt_of_block h
  unfold wdV at hq
  simp only [Lib.mk_data] at hq
  unfold WBox at h
  obtain ⟨x0, tl, x2, x3⟩ := x
  simp only at h hq
  obtain ⟨tx, htx⟩ : ∃ t : ByteArray, ⟨tl.toArray⟩ = t := ⟨_, rfl⟩
  rw [htx] at h
  simp only [htx] at hq
  obtain ⟨q, hqq⟩ : ∃ q, decide ((x0, tl, x2, x3) = ((1, f.data.toList, 0, 0) : Wd)) = q := ⟨_, rfl⟩
  rw [hqq]
  simp only [hqq] at hq
  have HK := Lib.hid (fun V (hV : Below w.heap.size w V) => word_cells ((hV.block _ hl).trans h))
  have HNM := Lib.hid (fun W => pname_any f W)
  have s0 := HK.out w.drew (Below.refl _ _).drew
  clear h htx hqq
  go_enter Tryz.func120, Tryz.ntmps120
  go_wp2_with fail
  go_region_held3 (fun V => V.cell? ⟨B, 0, none⟩ = some (.int .i64 x0) ∧ V.cell? ⟨B, 1, none⟩ = some (.string tx) ∧ V.cell? ⟨B, 2, none⟩ = some (.int .i64 x2) ∧ V.cell? ⟨B, 3, none⟩ = some (.int .i64 x3))
    (first | exact s0 | exact s1)
    (first
      | (go_at_call 54
         with_reducible refine (HNM.out _).mono ?_
         rintro r V1 ⟨rfl, hb⟩
         have HV1 := Lib.hid ((Below.refl w.heap.size w).drew.trans hb)
         have s1 := HK.out _ HV1.out
         clear hb))
  clear s0 s1 hq
  go_wp2
  go_ret
  exact ⟨rfl, HV1.out⟩
set_option maxRecDepth 100000 in
set_option maxHeartbeats 1600000 in
theorem indexfirst_any (B pb off pc : Nat) (x : Wd) (F : List ByteArray) (w : World) (hx : WBox w B x) (h : TArg w pb off F) (hm : F.length ≤ 100000) :
    Calls Tryz.prog 125 #[.slice (some ⟨pb, off, none⟩) F.length pc, begV B] w fun e w' => (∃ r : Int, e = .returned (.int .i64 r) ∧ decide (0 ≤ r) = F.any (firstOf x)) ∧ Below w.heap.size w w' := by
  have HA := Lib.hid h
  have HR := Lib.hid (fun f V (hV : Below w.heap.size w V) => begin1_any B x f V ((hV.block _ (lt_of_block hx)).trans hx))
  obtain ⟨n, hn⟩ : ∃ n, F.length = n := ⟨_, rfl⟩
  have HN := Lib.hid hn
  rw [hn] at hm ⊢
  clear h hn hx
  go_enter Tryz.func125, Tryz.ntmps125
  go_wp2
  go_loopw [8] (fun s wr => ∃ i : Nat, s = .int .i64 (i : Nat) ∧ i ≤ n ∧ Hid (Below w.heap.size w wr) ∧ Hid (∀ j (hj : j < F.length), j < i → firstOf x F[j] = false)) (fun s _ => n - (intOf s).toNat)
  case atStart => exact ⟨0, rfl, Nat.zero_le _, Below.refl _ w, fun j _ hj => absurd hj (Nat.not_lt_zero _)⟩
  case round =>
    obtain ⟨i, rfl, hi, HB, HO⟩ := hrel
    by_cases hlt : i < n
    · have hiL : i < F.length := by rw [HN.out]; exact hlt
      have hA := HA.out.below HB.out
      have x0 := hA.cells i hiL
      obtain ⟨f, hf⟩ : ∃ f, F[i] = f := ⟨_, rfl⟩
      rw [hf] at x0
      have HX := Lib.hid hf
      have i0 : (0 : Int) ≤ i := by omega
      have i1 : (i : Int) < n := by omega
      have i2 : IntKind.i64.wrap ((i : Int) + 1) = (i : Int) + 1 := by rw [IntKind.wrap_i64]; omega
      have HRK := Lib.hid (HR.out f wr HB.out)
      obtain ⟨q, hq⟩ : ∃ q, firstOf x f = q := ⟨_, rfl⟩
      have HQ := Lib.hid hq
      rw [hq] at HRK
      clear hf hq hA
      cases q with
      | true =>
        have HE : Hid (F.any (firstOf x) = true) := Lib.hid (by
          rw [List.any_eq_true]
          exact ⟨_, List.getElem_mem hiL, by rw [HX.out]; exact HQ.out⟩)
        go_wp2_with fail
        with_reducible refine HRK.out.mono ?_
        rintro e w1 ⟨rfl, hb⟩
        have HB1 := Lib.hid (HB.out.trans (hb.mono HB.out.size))
        clear hb
        go_wp2
        go_ret
        exact ⟨⟨_, rfl, by rw [HE.out]; exact decide_eq_true i0⟩, HB1.out⟩
      | false =>
        have HO2 : Hid (∀ j (hj : j < F.length), j < i + 1 → firstOf x F[j] = false) := Lib.hid (fun j hj hji => by
          rcases Nat.lt_or_ge j i with h | h
          · exact HO.out j hj h
          · obtain rfl : j = i := by omega
            rw [HX.out]
            exact HQ.out)
        go_wp2_with fail
        with_reducible refine HRK.out.mono ?_
        rintro e w1 ⟨rfl, hb⟩
        have HB1 := Lib.hid (HB.out.trans (hb.mono HB.out.size))
        clear hb
        go_wp2
        go_roundw
        case rel => exact ⟨i + 1, by go_num, by omega, HB1, HO2⟩
        case measure => simp [intOf]; omega
    · have HE : Hid (F.any (firstOf x) = false) := Lib.hid (by
        rw [List.any_eq_false]
        intro o ho
        obtain ⟨j, hj, rfl⟩ := List.getElem_of_mem ho
        rw [HO.out j hj (by have := HN.out; omega)]
        decide)
      go_wp2
      go_ret
      exact ⟨⟨_, rfl, by rw [HE.out]; rfl⟩, HB.out⟩
set_option maxRecDepth 100000 in
theorem containsfirst_any (B pb off pc : Nat) (x : Wd) (F : List ByteArray) (w : World) (hx : WBox w B x) (h : TArg w pb off F) (hm : F.length ≤ 100000) :
    Calls Tryz.prog 119 #[.slice (some ⟨pb, off, none⟩) F.length pc, begV B] w fun e w' => e = .returned (.bool (F.any (firstOf x))) ∧ Below w.heap.size w w' := by
  have HI := Lib.hid (indexfirst_any B pb off pc x F w hx h hm)
  obtain ⟨n, hn⟩ : ∃ n, F.length = n := ⟨_, rfl⟩
  obtain ⟨q, hq⟩ : ∃ q, F.any (firstOf x) = q := ⟨_, rfl⟩
  rw [hn, hq] at HI
  rw [hn, hq]
  clear h hn hq hm hx
  go_enter Tryz.func119, Tryz.ntmps119
  go_wp2_with fail
  with_reducible refine HI.out.mono ?_
  rintro e w1 ⟨⟨r, rfl, hr⟩, hb⟩
  have HR := Lib.hid hr
  have HB := Lib.hid hb
  clear hr hb
  go_wp2
  go_ret
  exact ⟨by rw [← HR.out]; rfl, HB.out⟩
set_option maxRecDepth 100000 in
set_option maxHeartbeats 1600000 in
theorem begins_any (lo hi : Int) (pb off pc : Nat) (x : Wd) (F : List ByteArray) (w : World) (h : TArg w pb off F) (hm : F.length ≤ 100000) :
    Calls Tryz.prog 106 #[.agg #[.int .i64 lo, .int .i64 hi, .slice (some ⟨pb, off, none⟩) F.length pc], wdV x] w fun e w' => e = .returned (.bool (F.any (firstOf x))) ∧ Below w.heap.size w w' := by
  have hb : Below w.heap.size w ((w.alloc (.cells #[.int .i64 lo, .int .i64 hi, .slice (some ⟨pb, off, none⟩) F.length pc] 117)).alloc (.cells #[.int .i64 x.1, .string ⟨x.2.1.toArray⟩, .int .i64 x.2.2.1, .int .i64 x.2.2.2] 72)) := ((Below.refl _ w).alloc (Nat.le_refl _) _).alloc (by simp) _
  have hw := heap_alloc_new (w.alloc (.cells #[.int .i64 lo, .int .i64 hi, .slice (some ⟨pb, off, none⟩) F.length pc] 117)) (.cells #[.int .i64 x.1, .string ⟨x.2.1.toArray⟩, .int .i64 x.2.2.1, .int .i64 x.2.2.2] 72)
  simp only [World.size_alloc] at hw
  have HC := Lib.hid (containsfirst_any (w.heap.size + 1) pb off pc x F _ hw (h.below hb) hm)
  have HB := Lib.hid hb
  obtain ⟨n, hn⟩ : ∃ n, F.length = n := ⟨_, rfl⟩
  obtain ⟨q, hq⟩ : ∃ q, F.any (firstOf x) = q := ⟨_, rfl⟩
  unfold wdV
  rw [hn, hq] at HC
  rw [hn] at HB
  rw [hn, hq]
  obtain ⟨tx, htx⟩ : ∃ t : ByteArray, ⟨x.2.1.toArray⟩ = t := ⟨_, rfl⟩
  rw [htx] at HC HB ⊢
  clear h hn hq hm hw hb htx
  go_enter Tryz.func106, Tryz.ntmps106
  go_wp2_with fail
  with_reducible refine HC.out.mono ?_
  rintro e w1 ⟨rfl, hb⟩
  have HB1 := Lib.hid (HB.out.trans (hb.mono (by simp; omega)))
  clear hb
  go_wp2
  go_ret
  exact ⟨rfl, HB1.out⟩
end Go.Proofs.YtmcfjlkjijaflaaGreatDoor

/- Lines of the program's, by what their numbers are: may. -/
namespace Go.Proofs.YtmcfjlkjijaflaaGreatDoor
open Go.RowKit

/-- A line's numbers: name, most, what it is. -/
abbrev Vn := ByteArray × Int × Int
structure QArg (w : World) (nb off : Nat) (M : List Vn) : Prop where
  blk : ∃ X f, w.heap[nb]? = some (.cells X 102 f)
  cells : ∀ i (hi : i < M.length), ∃ p : Addr, w.cell? ⟨nb, off + i * 4, none⟩ = some (.string M[i].1) ∧ w.cell? ⟨nb, off + i * 4 + 1, none⟩ = some (.int .i64 1) ∧ w.cell? ⟨nb, off + i * 4 + 2, none⟩ = some (.int .i64 M[i].2.1) ∧ w.cell? ⟨nb, off + i * 4 + 3, none⟩ = some (.pointer (some ⟨p.block, p.off, none⟩)) ∧
    w.cell? ⟨p.block, p.off, none⟩ = some (.int .i64 M[i].2.2) ∧ ∃ X t f, w.heap[p.block]? = some (.cells X t f) ∧ t ≠ 58
theorem QArg.same {w w' : World} {nb off : Nat} {M : List Vn} (h : QArg w nb off M) (hs : ∀ (k : Nat) (X : Array Value) (t : TypeId) (f : Nat × Nat), w.heap[k]? = some (.cells X t f) → t ≠ 58 → w'.heap[k]? = w.heap[k]?) : QArg w' nb off M := by
  obtain ⟨X, f, hb⟩ := h.blk
  have e := hs nb X _ f hb (by decide)
  have ec : ∀ o, w'.cell? ⟨nb, o, none⟩ = w.cell? ⟨nb, o, none⟩ := fun o => by simp only [World.cell?, e]
  refine ⟨⟨X, f, e.trans hb⟩, fun i hi => ?_⟩
  obtain ⟨p, h0, h1, h2, h3, h4, Y, t, g, h5, h6⟩ := h.cells i hi
  have e2 := hs p.block Y t g h5 h6
  have ec2 : ∀ o, w'.cell? ⟨p.block, o, none⟩ = w.cell? ⟨p.block, o, none⟩ := fun o => by simp only [World.cell?, e2]
  exact ⟨p, (ec _).trans h0, (ec _).trans h1, (ec _).trans h2, (ec _).trans h3, (ec2 _).trans h4, Y, t, g, e2.trans h5, h6⟩
theorem QArg.below {w w' : World} {nb off : Nat} {M : List Vn} (h : QArg w nb off M) (hb : Below w.heap.size w w') : QArg w' nb off M :=
  h.same fun _ _ _ _ hk _ => hb.block _ (lt_of_block hk)
theorem QArg.lt {w : World} {nb off : Nat} {M : List Vn} (h : QArg w nb off M) : nb < w.heap.size := by
  obtain ⟨X, f, h⟩ := h.blk
  exact lt_of_block h
/-- What lies in a cell. -/
def valAt (X : Array Value) (o : Nat) : Int := match X[o]? with | some (.int _ v) => v | _ => 0
theorem QArg.of {w : World} {nb off T : Nat} {N : List Nm} (h : NArg w nb off T N) {X : Array Value} {t : TypeId} (hT : w.heap[T]? = some (.cells X t (0, 0))) (ht : t ≠ 58) (hX : ∀ x ∈ N, X[x.2.2]? = some (.int .i64 (valAt X x.2.2))) : QArg w nb off (N.map fun x => (x.1, x.2.1, valAt X x.2.2)) := by
  refine ⟨h.blk, fun i hi => ?_⟩
  have hi2 : i < N.length := by simpa using hi
  obtain ⟨h0, h1, h2, h3⟩ := h.cells i hi2
  simp only [List.getElem_map]
  refine ⟨⟨T, N[i].2.2, none⟩, h0, h1, h2, h3, ?_, X, t, (0, 0), hT, ht⟩
  have := hX _ (List.getElem_mem hi2)
  simp only [World.cell?, hT]
  exact this
def offM (x : Vn) : Bool := !inS x.2.2 x.2.1
set_option maxRecDepth 100000 in
set_option maxHeartbeats 1600000 in
theorem off_any (nm : ByteArray) (most v : Int) (p : Addr) (w : World) (hp : w.cell? ⟨p.block, p.off, none⟩ = some (.int .i64 v)) (hl : p.block < w.heap.size) :
    Calls Tryz.prog 98 #[.agg #[.string nm, .int .i64 1, .int .i64 most, .pointer (some ⟨p.block, p.off, none⟩)]] w fun e w' => e = .returned (.bool (offM (nm, most, v))) ∧ Below w.heap.size w w' := by
  have hb : Below w.heap.size w (w.alloc (.cells #[.string nm, .int .i64 1, .int .i64 most, .pointer (some ⟨p.block, p.off, none⟩)] 102)) := (Below.refl _ w).alloc (Nat.le_refl _) _
  have h0 := heap_alloc_new w (.cells #[.string nm, .int .i64 1, .int .i64 most, .pointer (some ⟨p.block, p.off, none⟩)] 102)
  have HK := Lib.hid (fun V (hV : Below (w.alloc (.cells #[.string nm, .int .i64 1, .int .i64 most, .pointer (some ⟨p.block, p.off, none⟩)] 102)).heap.size (w.alloc (.cells #[.string nm, .int .i64 1, .int .i64 most, .pointer (some ⟨p.block, p.off, none⟩)] 102)) V) => (by
    obtain ⟨y0, y1, y2, y3⟩ := word_cells ((hV.block _ (lt_of_block h0)).trans h0)
    have hb2 : Below w.heap.size w V := hb.trans (hV.mono hb.size)
    exact ⟨y1, y2, y3, (hb2.cell (p := ⟨p.block, p.off, none⟩) hl).trans hp⟩ : V.cell? ⟨w.heap.size, 1, none⟩ = some (.int .i64 1) ∧ V.cell? ⟨w.heap.size, 2, none⟩ = some (.int .i64 most) ∧ V.cell? ⟨w.heap.size, 3, none⟩ = some (.pointer (some ⟨p.block, p.off, none⟩)) ∧ V.cell? ⟨p.block, p.off, none⟩ = some (.int .i64 v)))
  have HH := Lib.hid (fun W => has_any 1 most v W)
  have HB0 := Lib.hid ((Below.refl (w.alloc (.cells #[.string nm, .int .i64 1, .int .i64 most, .pointer (some ⟨p.block, p.off, none⟩)] 102)).heap.size (w.alloc (.cells #[.string nm, .int .i64 1, .int .i64 most, .pointer (some ⟨p.block, p.off, none⟩)] 102))).drew)
  have HB := Lib.hid hb
  obtain ⟨q, hq⟩ : ∃ q, inS v most = q := ⟨_, rfl⟩
  have hq2 : (decide (1 ≤ v) && decide (v ≤ most)) = q := hq
  have ho : offM (nm, most, v) = !q := by unfold offM; rw [hq]
  rw [ho]
  simp only [hq2] at HH
  have s0 := HK.out _ HB0.out
  clear hb h0 hp hq hq2 ho
  go_enter Tryz.func98, Tryz.ntmps98
  go_wp2_with fail
  go_region_held3 (fun V => V.cell? ⟨w.heap.size, 1, none⟩ = some (.int .i64 1) ∧ V.cell? ⟨w.heap.size, 2, none⟩ = some (.int .i64 most) ∧ V.cell? ⟨w.heap.size, 3, none⟩ = some (.pointer (some ⟨p.block, p.off, none⟩)) ∧ V.cell? ⟨p.block, p.off, none⟩ = some (.int .i64 v))
    (first | exact s0 | exact s1)
    (first
      | (go_at_call 64
         with_reducible refine (HH.out _).mono ?_
         rintro r V1 ⟨rfl, hb⟩
         have HV1 := Lib.hid (HB0.out.trans (hb.mono HB0.out.size))
         have s1 := HK.out _ HV1.out
         clear hb))
  clear s0 s1
  go_wp2
  go_ret
  exact ⟨rfl, HB.out.trans (HV1.out.mono HB.out.size)⟩
abbrev offV : Value := .func (.func 98) #[] #[]
set_option maxRecDepth 100000 in
set_option maxHeartbeats 1600000 in
theorem indexoff_any (nb off nc : Nat) (M : List Vn) (w : World) (h : QArg w nb off M) (hm : M.length ≤ 100) :
    Calls Tryz.prog 113 #[.slice (some ⟨nb, off, none⟩) M.length nc, offV] w fun e w' => (∃ r : Int, e = .returned (.int .i64 r) ∧ decide (0 ≤ r) = M.any offM) ∧ Below w.heap.size w w' := by
  have HA := Lib.hid h
  obtain ⟨n, hn⟩ : ∃ n, M.length = n := ⟨_, rfl⟩
  have HN := Lib.hid hn
  rw [hn] at hm ⊢
  clear h hn
  go_enter Tryz.func113, Tryz.ntmps113
  go_wp2
  go_loopw [8] (fun s wr => ∃ i : Nat, s = .int .i64 (i : Nat) ∧ i ≤ n ∧ Hid (Below w.heap.size w wr) ∧ Hid (∀ j (hj : j < M.length), j < i → offM M[j] = false)) (fun s _ => n - (intOf s).toNat)
  case atStart => exact ⟨0, rfl, Nat.zero_le _, Below.refl _ w, fun j _ hj => absurd hj (Nat.not_lt_zero _)⟩
  case round =>
    obtain ⟨i, rfl, hi, HB, HO⟩ := hrel
    by_cases hlt : i < n
    · have hiL : i < M.length := by rw [HN.out]; exact hlt
      have hA := HA.out.below HB.out
      have hbl := hA.lt
      have hcells := hA.cells i hiL
      obtain ⟨⟨nm, most, v⟩, hx⟩ : ∃ x, M[i] = x := ⟨_, rfl⟩
      rw [hx] at hcells
      obtain ⟨p, x0, x1, x2, x3, x4, Y, t, g, x5, _⟩ := hcells
      simp only at x0 x1 x2 x3 x4
      have HX := Lib.hid hx
      have i0 : (0 : Int) ≤ i := by omega
      have i1 : (i : Int) < n := by omega
      have i2 : IntKind.i64.wrap ((i : Int) + 1) = (i : Int) + 1 := by rw [IntKind.wrap_i64]; omega
      have HRK := Lib.hid (off_any nm most v p wr x4 (lt_of_block x5))
      obtain ⟨q, hq⟩ : ∃ q, offM (nm, most, v) = q := ⟨_, rfl⟩
      have HQ := Lib.hid hq
      rw [hq] at HRK
      clear hx hq hA x4 x5
      cases q with
      | true =>
        have HE : Hid (M.any offM = true) := Lib.hid (by
          rw [List.any_eq_true]
          exact ⟨_, List.getElem_mem hiL, by rw [HX.out]; exact HQ.out⟩)
        go_wp2_with fail
        with_reducible refine HRK.out.mono ?_
        rintro e w1 ⟨rfl, hb⟩
        have HB1 := Lib.hid (HB.out.trans (hb.mono HB.out.size))
        clear hb
        go_wp2
        go_ret
        exact ⟨⟨_, rfl, by rw [HE.out]; exact decide_eq_true i0⟩, HB1.out⟩
      | false =>
        have HO2 : Hid (∀ j (hj : j < M.length), j < i + 1 → offM M[j] = false) := Lib.hid (fun j hj hji => by
          rcases Nat.lt_or_ge j i with h | h
          · exact HO.out j hj h
          · obtain rfl : j = i := by omega
            rw [HX.out]
            exact HQ.out)
        go_wp2_with fail
        with_reducible refine HRK.out.mono ?_
        rintro e w1 ⟨rfl, hb⟩
        have HB1 := Lib.hid (HB.out.trans (hb.mono HB.out.size))
        clear hb
        go_wp2
        go_roundw
        case rel => exact ⟨i + 1, by go_num, by omega, HB1, HO2⟩
        case measure => simp [intOf]; omega
    · have HE : Hid (M.any offM = false) := Lib.hid (by
        rw [List.any_eq_false]
        intro o ho
        obtain ⟨j, hj, rfl⟩ := List.getElem_of_mem ho
        rw [HO.out j hj (by have := HN.out; omega)]
        decide)
      go_wp2
      go_ret
      exact ⟨⟨_, rfl, by rw [HE.out]; rfl⟩, HB.out⟩
set_option maxRecDepth 100000 in
theorem containsoff_any (nb off nc : Nat) (M : List Vn) (w : World) (h : QArg w nb off M) (hm : M.length ≤ 100) :
    Calls Tryz.prog 97 #[.slice (some ⟨nb, off, none⟩) M.length nc, offV] w fun e w' => e = .returned (.bool (M.any offM)) ∧ Below w.heap.size w w' := by
  have HI := Lib.hid (indexoff_any nb off nc M w h hm)
  obtain ⟨n, hn⟩ : ∃ n, M.length = n := ⟨_, rfl⟩
  obtain ⟨q, hq⟩ : ∃ q, M.any offM = q := ⟨_, rfl⟩
  rw [hn, hq] at HI
  rw [hn, hq]
  clear h hn hq hm
  go_enter Tryz.func97, Tryz.ntmps97
  go_wp2_with fail
  with_reducible refine HI.out.mono ?_
  rintro e w1 ⟨⟨r, rfl, hr⟩, hb⟩
  have HR := Lib.hid hr
  have HB := Lib.hid hb
  clear hr hb
  go_wp2
  go_ret
  exact ⟨by rw [← HR.out]; rfl, HB.out⟩
/-- Whether all numbers of a line may be. -/
theorem linemay_any (first : ByteArray) (nb nc : Nat) (M : List Vn) (w : World) (h : QArg w nb 0 M) (hm : M.length ≤ 100) :
    Calls Tryz.prog 67 #[.agg #[.string first, .slice (some ⟨nb, 0, none⟩) M.length nc]] w fun e w' => e = .returned (.bool (M.all fun x => inS x.2.2 x.2.1)) ∧ Below w.heap.size w w' := by
  have hb : Below w.heap.size w (w.alloc (.cells #[.string first, .slice (some ⟨nb, 0, none⟩) M.length nc] 58)) := (Below.refl _ w).alloc (Nat.le_refl _) _
  have HC := Lib.hid (containsoff_any nb 0 nc M _ (h.below hb) hm)
  have HB := Lib.hid hb
  have e : (M.all fun x => inS x.2.2 x.2.1) = !(M.any offM) := by
    clear HC HB hb hm h
    induction M with
    | nil => rfl
    | cons x M ih => rw [List.all_cons, List.any_cons, ih]; unfold offM; cases inS x.2.2 x.2.1 <;> simp
  obtain ⟨q, hq⟩ : ∃ q, M.any offM = q := ⟨_, rfl⟩
  rw [e, hq]
  rw [hq] at HC
  obtain ⟨n, hn⟩ : ∃ n, M.length = n := ⟨_, rfl⟩
  rw [hn] at HC HB ⊢
  clear h hm hb e hq hn
  go_enter Tryz.func67, Tryz.ntmps67
  go_wp2_with fail
  with_reducible refine HC.out.mono ?_
  rintro r w1 ⟨rfl, hb⟩
  have HB1 := Lib.hid (HB.out.trans (hb.mono HB.out.size))
  clear hb
  go_wp2
  go_ret
  exact ⟨rfl, HB1.out⟩
end Go.Proofs.YtmcfjlkjijaflaaGreatDoor
