/-
  Setups, opened to their cells.
-/
import Derived.Test.YtmcfjlkjijaflaaGreatDoorGAP
import Derived.Test.YtmcfjlkjijaflaaGreatDoorGAE
namespace Go.Proofs.YtmcfjlkjijaflaaGreatDoor
open Go.ChangeShapes Go.WideShapes Go.ChangeAt Go.RowKit Go.Deep

section
variable {H : Type} {enc : TypeId × Value → H} {P : Program} {w : World} {base : Nat} {spare : Nat → Bool} {held : Bool}
/-- A slice of elements of k cells, whatever is said of each at its address. -/
theorem core_slice {α : Type} {t e : TypeId} {k : Nat} (ht : P.underlying t = some (.slice e)) (hC : P.cellsOf e = k) (Q : Addr → α → Prop) (z : α)
    (hel : ∀ (ad : Addr) (cs' : List Value) (n : Nat) (x : DataW H × List MemPlace), cs'.length = k → (∀ i, i < k → w.cell? (ad.add i) = cs'[i]?) → DataW.trod enc P w base spare held n e cs' = some x → ∃ y, Q ad y)
    (hsp : ∀ ad y, Q ad y → ∃ b off, ad = ⟨b, off, none⟩ ∧ b < w.heap.size)
    {fuel : Nat} {cs : List Value} {x : DataW H × List MemPlace} (h : DataW.trod enc P w base spare held fuel t cs = some x) :
    ∃ (ao : Option Addr) (b off cap : Nat) (L : List α), cs = [.slice ao L.length cap] ∧ (0 < L.length → ao = some ⟨b, off, none⟩ ∧ b < w.heap.size) ∧ ∀ i (hi : i < L.length), Q ⟨b, off + i * k, none⟩ L[i] := by
  rcases open_slice ht h with ⟨hcs, _⟩ | ⟨a, len, cap, m, n, D, Pl, hcs, hb, hl, hm, hmm, hx, hi⟩
  · exact ⟨none, 0, 0, 0, [], hcs, fun h => absurd h (by simp), fun i hi => absurd hi (by simp)⟩
  · have hlm : len ≤ m := by rw [hmm]; split <;> omega
    have each : ∀ i, ∃ y : α, i < len → Q (a.add (i * k)) y := by
      intro i
      by_cases hil : i < len
      · obtain ⟨cs', hc, ht'⟩ := hi i (by omega)
        rw [hC] at hc
        obtain ⟨_, hcl, hat⟩ := World.cells?_some hc
        obtain ⟨y, hy⟩ := hel _ cs' n _ hcl hat ht'
        exact ⟨y, fun _ => hy⟩
      · exact ⟨z, fun h => absurd h hil⟩
    obtain ⟨G, hG⟩ := Classical.axiomOfChoice each
    have hLl : ((List.range len).map G).length = len := by simp
    by_cases h0 : 0 < len
    · have q0 := hG 0 h0
      have ha0 : a.add (0 * k) = a := by
        unfold Addr.add
        simp
      rw [ha0] at q0
      obtain ⟨b, off, rfl, hbl⟩ := hsp _ _ q0
      refine ⟨_, b, off, cap, (List.range len).map G, by rw [hLl]; exact hcs, fun _ => ⟨rfl, hbl⟩, fun i hil => ?_⟩
      have hil' : i < len := by rw [hLl] at hil; exact hil
      have g := hG i hil'
      rw [Addr.add_lit] at g
      simp only [List.getElem_map, List.getElem_range]
      exact g
    · exact ⟨some a, 0, 0, cap, (List.range len).map G, by rw [hLl]; exact hcs, fun h => by rw [hLl] at h; omega, fun i hil => by rw [hLl] at hil; omega⟩
theorem add_zero (ad : Addr) : ad.add 0 = ad := by
  unfold Addr.add
  simp
theorem core_ints {t e : TypeId} (ht : P.underlying t = some (.slice e)) (hC : P.cellsOf e = 1) (he : P.underlying e = some (.int .i64)) {fuel : Nat} {cs : List Value} {x : DataW H × List MemPlace} (h : DataW.trod enc P w base spare held fuel t cs = some x) :
    ∃ (ao : Option Addr) (b off cap : Nat) (L : List Int), cs = [.slice ao L.length cap] ∧ IArg w ao b off L := by
  obtain ⟨ao, b, off, cap, L, h1, h2, h3⟩ := core_slice (α := Int) ht hC (fun ad y => w.cell? ad = some (.int .i64 y)) 0 (fun ad cs' n x hl hat hx => by
    obtain ⟨y, rfl, _⟩ := DataW.trod_int he hx
    have h0 := hat 0 (by omega)
    rw [add_zero] at h0
    exact ⟨y, h0⟩) (fun ad y hq => spot_none hq) h
  exact ⟨ao, b, off, cap, L, h1, h2, fun i hi => by have := h3 i hi; rw [Nat.mul_one] at this; exact this⟩
theorem cut1 {cs : List Value} {j : Nat} {fuel : Nat} {t : TypeId} {k : IntKind} {ys : List (DataW H × List MemPlace)} {i : Nat} (hi : i < ys.length) (ht : P.underlying t = some (.int k)) (h : DataW.trod enc P w base spare held fuel t ((cs.drop j).take 1) = ys[i]?) : ∃ n, cs[j]? = some (.int k n) ∧ (Lit.int k n).wf = true := by
  rw [List.getElem?_eq_getElem hi] at h
  obtain ⟨n, e, _, hw⟩ := DataW.trod_int ht h
  exact ⟨n, cell_cut e, hw⟩
theorem cut2 {cs : List Value} {j : Nat} {fuel : Nat} {t : TypeId} {ys : List (DataW H × List MemPlace)} {i : Nat} (hi : i < ys.length) (ht : P.underlying t = some .bool) (h : DataW.trod enc P w base spare held fuel t ((cs.drop j).take 1) = ys[i]?) : ∃ b, cs[j]? = some (.bool b) := by
  rw [List.getElem?_eq_getElem hi] at h
  obtain ⟨n, e, _⟩ := DataW.trod_bool ht h
  exact ⟨n, cell_cut e⟩
theorem core_locks {t e : TypeId} {f0 f1 f2 f3 f4 : Field} (ht : P.underlying t = some (.slice e)) (hC : P.cellsOf e = 5) (he : P.underlying e = some (.struct #[f0, f1, f2, f3, f4]))
    (o0 : f0.offset = 0) (o1 : f1.offset = 1) (o2 : f2.offset = 2) (o3 : f3.offset = 3) (o4 : f4.offset = 4) (c0 : P.cellsOf f0.type = 1) (c1 : P.cellsOf f1.type = 1) (c2 : P.cellsOf f2.type = 1) (c3 : P.cellsOf f3.type = 1) (c4 : P.cellsOf f4.type = 1)
    (k0 : P.underlying f0.type = some .bool) (k1 : P.underlying f1.type = some (.int .i64)) (k2 : P.underlying f2.type = some (.int .i64)) (k3 : P.underlying f3.type = some (.int .i64)) (k4 : P.underlying f4.type = some (.int .i64))
    {fuel : Nat} {cs : List Value} {x : DataW H × List MemPlace} (h : DataW.trod enc P w base spare held fuel t cs = some x) :
    ∃ (ao : Option Addr) (b off cap : Nat) (L : List Lk), cs = [.slice ao L.length cap] ∧ LArg w ao b off L := by
  obtain ⟨ao, b, off, cap, L, h1, h2, h3⟩ := core_slice (α := Lk) ht hC (fun ad y => w.cell? (ad.add 0) = some (.bool y.1) ∧ w.cell? (ad.add 1) = some (.int .i64 y.2.1) ∧ w.cell? (ad.add 2) = some (.int .i64 y.2.2.1) ∧ w.cell? (ad.add 3) = some (.int .i64 y.2.2.2.1) ∧ w.cell? (ad.add 4) = some (.int .i64 y.2.2.2.2)) (false, 0, 0, 0, 0) (fun ad cs' n x hl hat hx => by
    obtain ⟨ys, n', _, _, _, hyl, hg⟩ := DataW.trod_struct he hx
    simp only [List.size_toArray, List.length_cons, List.length_nil] at hyl
    have t0 := hg 0 f0 rfl
    have t1 := hg 1 f1 rfl
    have t2 := hg 2 f2 rfl
    have t3 := hg 3 f3 rfl
    have t4 := hg 4 f4 rfl
    rw [o0, c0] at t0
    rw [o1, c1] at t1
    rw [o2, c2] at t2
    rw [o3, c3] at t3
    rw [o4, c4] at t4
    obtain ⟨x0, e0⟩ := cut2 (by omega) k0 t0
    obtain ⟨x1, e1, _⟩ := cut1 (by omega) k1 t1
    obtain ⟨x2, e2, _⟩ := cut1 (by omega) k2 t2
    obtain ⟨x3, e3, _⟩ := cut1 (by omega) k3 t3
    obtain ⟨x4, e4, _⟩ := cut1 (by omega) k4 t4
    exact ⟨(x0, x1, x2, x3, x4), by rw [hat 0 (by omega), e0], by rw [hat 1 (by omega), e1], by rw [hat 2 (by omega), e2], by rw [hat 3 (by omega), e3], by rw [hat 4 (by omega), e4]⟩) (fun ad y hq => by
    have h0 := hq.1
    rw [add_zero] at h0
    exact spot_none h0) h
  exact ⟨ao, b, off, cap, L, h1, h2, fun i hi => by have := h3 i hi; simpa [Addr.add_lit] using this⟩
theorem core_ops {t e : TypeId} {f0 f1 f2 : Field} (ht : P.underlying t = some (.slice e)) (hC : P.cellsOf e = 3) (he : P.underlying e = some (.struct #[f0, f1, f2]))
    (o0 : f0.offset = 0) (o1 : f1.offset = 1) (o2 : f2.offset = 2) (c0 : P.cellsOf f0.type = 1) (c1 : P.cellsOf f1.type = 1) (c2 : P.cellsOf f2.type = 1)
    (k0 : P.underlying f0.type = some (.int .i64)) (k1 : P.underlying f1.type = some (.int .i64)) (k2 : P.underlying f2.type = some (.int .i64))
    {fuel : Nat} {cs : List Value} {x : DataW H × List MemPlace} (h : DataW.trod enc P w base spare held fuel t cs = some x) :
    ∃ (ao : Option Addr) (b off cap : Nat) (L : List Opn), cs = [.slice ao L.length cap] ∧ OArg w ao b off L ∧ ∀ o ∈ L, small o.1 := by
  obtain ⟨ao, b, off, cap, L, h1, h2, h3⟩ := core_slice (α := Opn) ht hC (fun ad y => (w.cell? (ad.add 0) = some (.int .i64 y.1) ∧ w.cell? (ad.add 1) = some (.int .i64 y.2.1) ∧ w.cell? (ad.add 2) = some (.int .i64 y.2.2)) ∧ small y.1) (0, 0, 0) (fun ad cs' n x hl hat hx => by
    obtain ⟨ys, n', _, _, _, hyl, hg⟩ := DataW.trod_struct he hx
    simp only [List.size_toArray, List.length_cons, List.length_nil] at hyl
    have t0 := hg 0 f0 rfl
    have t1 := hg 1 f1 rfl
    have t2 := hg 2 f2 rfl
    rw [o0, c0] at t0
    rw [o1, c1] at t1
    rw [o2, c2] at t2
    obtain ⟨x0, e0, w0⟩ := cut1 (by omega) k0 t0
    obtain ⟨x1, e1, _⟩ := cut1 (by omega) k1 t1
    obtain ⟨x2, e2, _⟩ := cut1 (by omega) k2 t2
    exact ⟨(x0, x1, x2), ⟨by rw [hat 0 (by omega), e0], by rw [hat 1 (by omega), e1], by rw [hat 2 (by omega), e2]⟩, small_of_wf w0⟩) (fun ad y hq => by
    have h0 := hq.1.1
    rw [add_zero] at h0
    exact spot_none h0) h
  refine ⟨ao, b, off, cap, L, h1, ⟨h2, fun i hi => by have := (h3 i hi).1; simpa [Addr.add_lit] using this⟩, fun o ho => ?_⟩
  obtain ⟨i, hi, rfl⟩ := List.getElem_of_mem ho
  exact (h3 i hi).2
theorem core_progs {t e tl eo : TypeId} {g0 g1 f0 f1 f2 : Field} (ht : P.underlying t = some (.slice e)) (hC : P.cellsOf e = 2) (he : P.underlying e = some (.struct #[g0, g1])) (q0 : g0.offset = 0) (q1 : g1.offset = 1) (d0 : P.cellsOf g0.type = 1) (d1 : P.cellsOf g1.type = 1)
    (kb : P.underlying g0.type = some .bool) (hg1 : g1.type = tl) (htl : P.underlying tl = some (.slice eo)) (hCo : P.cellsOf eo = 3) (heo : P.underlying eo = some (.struct #[f0, f1, f2]))
    (o0 : f0.offset = 0) (o1 : f1.offset = 1) (o2 : f2.offset = 2) (c0 : P.cellsOf f0.type = 1) (c1 : P.cellsOf f1.type = 1) (c2 : P.cellsOf f2.type = 1)
    (k0 : P.underlying f0.type = some (.int .i64)) (k1 : P.underlying f1.type = some (.int .i64)) (k2 : P.underlying f2.type = some (.int .i64))
    {fuel : Nat} {cs : List Value} {x : DataW H × List MemPlace} (h : DataW.trod enc P w base spare held fuel t cs = some x) :
    ∃ (ao : Option Addr) (b off cap : Nat) (L : List Prg), cs = [.slice ao L.length cap] ∧ GArg w ao b off L ∧ ∀ p ∈ L, ∀ o ∈ p.2, small o.1 := by
  obtain ⟨ao, b, off, cap, L, h1, h2, h3⟩ := core_slice (α := Prg) ht hC (fun ad y => (∃ (ai : Option Addr) (bi oi ci : Nat), w.cell? (ad.add 0) = some (.bool y.1) ∧ w.cell? (ad.add 1) = some (.slice ai y.2.length ci) ∧ OArg w ai bi oi y.2) ∧ ∀ o ∈ y.2, small o.1) (false, []) (fun ad cs' n x hl hat hx => by
    obtain ⟨ys, n', _, _, _, hyl, hg⟩ := DataW.trod_struct he hx
    simp only [List.size_toArray, List.length_cons, List.length_nil] at hyl
    have t0 := hg 0 g0 rfl
    have t1 := hg 1 g1 rfl
    rw [q0, d0] at t0
    rw [q1, d1, hg1] at t1
    obtain ⟨x0, e0⟩ := cut2 (by omega) kb t0
    rw [List.getElem?_eq_getElem (by omega)] at t1
    obtain ⟨ai, bi, oi, ci, M, hM, hO, hs⟩ := core_ops htl hCo heo o0 o1 o2 c0 c1 c2 k0 k1 k2 t1
    exact ⟨(x0, M), ⟨ai, bi, oi, ci, by rw [hat 0 (by omega), e0], by rw [hat 1 (by omega), cell_cut hM], hO⟩, hs⟩) (fun ad y hq => by
    obtain ⟨_, _, _, _, h0, _⟩ := hq.1
    rw [add_zero] at h0
    exact spot_none h0) h
  refine ⟨ao, b, off, cap, L, h1, ⟨h2, fun i hi => ?_⟩, fun p hp => ?_⟩
  · obtain ⟨ai, bi, oi, ci, e0, e1, e2⟩ := (h3 i hi).1
    exact ⟨ai, bi, oi, ci, by simpa [Addr.add_lit] using e0, by simpa [Addr.add_lit] using e1, e2⟩
  · obtain ⟨i, hi, rfl⟩ := List.getElem_of_mem hp
    exact (h3 i hi).2
theorem core_setup {tp : TypeId} {h0 h1 h2 h3 h4 : Field} (hp : P.underlying tp = some (.struct #[h0, h1, h2, h3, h4])) (hcp : P.cellsOf tp = 5) (o0 : h0.offset = 0) (o1 : h1.offset = 1) (o2 : h2.offset = 2) (o3 : h3.offset = 3) (o4 : h4.offset = 4)
    (c0 : P.cellsOf h0.type = 1) (c1 : P.cellsOf h1.type = 1) (c2 : P.cellsOf h2.type = 1) (c3 : P.cellsOf h3.type = 1) (c4 : P.cellsOf h4.type = 1) (k0 : P.underlying h0.type = some (.int .i64)) (k1 : P.underlying h1.type = some (.int .i64))
    (kg : ∀ (fuel : Nat) (cs : List Value) (x : DataW H × List MemPlace), DataW.trod enc P w base spare held fuel h2.type cs = some x → ∃ (ao : Option Addr) (b off cap : Nat) (L : List Int), cs = [.slice ao L.length cap] ∧ IArg w ao b off L)
    (kl : ∀ (fuel : Nat) (cs : List Value) (x : DataW H × List MemPlace), DataW.trod enc P w base spare held fuel h3.type cs = some x → ∃ (ao : Option Addr) (b off cap : Nat) (L : List Lk), cs = [.slice ao L.length cap] ∧ LArg w ao b off L)
    (kp : ∀ (fuel : Nat) (cs : List Value) (x : DataW H × List MemPlace), DataW.trod enc P w base spare held fuel h4.type cs = some x → ∃ (ao : Option Addr) (b off cap : Nat) (L : List Prg), cs = [.slice ao L.length cap] ∧ GArg w ao b off L ∧ ∀ p ∈ L, ∀ o ∈ p.2, small o.1)
    {v : Value} {d : DataW H} {p : List MemPlace} {r : Reach} {b0 : Nat} (hok : Value.okWide P w r b0 tp v) (h : DataW.Trod enc P w base spare held tp v d p) :
    ∃ (s : Stp) (ag : Option Addr) (bg og cg : Nat) (al : Option Addr) (bl ol cl : Nat) (ap : Option Addr) (bp op cp : Nat), v = .agg (stC s.1 s.2.1 ag s.2.2.1.length cg al s.2.2.2.1.length cl ap s.2.2.2.2.length cp) ∧ SArg w s ag bg og al bl ol ap bp op ∧ ∀ p ∈ s.2.2.2.2, ∀ o ∈ p.2, small o.1 := by
  obtain ⟨fuel, hf⟩ := h
  obtain ⟨cv, rfl, hcv⟩ := okWide_struct hp hok
  rw [hcp] at hcv
  obtain ⟨ys, n', _, _, _, hyl, hg⟩ := DataW.trod_struct hp hf
  simp only [List.size_toArray, List.length_cons, List.length_nil] at hyl
  have t0 := hg 0 h0 rfl
  have t1 := hg 1 h1 rfl
  have t2 := hg 2 h2 rfl
  have t3 := hg 3 h3 rfl
  have t4 := hg 4 h4 rfl
  rw [o0, c0] at t0
  rw [o1, c1] at t1
  rw [o2, c2, List.getElem?_eq_getElem (by omega)] at t2
  rw [o3, c3, List.getElem?_eq_getElem (by omega)] at t3
  rw [o4, c4, List.getElem?_eq_getElem (by omega)] at t4
  obtain ⟨c, e0, _⟩ := cut1 (by omega) k0 t0
  obtain ⟨g, e1, _⟩ := cut1 (by omega) k1 t1
  obtain ⟨ag, bg, og, cg, gs, hg2, hG⟩ := kg _ _ _ t2
  obtain ⟨al, bl, ol, cl, ls, hl2, hL⟩ := kl _ _ _ t3
  obtain ⟨ap, bp, op, cp, ps, hp2, hP, hs⟩ := kp _ _ _ t4
  have e2 := cell_cut hg2
  have e3 := cell_cut hl2
  have e4 := cell_cut hp2
  refine ⟨(c, g, gs, ls, ps), ag, bg, og, cg, al, bl, ol, cl, ap, bp, op, cp, ?_, ⟨hG, hL, hP⟩, hs⟩
  obtain ⟨l⟩ := cv
  simp only [Value.cells] at e0 e1 e2 e3 e4
  simp only [List.size_toArray] at hcv
  match l, hcv with
  | [u0, u1, u2, u3, u4], _ =>
    simp only [List.getElem?_cons_zero, List.getElem?_cons_succ, Option.some.injEq] at e0 e1 e2 e3 e4
    rw [e0, e1, e2, e3, e4]
end
set_option maxRecDepth 100000 in
theorem open_setup {H : Type} {enc : TypeId × Value → H} {w : World} {base : Nat} {spare : Nat → Bool} {held : Bool} {v : Value} {d : DataW H} {p : List MemPlace} {r : Reach} {b0 : Nat} (hok : Value.okWide Tryz.prog w r b0 26 v)
    (h : DataW.Trod enc Tryz.prog w base spare held 26 v d p) :
    ∃ (s : Stp) (ag : Option Addr) (bg og cg : Nat) (al : Option Addr) (bl ol cl : Nat) (ap : Option Addr) (bp op cp : Nat), v = .agg (stC s.1 s.2.1 ag s.2.2.1.length cg al s.2.2.2.1.length cl ap s.2.2.2.2.length cp) ∧ SArg w s ag bg og al bl ol ap bp op ∧ ∀ p ∈ s.2.2.2.2, ∀ o ∈ p.2, small o.1 :=
  core_setup Tryz.underlying26 (by kernel_rfl) rfl rfl rfl rfl rfl (by kernel_rfl) (by kernel_rfl) (by kernel_rfl) (by kernel_rfl) (by kernel_rfl) Tryz.underlying3 Tryz.underlying3
    (fun _ _ _ t => core_ints Tryz.underlying22 (by kernel_rfl) Tryz.underlying3 t)
    (fun _ _ _ t => core_locks Tryz.underlying23 (by kernel_rfl) Tryz.underlying48 rfl rfl rfl rfl rfl (by kernel_rfl) (by kernel_rfl) (by kernel_rfl) (by kernel_rfl) (by kernel_rfl) Tryz.underlying4 Tryz.underlying3 Tryz.underlying3 Tryz.underlying3 Tryz.underlying3 t)
    (fun _ _ _ t => core_progs Tryz.underlying24 (by kernel_rfl) Tryz.underlying51 rfl rfl (by kernel_rfl) (by kernel_rfl) Tryz.underlying4 rfl Tryz.underlying49 (by kernel_rfl) Tryz.underlying109 rfl rfl rfl (by kernel_rfl) (by kernel_rfl) (by kernel_rfl) Tryz.underlying3 Tryz.underlying3 Tryz.underlying3 t)
    hok h
end Go.Proofs.YtmcfjlkjijaflaaGreatDoor
