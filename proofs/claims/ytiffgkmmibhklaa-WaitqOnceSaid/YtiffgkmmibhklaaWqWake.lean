/-
  The document's waiters: Wake, Requeue.
-/
import Derived.Test.YtiffgkmmibhklaaWqPut
import Derived.Test.YtiffgkmmibhklaaGA
import Derived.OwnWalk
import Derived.Laws.AppendOwn
import Derived.LoopTactic
import Derived.Deep.LoopGhost
namespace Go.Proofs.Ytiffgkmmibhklaa
open Go.RowKit

/-- Who is woken, of at most k; who waits still. -/
def wakeO (a : Int) : Nat → List Wt → List Int
  | 0, _ => []
  | k + 1, L => if keyI L a < 0 then [] else (L.getD (keyI L a).toNat (0, 0, 0)).1 :: wakeO a k (L.eraseIdx (keyI L a).toNat)
def wakeL (a : Int) : Nat → List Wt → List Wt
  | 0, L => L
  | k + 1, L => if keyI L a < 0 then L else wakeL a k (L.eraseIdx (keyI L a).toNat)
theorem key_range (L : List Wt) (a : Int) : -1 ≤ keyI L a ∧ keyI L a < L.length := place_range _ _
theorem wake_none {a : Int} {L : List Wt} (h : keyI L a < 0) : ∀ k, wakeO a k L = [] ∧ wakeL a k L = L
  | 0 => ⟨rfl, rfl⟩
  | k + 1 => by simp [wakeO, wakeL, h]
theorem wake_some {a : Int} {L : List Wt} {j : Nat} (h : keyI L a = j) (k : Nat) : wakeO a (k + 1) L = (L.getD j (0, 0, 0)).1 :: wakeO a k (L.eraseIdx j) ∧ wakeL a (k + 1) L = wakeL a k (L.eraseIdx j) := by
  have h0 : ¬ keyI L a < 0 := by omega
  simp only [wakeO, wakeL]
  rw [if_neg h0, if_neg h0, h, Int.toNat_natCast]
  exact ⟨rfl, rfl⟩
theorem wakeO_len (a : Int) : ∀ (k : Nat) (L : List Wt), (wakeO a k L).length ≤ L.length
  | 0, L => by simp [wakeO]
  | k + 1, L => by
    by_cases h : keyI L a < 0
    · simp [wakeO, h]
    · have hr := key_range L a
      have ih := wakeO_len a k (L.eraseIdx (keyI L a).toNat)
      simp only [wakeO, if_neg h, List.length_cons]
      rw [List.length_eraseIdx, if_pos (by omega)] at ih
      omega

abbrev intsW (L : List Int) : List Value := L.map (Value.int .i64)
theorem infoInt : (Try.prog.info? 3).map (fun i => (i.zero, i.size, i.bytes)) = some (some (.int .i64 0), 1, 8) := by kernel_rfl
/-- A row of integers lies off a table. -/
theorem ints_off {w : World} {b base n : Nat} {X : List Nat} {m e : Int} {L : List Wt} {v : Value} {xs : List Value} (h : R8 w b X m e L) (ho : w.ownsRow base 3 1 v n xs) : ∀ k ∈ v.ownBlock.toList, k ∉ X := by
  intro k hk hx
  obtain ⟨cur, hc⟩ := ownsRow_type ho k hk
  rcases h.kinds k hx with ⟨c, h1⟩ | ⟨c, h1⟩
  · rw [hc] at h1
    simp only [Option.some.injEq, Obj.cells.injEq] at h1
    exact absurd h1.2.1 (by decide)
  · rw [hc] at h1
    simp only [Option.some.injEq, Obj.cells.injEq] at h1
    exact absurd h1.2.1 (by decide)
theorem one_cell (W : World) (v : Value) (t : TypeId) : (W.alloc (Obj.cells #[v] t)).cell? ⟨W.heap.size, 0, none⟩ = some v := by simp

theorem wait_field (x y z : Int) (w : World) : (Instr.field tW (.agg #[.int .i64 x, .int .i64 y, .int .u64 z]) 0).run Try.prog w = .ok (.int .i64 x) w := by kernel_rfl
set_option maxRecDepth 100000 in
set_option maxHeartbeats 1600000 in
theorem rwake_any {w : World} {b : Nat} {X : List Nat} {m e : Int} {L : List Wt} (h : R8 w b X m e L) (a n : Int) (hL : L.length ≤ 1000000) :
    Calls Try.prog 12 #[.pointer (some ⟨b, 0, none⟩), .int .i64 a, .int .i64 n] w fun r w' => ∃ v, r = .returned v ∧ w'.ownsRow w.heap.size 3 1 v (wakeO a n.toNat L).length (intsW (wakeO a n.toNat L)) ∧
      ∃ X', R8 w' b X' m e (wakeL a n.toNat L) ∧ Turned X w w' ∧ Newer X w.heap.size X' := by
  obtain ⟨i0, hi0, hz0, hz1, hz2⟩ := info_parts infoInt
  have HH := Lib.hid h
  have hb := h.lt b h.head
  have hXl := Lib.hid h.lt
  clear h
  go_enter Try.func12, Try.ntmps12
  go_wp2
  go_loopg [7] L.length (fun g o wr => ∃ (M : List Wt) (O : List Int) (X' : List Nat), g = M.length ∧ M.length ≤ L.length ∧ O.length + M.length = L.length ∧ Hid (wr.ownsRow w.heap.size 3 1 o O.length (intsW O)) ∧ Hid (wakeO a n.toNat L = O ++ wakeO a (n.toNat - O.length) M ∧ wakeL a n.toNat L = wakeL a (n.toNat - O.length) M) ∧
    Hid (R8 wr b X' m e M) ∧ Hid (Turned X w wr ∧ Newer X w.heap.size X'))
  case atStart => exact ⟨L, [], X, rfl, by omega, by simp, Lib.hid (World.ownsRow_nil _ _ _ _), Lib.hid ⟨by simp, by simp⟩, HH, Lib.hid ⟨Turned.refl _ _, Newer.refl _ _⟩⟩
  case round =>
    obtain ⟨M, O, X', rfl, hml, hom, HO, HE, HR, HT⟩ := hrel
    obtain ⟨av, ac, rfl, _, _⟩ := ownsRow_shape HO.out
    obtain ⟨p, hp⟩ : ∃ p, O.length = p := ⟨_, rfl⟩
    rw [hp] at HO HE hom ⊢
    have HP := Lib.hid hp
    have HF := Lib.hid (rfirst_any HR.out a)
    have fin : wakeO a (n.toNat - p) M = [] → wakeL a (n.toNat - p) M = M → wr.ownsRow w.heap.size 3 1 (.slice av p ac) (wakeO a n.toNat L).length (intsW (wakeO a n.toNat L)) ∧ ∃ X', R8 wr b X' m e (wakeL a n.toNat L) ∧ Turned X w wr ∧ Newer X w.heap.size X' := by
      intro h1 h2
      rw [HE.out.1, HE.out.2, h1, h2, List.append_nil, HP.out]
      exact ⟨HO.out, X', HR.out, HT.out.1, HT.out.2⟩
    have HFin := Lib.hid fin
    clear fin hp
    by_cases hn : (p : Int) < n
    · have n1 : decide ((p : Int) < n) = true := by simpa using hn
      obtain ⟨k, hk⟩ : ∃ k, n.toNat - p = k + 1 := ⟨n.toNat - p - 1, by omega⟩
      rcases Int.lt_or_le (keyI M a) 0 with hneg | hpos
      · obtain ⟨q, hq⟩ : ∃ q, keyI M a = q := ⟨_, rfl⟩
        have hw := Lib.hid (wake_none hneg (n.toNat - p))
        rw [hq] at HF hneg
        have z0 : decide (0 ≤ q) = false := by simp; omega
        clear hq
        go_wp2_with fail
        with_reducible refine HF.out.mono ?_
        rintro e w1 ⟨rfl, rfl⟩
        go_wp2
        go_ret
        exact ⟨_, rfl, HFin.out hw.out.1 hw.out.2⟩
      · obtain ⟨j, hj⟩ := Int.eq_ofNat_of_zero_le hpos
        have hjl : j < M.length := by have := (key_range M a).2; omega
        have hw := wake_some hj k
        rw [hj] at HF
        have z0 : decide ((0 : Int) ≤ (j : Int)) = true := by simp
        have HTk := Lib.hid (rtake8_at HR.out j hjl (by omega))
        obtain ⟨x, hx⟩ : ∃ x, M.getD j (0, 0, 0) = x := ⟨_, rfl⟩
        rw [hx] at HTk hw
        obtain ⟨x1, x2, x3⟩ := x
        simp only at hw
        simp only [aggW] at HTk
        have HWk := Lib.hid hw
        have HK := Lib.hid hk
        have hMe : (M.eraseIdx j).length = M.length - 1 := by rw [List.length_eraseIdx, if_pos hjl]
        have HMe := Lib.hid hMe
        have hm0 : 0 < M.length := by omega
        clear hx hj hpos hw hMe hk
        go_wp2_with fail
        with_reducible refine HF.out.mono ?_
        rintro e w1 ⟨rfl, rfl⟩
        go_wp2_with fail
        with_reducible refine HF.out.mono ?_
        rintro e w1 ⟨rfl, rfl⟩
        go_wp2_with fail
        with_reducible refine HTk.out.mono ?_
        rintro e w1 ⟨rfl, X2, r1, t1, n2⟩
        have HO1 := Lib.hid (ownsRow_same HO.out fun k hk hl => t1.block k hl (ints_off HR.out HO.out k hk))
        have T1 := Lib.hid (show Turned X w w1 from HT.out.1.trans t1 HT.out.2)
        have N1 := Lib.hid (show Newer X w.heap.size X2 from HT.out.2.trans n2 HT.out.1.size)
        have R1 := Lib.hid r1
        have hs1 : w.heap.size ≤ w1.heap.size := T1.out.size
        have hfl := wait_field x1 x2 x3 w1
        clear r1 t1 n2
        go_wp2_with (at_builtin; refine wpList_append_own _ rfl _ _ 29 rfl w.heap.size 3 i0 (.int .i64 0) 1 8 Try.underlying29 hi0 hz0 hz1 hz2 rfl (by decide) _ _ _ rfl (HO1.out.alloc _) ⟨w1.heap.size, 0, none⟩ 1 1 [.int .i64 x1] rfl rfl ?c1 ?c2 ?c3 ?c4 ?c5 ?_)
        case c1 =>
          intro j u hj
          match j, hj with
          | 0, hj => simp at hj; subst hj; exact one_cell w1 _ _
        case c2 => intro u hu; simp at hu; subst hu; rfl
        case c3 => unfold maxLen; omega
        case c4 => omega
        case c5 => simp; omega
        intro v' w2 hown2 hgrow _
        have t2 : Turned (Value.slice av p ac).ownBlock.toList (w1.alloc (.cells #[.int .i64 x1] 3)) w2 := Turned.grown (Turned.refl _ _) hgrow (fun k hk => .inl (by simp [hk]))
        have hoff : ∀ k ∈ (Value.slice av p ac).ownBlock.toList, w.heap.size ≤ k := fun k hk => (HO1.out.lt k (by simpa using hk)).1
        have R2 := R1.out.keep (Y := (Value.slice av p ac).ownBlock.toList) (((Turned.refl [] w1).alloc (.cells #[.int .i64 x1] 3)).up.trans t2 (Newer.refl _ _)) (fun k hk hx => ints_off R1.out HO1.out k hx hk)
        have T2 := (T1.out.alloc (.cells #[.int .i64 x1] 3)).trans t2 (fun k hk => .inr (hoff k hk))
        have RR2 := Lib.hid R2
        have TT2 := Lib.hid T2
        have OO2 := Lib.hid (show w2.ownsRow w.heap.size 3 1 v' (O ++ [x1]).length (intsW (O ++ [x1])) by simpa [intsW, HP.out] using hown2)
        clear hown2 hgrow t2 hoff R2 T2
        go_wp2
        go_roundg ((M.eraseIdx j).length)
        case measure => rw [HMe.out]; omega
        case rel =>
          refine ⟨M.eraseIdx j, O ++ [x1], X2, rfl, by rw [HMe.out]; omega, by rw [HMe.out]; simp [HP.out]; omega, OO2, Lib.hid ?_, RR2, Lib.hid ⟨TT2.out, N1.out⟩⟩
          have hk1 : n.toNat - (O ++ [x1]).length = k := by have := HK.out; simp [HP.out]; omega
          rw [hk1, HE.out.1, HE.out.2, HK.out, HWk.out.1, HWk.out.2]
          simp
    · have n1 : decide ((p : Int) < n) = false := by simpa using hn
      have hk : n.toNat - p = 0 := by omega
      have HK := Lib.hid hk
      clear HF hk
      go_wp2
      go_ret
      exact ⟨_, rfl, HFin.out (by rw [HK.out]; rfl) (by rw [HK.out]; rfl)⟩
end Go.Proofs.Ytiffgkmmibhklaa
