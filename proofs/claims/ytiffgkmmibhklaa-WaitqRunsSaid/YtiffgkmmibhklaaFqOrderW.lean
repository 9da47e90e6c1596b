/-
  (*Queue[api.Wait]).inOrder: all nodes, in a row of their own.
-/
import Derived.Test.YtiffgkmmibhklaaFqPopW
import Derived.Test.YtiffgkmmibhklaaGA
import Derived.Sort.LoopGhostIn
import Derived.Shelf.Abstract
namespace Go.Proofs.Ytiffgkmmibhklaa.Wq
open Go.RowKit Go.Maps Go.Shelf
attribute [local go_sem] Oper.semAt_some

theorem infoNd : (Try.prog.info? tNd).map (fun i => (i.zero, i.size, i.bytes)) = some (some (.agg #[.int .i64 0, .int .i64 0, .int .u64 0, .int .i64 0, .int .i64 0, .int .i64 0]), 6, 48) := by kernel_rfl
/-- A ticket, and who waits. -/
abbrev Fw := Int × Wt
/-- Of a node: its ticket, its value. -/
abbrev ndF (n : Nd Wt) : Fw := (n.2.1, n.1)
section
variable {w w' : World} {b : Nat} {X : List Nat} {m l : Int} {P A B : List (Pl Wt)} {x : Pl Wt}
/-- The node of each one, by its place. -/
theorem FQ.node (h : FQ w b X m l (A ++ x :: B)) : ∃ n, Calls Try.prog 54 #[.pointer (some ⟨n, 0, none⟩), .int .i64 (x.1 : Int)] w fun e w' => e = .returned (.tuple #[ndV (x.2.2, x.2.1, lsP (-1) A, hdP B (-1)), .bool true]) ∧ Turned [] w w' := by
  obtain ⟨S, F, f, fst, lst, h1, h2, _⟩ := h
  obtain ⟨ab, gm, Y, D, hb, ha, _⟩ := h1
  exact ⟨ab, anget_yes ha (x.1 : Int) x.1 _ rfl h2.split.1⟩
/-- What a walk along the nodes reads. -/
theorem FQ.reads (h : FQ w b X m l P) : ∃ ab, (∀ w', Turned [] w w' → w'.cell? ⟨b, 0, none⟩ = some (.pointer (some ⟨ab, 0, none⟩)) ∧ w'.cell? ⟨b, 2, none⟩ = some (.int .i64 (hdP P (-1))) ∧ Turned [] w w') ∧
    (∀ A x B w', P = A ++ x :: B → Turned [] w w' → Calls Try.prog 54 #[.pointer (some ⟨ab, 0, none⟩), .int .i64 (x.1 : Int)] w' fun e w'' => e = .returned (.tuple #[ndV (x.2.2, x.2.1, lsP (-1) A, hdP B (-1)), .bool true]) ∧ Turned [] w' w'') ∧
    (∀ w', Turned [] w w' → Calls Try.prog 54 #[.pointer (some ⟨ab, 0, none⟩), .int .i64 (-1)] w' fun e w'' => e = .returned (.tuple #[ndV nd0, .bool false]) ∧ Turned [] w' w'') := by
  obtain ⟨S, F, f, fst, lst, h1, h2, _⟩ := h
  obtain ⟨ab, gm, Y, D, hb, ha, _⟩ := h1
  refine ⟨ab, fun w' ht => ?_, ?_, fun w' ht => anget_no (ha.keep ht (by simp)) _ isB_neg⟩
  · obtain ⟨d0, _, d2, _, _, _⟩ := cells5 (ht.same hb (by simp))
    rw [h2.first] at d2
    exact ⟨d0, d2, ht⟩
  · rintro A x B w' rfl ht
    exact anget_yes (ha.keep ht (by simp)) (x.1 : Int) x.1 _ rfl h2.split.1

set_option maxRecDepth 100000 in
set_option maxHeartbeats 1600000 in
theorem inorder_none (h : FQ w b X m l []) :
    Calls Try.prog 59 #[.pointer (some ⟨b, 0, none⟩)] w fun e w' => e = .returned (.slice none 0 0) ∧ ∃ n, w' = w.drewN n := by
  have H := Lib.hid (fqlen_yes h)
  clear h
  go_enter Try.func59, Try.ntmps59
  go_wp2_with fail
  refine H.out.mono ?_
  rintro e w1 ⟨rfl, n, rfl⟩
  simp only [List.length_nil]
  go_wp2
  go_ret
  exact ⟨rfl, n, rfl⟩
theorem inorder_nil (w : World) :
    Calls Try.prog 59 #[.pointer none] w fun e w' => e = .returned (.slice none 0 0) ∧ w' = w := by
  go_enter Try.func59, Try.ntmps59
  go_wp2_with fail
  refine (fqlen_nil w).mono ?_
  rintro e w1 ⟨rfl, rfl⟩
  go_wp2
  go_ret
  exact ⟨rfl, rfl⟩

set_option maxRecDepth 100000 in
set_option maxHeartbeats 3200000 in
theorem inorder_some (h : FQ w b X m l P) (hP : 0 < P.length) :
    Calls Try.prog 59 #[.pointer (some ⟨b, 0, none⟩)] w fun e w' => ∃ v Ns, e = .returned v ∧ Ns.map ndF = P.map (·.2) ∧ w'.ownsRow 0 tNd 6 v P.length (cellsOf encN Ns) ∧ (∀ g ∈ v.ownBlock.toList, w.heap.size ≤ g) ∧ Turned [] w w' := by
  have hlen : P.length ≤ 5000 := by
    have := h.room
    omega
  have H := Lib.hid (fqlen_yes h)
  obtain ⟨ab, h1, h2, h3⟩ := h.reads
  have HS := Lib.hid h1
  have HG := Lib.hid h2
  have HN := Lib.hid h3
  clear h h1 h2 h3
  obtain ⟨i0, hi, hz0, hz1, hz2⟩ := info_parts infoNd
  obtain ⟨q, hq⟩ : ∃ q : Nat, P.length = q := ⟨_, rfl⟩
  rw [hq] at H
  have hq0 : ((q : Int) == 0) = false := by
    rw [beq_eq_false_iff_ne]
    omega
  have HP0 : Hid (∃ x B, P = x :: B) := Lib.hid (by
    cases P with
    | nil => simp at hP
    | cons x B => exact ⟨x, B, rfl⟩)
  have HQ := Lib.hid hq
  rw [hq]
  rw [hq] at hP hlen
  clear hq
  go_enter Try.func59, Try.ntmps59
  go_wp2_with fail
  refine H.out.mono ?_
  rintro e w1 ⟨rfl, n, rfl⟩
  obtain ⟨V, hV⟩ : ∃ V, w.drewN n = V := ⟨_, rfl⟩
  have TV := Lib.hid (show Turned [] w V.drew by rw [← hV]; exact (((Turned.refl [] w).drewN n).drew))
  have TA := Lib.hid (show Turned [] w (V.alloc (ndC nd0)).drew by rw [← hV]; exact ((((Turned.refl [] w).drewN n).alloc _).drew))
  have HVs : w.heap.size ≤ V.heap.size := by rw [← hV]; exact Nat.le_refl _
  rw [hV]
  clear hV
  obtain ⟨⟨x1, x2, x3⟩, B0, hPB⟩ := HP0.out
  obtain ⟨d0, d2, dt⟩ := HS.out _ TV.out
  rw [hPB] at d2
  simp only [hdP] at d2
  have HG1 := Lib.hid (fun (w' : World) (ht : Turned [] w w') => HG.out [] (x1, x2, x3) B0 w' hPB ht)
  obtain ⟨c, hc⟩ : ∃ c, hdP B0 (-1) = c := ⟨_, rfl⟩
  simp only [lsP, hc] at HG1
  have HS1 : Hid (∀ w', Turned [] w w' → w'.cell? ⟨b, 0, none⟩ = some (.pointer (some ⟨ab, 0, none⟩)) ∧ w'.cell? ⟨b, 2, none⟩ = some (.int .i64 (x1 : Int)) ∧ Turned [] w w') := Lib.hid (fun w' ht => by
    obtain ⟨e0, e2, et⟩ := HS.out w' ht
    rw [hPB] at e2
    exact ⟨e0, e2, et⟩)
  have HPB := Lib.hid hPB
  have HC := Lib.hid hc
  clear hPB hc
  go_wp2_with fail
  go_region_held3 (fun w' => w'.cell? ⟨b, 0, none⟩ = some (.pointer (some ⟨ab, 0, none⟩)) ∧ w'.cell? ⟨b, 2, none⟩ = some (.int .i64 (x1 : Int)) ∧ Turned [] w w')
    (first | with_reducible exact ⟨f0, f2, ft⟩ | with_reducible exact ⟨d0, d2, dt⟩ | with_reducible exact HS1.out _ TA.out | with_reducible exact HS1.out _ (dt.alloc _) | with_reducible exact HS1.out _ (ft.alloc _) | with_reducible exact HS1.out _ (ft.set6 (.inr HVs) _ _ _ _ _ _))
    (first
      | (go_at_call 54
         first
           | (with_reducible refine (HG1.out _ dt).mono ?_
              rintro e w2 ⟨rfl, t2⟩
              obtain ⟨f0, f2, ft⟩ := HS1.out _ (dt.j t2)
              clear t2)
           | (with_reducible refine (HG1.out _ TA.out).mono ?_
              rintro e w2 ⟨rfl, t2⟩
              have k2 := t2.same (show (V.alloc (ndC nd0)).drew.heap[V.heap.size]? = _ from heap_alloc_new V (ndC nd0)) (by simp)
              have K2 := Lib.hid k2
              obtain ⟨z0, z1, z2, z3, z4, z5, zf⟩ := cells6 k2
              have zf0 := zf 0
              have zf1 := zf 1
              have zf2 := zf 2
              have zf3 := zf 3
              have zf4 := zf 4
              have zf5 := zf 5
              obtain ⟨f0, f2, ft⟩ := HS1.out _ (TA.out.j t2)
              clear t2 k2 zf)))
  all_goals
    first
      | (obtain ⟨W1, hW1⟩ : ∃ W1, w2.alloc (.cells #[.int .i64 x3.1, .int .i64 x3.2.1, .int .u64 x3.2.2, .int .i64 x2, .int .i64 (-1), .int .i64 c] tNd) = W1 := ⟨_, rfl⟩
         obtain ⟨Bn, hBn⟩ : ∃ Bn, w2.heap.size = Bn := ⟨_, rfl⟩
         have KB := Lib.hid (show W1.heap[Bn]? = some (ndC (x3, x2, -1, c)) ∧ Turned [] w W1 ∧ w.heap.size ≤ Bn ∧ Bn < W1.heap.size by
           rw [← hW1, ← hBn]
           exact ⟨heap_alloc_new w2 _, ft.alloc _, ft.size, by simp⟩)
         simp only [hW1]
         rw [hBn])
      | (obtain ⟨W1, hW1⟩ : ∃ W1, (((((w2.setCell ⟨V.heap.size, 0, none⟩ (.int .i64 x3.1)).setCell ⟨V.heap.size, 1, none⟩ (.int .i64 x3.2.1)).setCell ⟨V.heap.size, 2, none⟩ (.int .u64 x3.2.2)).setCell ⟨V.heap.size, 3, none⟩ (.int .i64 x2)).setCell ⟨V.heap.size, 4, none⟩ (.int .i64 (-1))).setCell ⟨V.heap.size, 5, none⟩ (.int .i64 c) = W1 := ⟨_, rfl⟩
         obtain ⟨Bn, hBn⟩ : ∃ Bn, V.heap.size = Bn := ⟨_, rfl⟩
         have KB := Lib.hid (show W1.heap[Bn]? = some (ndC (x3, x2, -1, c)) ∧ Turned [] w W1 ∧ w.heap.size ≤ Bn ∧ Bn < W1.heap.size by
           have k := stored6 (a' := .int .i64 x3.1) (b' := .int .i64 x3.2.1) (c' := .int .u64 x3.2.2) (y' := .int .i64 x2) (z' := .int .i64 (-1)) (u' := .int .i64 c) K2.out
           rw [hW1] at k
           exact ⟨by rw [← hBn]; exact k, by rw [← hW1]; exact ft.set6 (.inr HVs) _ _ _ _ _ _, by omega, by rw [← hBn]; exact lt_of_block k⟩)
         simp only [hW1]
         rw [hBn])
    clear hW1 hBn f0 f2 ft d0 d2 dt
    go_wp2
    go_loopg [3, 5] q (fun g v ok wr => ∃ (A B : List (Pl Wt)) (Ns : List (Nd Wt)) (n1 : Wt) (n2 n3 n4 : Int), g = B.length ∧ ok = .bool (decide (0 < B.length)) ∧ Hid (P = A ++ B) ∧ Hid (wr.heap[Bn]? = some (ndC (n1, n2, n3, n4))) ∧
      Hid (∀ x B', B = x :: B' → n1 = x.2.2 ∧ n2 = x.2.1 ∧ n4 = hdP B' (-1)) ∧ Hid (Ns.map ndF = A.map (·.2)) ∧ Hid (wr.ownsRow 0 tNd 6 v A.length (cellsOf encN Ns)) ∧ Hid (∀ g ∈ v.ownBlock.toList, w.heap.size ≤ g ∧ g ≠ Bn) ∧ Hid (Turned [] w wr))
    case atStart =>
      refine ⟨[], P, [], x3, x2, -1, c, HQ.out.symm, ?_, Lib.hid rfl, Lib.hid KB.out.1, Lib.hid ?_, Lib.hid rfl, Lib.hid (World.ownsRow_nil _ _ _ _), Lib.hid (by simp [Value.ownBlock]), Lib.hid KB.out.2.1⟩
      · rw [HQ.out]
        simp
        omega
      · intro y B' hy
        have h1 := HPB.out
        rw [hy] at h1
        cases h1
        exact ⟨rfl, rfl, HC.out.symm⟩
    case round =>
      obtain ⟨A, B, Ns, n1, n2, n3, n4, rfl, rfl, R1, R2, R3, R4, R5, R6, R7⟩ := hrel
      cases B with
      | nil =>
        simp only [List.length_nil, Nat.lt_irrefl, decide_false]
        go_wp2
        go_ret
        have hPA := R1.out
        rw [List.append_nil] at hPA
        refine ⟨_, Ns, rfl, by rw [hPA]; exact R4.out, ?_, fun g hg => (R6.out g hg).1, R7.out⟩
        rw [← HQ.out, hPA]
        exact R5.out
      | cons y B' =>
        have hd : decide (0 < (y :: B').length) = true := by simp
        rw [hd]
        obtain ⟨hn1, hn2, hn4⟩ := R3.out y B' rfl
        have R4' := Lib.hid (show (Ns ++ [(n1, n2, n3, n4)]).map ndF = (A ++ [y]).map (·.2) by
          rw [List.map_append, List.map_append, R4.out]
          simp [ndF, hn1, hn2])
        have R1' := Lib.hid (show P = (A ++ [y]) ++ B' by rw [R1.out]; simp)
        have hAl : A.length ≤ 5000 := by
          have h1 := congrArg List.length R1.out
          have h2 := HQ.out
          simp at h1
          omega
        have HN4 := Lib.hid hn4
        obtain ⟨e0, e1, e2, e3, e4, e5, ef⟩ := cells6 R2.out
        obtain ⟨av, vcap, hv, _, _⟩ := ownsRow_shape R5.out
        subst hv
        clear hn1 hn2 hn4 hd R3 R4
        go_wp2_with (at_builtin; refine wpList_append_at _ rfl _ _ 112 rfl tNd i0 (.agg #[.int .i64 0, .int .i64 0, .int .u64 0, .int .i64 0, .int .i64 0, .int .i64 0]) 6 48 Try.underlying112 hi hz0 hz1 hz2 rfl (by decide) _ A.length (cellsOf encN Ns) rfl (R5.out.alloc _) ⟨wr.heap.size, 0, none⟩ 1 1 [.int .i64 n1.1, .int .i64 n1.2.1, .int .u64 n1.2.2, .int .i64 n2, .int .i64 n3, .int .i64 n4] rfl (by decide) rfl (six_new _ _ _ _ _ _ _ _) (by intro u hu; simp at hu; rcases hu with rfl | rfl | rfl | rfl | rfl | rfl <;> rfl) (by unfold maxLen; omega) (by omega) ?_)
        intro g cp wa hown hgrow hw _ _
        have hBn : Bn < wr.heap.size := lt_of_block R2.out
        have ta : Turned [] w wa := (R7.out.alloc _).grown hgrow (fun k hk => .inr (R6.out k (by simp [hk])).1)
        have ka : wa.heap[Bn]? = some (ndC (n1, n2, n3, n4)) := (hgrow.block Bn (by simp; omega) (fun e => (R6.out Bn (by simp [← e])).2 rfl)).trans ((Below.heap_alloc _ _ _ hBn).trans R2.out)
        have hg' : w.heap.size ≤ g ∧ g ≠ Bn := by
          rcases hw with h | h
          · exact R6.out g (by simp [h])
          · have h1 := R7.out.size
            (try simp at h)
            omega
        have RO := Lib.hid (show wa.ownsRow 0 tNd 6 (.slice (some ⟨g, 0, none⟩) (A ++ [y]).length cp) (A ++ [y]).length (cellsOf encN (Ns ++ [(n1, n2, n3, n4)])) by
          rw [cellsOf_snoc]
          simpa using hown)
        have HG' := Lib.hid hg'
        have KA := Lib.hid ka
        have TA1 := Lib.hid ta
        obtain ⟨u0, u1, u2, u3, u4, u5, uf⟩ := cells6 ka
        have uf0 := uf 0
        have uf1 := uf 1
        have uf2 := uf 2
        have uf3 := uf 3
        have uf4 := uf 4
        have uf5 := uf 5
        obtain ⟨r0, _, _⟩ := HS.out _ ta
        clear hown hgrow hw ta ka hg' uf ef e0 e1 e2 e3 e4 e5 R2 R5 R6 R7 hBn
        obtain ⟨m1, m2, m3, m4, hm, hget⟩ : ∃ (m1 : Wt) (m2 m3 m4 : Int), (∀ x B'', B' = x :: B'' → m1 = x.2.2 ∧ m2 = x.2.1 ∧ m4 = hdP B'' (-1)) ∧ ∀ w', Turned [] w w' → Calls Try.prog 54 #[.pointer (some ⟨ab, 0, none⟩), .int .i64 n4] w' fun e w'' =>
            e = .returned (.tuple #[ndV (m1, m2, m3, m4), .bool (decide (0 < B'.length))]) ∧ Turned [] w' w'' := by
          rw [HN4.out]
          cases B' with
          | nil => exact ⟨(0, 0, 0), 0, 0, 0, fun x B'' h => (by cases h), fun w' ht => HN.out w' ht⟩
          | cons z B'' =>
            refine ⟨z.2.2, z.2.1, lsP (-1) (A ++ [y]), hdP B'' (-1), fun x B3 h => (by cases h; exact ⟨rfl, rfl, rfl⟩), fun w' ht => ?_⟩
            have hh := HG.out (A ++ [y]) z B'' w' R1'.out ht
            simp only [hdP, List.length_cons, Nat.zero_lt_succ, decide_true]
            exact hh
        have HM := Lib.hid hm
        have HGET := Lib.hid hget
        obtain ⟨bb, hbb⟩ : ∃ bb, decide (0 < B'.length) = bb := ⟨_, rfl⟩
        rw [hbb] at HGET
        have HBB := Lib.hid hbb
        clear hm hget hbb HN4
        go_wp2_with fail
        go_region_law (
          (refine step_call2 _ rfl 54 _ _ _ _ rfl (enters_of Try.func54 (by kernel_rfl) rfl) (vx := .pointer (some ⟨ab, 0, none⟩)) (vy := .int .i64 n4) rfl rfl (R := fun v w' => v = .tuple #[ndV (m1, m2, m3, m4), .bool bb] ∧ Turned [] wa.drew w') ((HGET.out _ TA1.out.drew).mono (fun e w' h => ⟨_, h.1, rfl, h.2⟩)) ?_
           rintro _ w2 ⟨rfl, t2⟩
           have k2 := t2.same (show wa.drew.heap[Bn]? = _ from KA.out) (by simp)
           have K2x := Lib.hid k2
           obtain ⟨s0, s1, s2, s3, s4, s5, sf⟩ := cells6 k2
           have sf0 := sf 0
           have sf1 := sf 1
           have sf2 := sf 2
           have sf3 := sf 3
           have sf4 := sf 4
           have sf5 := sf 5
           have T2x := Lib.hid (TA1.out.drew.j t2)
           have T2y := Lib.hid t2
           clear t2 k2 sf))
        all_goals
          simp only [List.getElem_toArray, List.getElem_cons_succ, List.getElem_cons_zero, Act.put, List.setIfInBounds_toArray]
          simp only [List.set_cons_succ, List.set_cons_zero]
          go_wp2
          gi_roundg (B'.length)
          case measure => simp
          case rel =>
            have tb : Turned [Bn] w2 ((((((w2.setCell ⟨Bn, 0, none⟩ (.int .i64 m1.1)).setCell ⟨Bn, 1, none⟩ (.int .i64 m1.2.1)).setCell ⟨Bn, 2, none⟩ (.int .u64 m1.2.2)).setCell ⟨Bn, 3, none⟩ (.int .i64 m2)).setCell ⟨Bn, 4, none⟩ (.int .i64 m3)).setCell ⟨Bn, 5, none⟩ (.int .i64 m4)) := (Turned.refl _ w2).set6 (.inl (by simp)) _ _ _ _ _ _
            have ro := ownsRow_same RO.out (fun k _ hl => T2y.out.block k hl (by simp))
            have rg : ∀ k ∈ (Value.slice (some ⟨g, 0, none⟩) (A ++ [y]).length cp).ownBlock.toList, k ≠ Bn := fun k hk => by
              simp [Value.ownBlock] at hk
              rw [hk]
              exact HG'.out.2
            refine ⟨A ++ [y], B', Ns ++ [(n1, n2, n3, n4)], m1, m2, m3, m4, rfl, by rw [HBB.out], R1', Lib.hid (stored6 K2x.out), HM, R4', Lib.hid ?_, Lib.hid ?_, Lib.hid ?_⟩
            · have := ownsRow_same ro (fun k hk hl => tb.block k hl (by simpa using rg k hk))
              simpa using this
            · intro k hk
              simp [Value.ownBlock] at hk
              rw [hk]
              exact HG'.out
            · exact T2x.out.trans tb (fun k hk => .inr (by simp at hk; rw [hk]; exact KB.out.2.2.1))
theorem inorder_any (h : FQ w b X m l P) :
    Calls Try.prog 59 #[.pointer (some ⟨b, 0, none⟩)] w fun e w' => ∃ v Ns, e = .returned v ∧ Ns.map ndF = P.map (·.2) ∧ w'.ownsRow 0 tNd 6 v P.length (cellsOf encN Ns) ∧ (∀ g ∈ v.ownBlock.toList, w.heap.size ≤ g) ∧ Turned [] w w' := by
  cases P with
  | nil => exact (inorder_none h).mono fun e w' ⟨he, n, hw⟩ => ⟨_, [], he, rfl, World.ownsRow_nil _ _ _ _, by simp [Value.ownBlock], by rw [hw]; exact (Turned.refl _ _).drewN _⟩
  | cons x B => exact inorder_some h (by simp)
end
end Go.Proofs.Ytiffgkmmibhklaa.Wq
