/-
  The program's Of: the loop over a queue, handed on.
  Whose time is over, as the heap of what is due hands them out. No program.
  The program's Expire.
-/
import Derived.Test.YtiffgkmmibhklaaWlNew
import Derived.Test.YtiffgkmmibhklaaGA
import Derived.Test.YtiffgkmmibhklaaHbDueS

/- The program's Of: the loop over a queue, handed on. -/
namespace Go.Proofs.Ytiffgkmmibhklaa
open Go.RowKit Go.Maps Go.Shelf
attribute [local go_sem] Oper.semAt_some

theorem TurnSeqS.later {α : Type} {F : Fence} {n : Nat} {P : Program} {g : Nat} {lb : Array Value} {encs : α → Array Value} {X Y : List Nat} {Sp : List α → World → Prop} {S Sx : List α → World → Prop} {w w1 : World} (h : TurnSeqS F n P g lb encs X Y Sp S Sx w) (t : Turned [] w w1) :
    TurnSeqS F n P g lb encs X Y Sp S Sx w1 := fun l J Jx W hW => h l J Jx W (t.j hW)
abbrev tSq : TypeId := 82
abbrev tYw : TypeId := 77
abbrev allF (B : Nat) : Value := .func (.func 60) #[] #[.pointer (some ⟨B, 0, none⟩)]
abbrev ofL : List Wq.Fw → List Wt := List.map (·.2)

section
variable {w w' : World} {b : Nat} {X Y : List Nat} {m e : Int} {nB c : Nat} {g0 cap gm hb : Nat} {Xh : List Nat} {D : List (Hm Unit)} {L : List Wt}
set_option maxRecDepth 100000 in
set_option maxHeartbeats 3200000 in
theorem of1_seq {n₀ : Nat} {w : World} {Bx B : Nat} {Lq : List Wq.Fw} (hb : w.heap[Bx]? = some (.cells #[allF B] tSq (0, 0))) (hk : Wq.KeptN n₀ w B Lq) (hL : Lq.length ≤ 100000) :
    ∃ Z : List Nat, (∀ k ∈ Z, n₀ ≤ k ∧ k < w.heap.size) ∧ ∀ n, TurnSeqZ Fence.wide n Try.prog 43 #[.pointer (some ⟨Bx, 0, none⟩)] encY Z (fun xs => xs <+: ofL Lq) (fun xs _ _ => xs = ofL Lq) (fun xs _ _ => xs <+: ofL Lq) w := by
  obtain ⟨Y, hY, hseq⟩ := Wq.all1_seq (n := 19) (by omega) hk hL
  refine ⟨Y, hY, fun n => ?_⟩
  intro l J Jx W hW hJ hJx hYi hj0
  have b0 := cell1 (hW.same hb (by simp))
  have hbl : Bx < W.heap.size := Nat.lt_of_lt_of_le (lt_of_block hb) hW.size
  have HJ := Lib.hid hJ
  have HJX := Lib.hid hJx
  have HYI := Lib.hid hYi
  have HSQ := Lib.hid hseq
  have HYY := Lib.hid hY
  have HJ0 := Lib.hid hj0
  have HTW := Lib.hid hW
  clear hJ hJx hYi hseq hY hb hk hj0 hW
  refine callsIn_of_wp_marks Try.func43 rfl trivial ?_ rfl
  simp only [Try.ntmps43, List.size_toArray, List.length_cons, List.length_nil, Nat.reduceAdd, Nat.reduceSub, Array.replicate_succ, Array.replicate_zero, List.push_toArray, List.append_toArray, List.nil_append, List.cons_append]
  refine wpIn_wide.2 ?_
  obtain ⟨W1, hW1⟩ : ∃ W1, W.alloc (.cells #[.func (.yield l) #[] #[]] tYw) = W1 := ⟨_, rfl⟩
  have t1 : Turned [] W W1 := hW1 ▸ (Turned.refl [] W).alloc _
  have y1 : W1.heap[W.heap.size]? = some (.cells #[.func (.yield l) #[] #[]] tYw (0, 0)) := hW1 ▸ heap_alloc_new W _
  have hlt := lt_of_block y1
  have b1 := cell1 y1
  have HY1 := Lib.hid y1
  have HT1 := Lib.hid t1
  have hYW : ∀ k ∈ Y, k < W1.heap.size := fun k hk => by have h1 := (HYY.out k hk).2; have := HTW.out.size; have := t1.size; omega
  have HYW := Lib.hid hYW
  have HW1 := Lib.hid hW1
  clear t1 y1 hYW hW1
  go_wp2_with fail
  (try rw [HW1.out])
  refine (wpIn_wide (n := 20)).1 ?_
  have hsq := (TurnSeq.s HSQ.out).later (HTW.out.j HT1.out)
  refine range_turnsW rfl (by omega) rfl trivial (fun _ _ => rfl) (by simp) HYW.out hsq (fun _ => rfl) (fun _ _ _ h _ => h) (fun _ _ _ h _ => h) (fun _ _ _ h _ => h)
    (fun xs V => ∃ Z, J (ofL xs) Z V ∧ (∀ k ∈ Y, k ∈ Z) ∧ W.heap.size ∈ Z ∧ W1.heap.size ∈ Z ∧ W1.heap.size + 1 ∈ Z ∧ (∀ k ∈ Z, k < V.heap.size) ∧ V.heap[W.heap.size]? = some (.cells #[.func (.yield l) #[] #[]] tYw (0, 0)))
    (fun cc xs V => cc = .ret ∧ ∃ Z, Jx (ofL xs) Z V ∧ W1.heap.size ∈ Z ∧ W1.heap.size + 1 ∈ Z ∧ (∀ k ∈ Z, k < V.heap.size))
    ?hI ?hIx ?h0 ?hsz tW (fun x => #[.int .i64 x.2.1, .int .i64 x.2.2.1, .int .u64 x.2.2.2]) ?a1 ?assign ?body ?done ?stop
  case assign =>
    intro l' x Bk V K hBk hK
    gi_wp2
    exact hK
  case hI =>
    rintro xs A V ⟨Z, h1, h2, h3, h4, h5, h6, h7⟩ ht
    refine ⟨Z, HJ.out _ _ _ _ _ h1 (ht.mono (fun k hk => .inl (by simp at hk; rcases hk with rfl | rfl; exact h4; exact h5))) (Newer.refl _ _) (fun k hk => Nat.lt_of_lt_of_le (h6 k hk) ht.size), h2, h3, h4, h5, fun k hk => Nat.lt_of_lt_of_le (h6 k hk) ht.size, ht.same h7 (fun hx => by simp at hx; omega)⟩
  case hIx =>
    rintro cc xs A V ⟨rfl, Z, h1, h4, h5, h6⟩ ht
    exact ⟨rfl, Z, HJX.out _ _ _ _ _ h1 (ht.mono (fun k hk => .inl (by simp at hk; rcases hk with rfl | rfl; exact h4; exact h5))) (Newer.refl _ _) (fun k hk => Nat.lt_of_lt_of_le (h6 k hk) ht.size), h4, h5, fun k hk => Nat.lt_of_lt_of_le (h6 k hk) ht.size⟩
  case h0 =>
    intro V tV hV
    have tWV : Turned [] W V := HT1.out.j tV
    have hs1 := HT1.out.size
    have hb : ∀ k ∈ Y ++ [W.heap.size, W1.heap.size, W1.heap.size + 1], k < V.heap.size := fun k hk => by
      rcases List.mem_append.1 hk with hk | hk
      · have := HYW.out k hk; omega
      · simp at hk; omega
    refine ⟨Y ++ [W.heap.size, W1.heap.size, W1.heap.size + 1], HJ.out _ _ _ _ _ HJ0.out tWV.up (fun k hk => ?_) hb, fun k hk => List.mem_append_left _ hk, by simp, by simp, by simp, hb, tV.same HY1.out (by simp)⟩
    rcases List.mem_append.1 hk with hk | hk
    · exact .inl hk
    · simp at hk
      exact .inr (by omega)
  case hsz =>
    rintro xs V ⟨Z, _, _, _, _, h5, h6, _⟩
    exact h6 _ h5
  case body =>
    rintro l' pre ⟨xt, x1, x2, x3⟩ Bk V hbk hBk ⟨Z, h1, h2, h3, h4, h5, h6, h7⟩ hsp
    simp only at hbk
    obtain ⟨k0, k1, k2, _⟩ := cellsT hbk
    have c7 := cell1 h7
    have hpre : (ofL pre ++ [(x1, x2, x3)]) <+: ofL Lq := by
      obtain ⟨r, hr⟩ := hsp
      exact ⟨ofL r, by rw [← hr]; simp⟩
    obtain ⟨fn, tmps, assign, bodyc, hy, hR⟩ := HYI.out (ofL pre) (x1, x2, x3) Z V h1 hpre
    have HRR := Lib.hid hR
    have HZZ := Lib.hid (And.intro h2 (And.intro h3 (And.intro h4 (And.intro h5 (And.intro h6 h7)))))
    clear hR h1 h2 h3 h4 h5 h6 h7 hbk hpre hsp
    (try dsimp only at hy)
    gi_wp2
    refine (RoundIn.any HRR.out).mono ?_
    rintro e V3 ⟨hs, hz, ⟨rfl, hj3⟩ | ⟨rfl, hx3⟩⟩
    · have FIN : Hid (SameAt [W1.heap.size, W1.heap.size + 1] V V3 ∧ V.heap.size ≤ V3.heap.size ∧ SameAt Y V V3 ∧ ∃ Z, J (ofL (pre ++ [(xt, x1, x2, x3)])) Z V3 ∧ (∀ k ∈ Y, k ∈ Z) ∧ W.heap.size ∈ Z ∧ W1.heap.size ∈ Z ∧ W1.heap.size + 1 ∈ Z ∧ (∀ k ∈ Z, k < V3.heap.size) ∧ V3.heap[W.heap.size]? = some (.cells #[.func (.yield l) #[] #[]] tYw (0, 0))) := Lib.hid (by
        obtain ⟨h2, h3, h4, h5, h6, h7⟩ := HZZ.out
        refine ⟨fun k hk => hs k (by simp at hk; rcases hk with rfl | rfl; exact h4; exact h5), hz, fun k hk => hs k (h2 k hk), Z, ?_, h2, h3, h4, h5, fun k hk => Nat.lt_of_lt_of_le (h6 k hk) hz, (hs _ h3).trans h7⟩
        rw [show ofL (pre ++ [(xt, x1, x2, x3)]) = ofL pre ++ [(x1, x2, x3)] by simp]
        exact hj3)
      clear hs hz hj3
      gi_wp2
      exact FIN.out
    · have FIN : Hid (SameAt [W1.heap.size, W1.heap.size + 1] V V3 ∧ V.heap.size ≤ V3.heap.size ∧ SameAt Y V V3 ∧ (Code.ret = Code.ret ∧ ∃ Z, Jx (ofL (pre ++ [(xt, x1, x2, x3)])) Z V3 ∧ W1.heap.size ∈ Z ∧ W1.heap.size + 1 ∈ Z ∧ (∀ k ∈ Z, k < V3.heap.size))) := Lib.hid (by
        obtain ⟨h2, h3, h4, h5, h6, h7⟩ := HZZ.out
        refine ⟨fun k hk => hs k (by simp at hk; rcases hk with rfl | rfl; exact h4; exact h5), hz, fun k hk => hs k (h2 k hk), rfl, Z, ?_, h4, h5, fun k hk => Nat.lt_of_lt_of_le (h6 k hk) hz⟩
        rw [show ofL (pre ++ [(xt, x1, x2, x3)]) = ofL pre ++ [(x1, x2, x3)] by simp]
        exact hx3)
      clear hs hz hx3
      gi_wp2
      obtain ⟨f1, f2, f3, _, f4⟩ := FIN.out
      exact ⟨f1, f2, f3, rfl, f4⟩
  case done =>
    rintro xs V rfl ⟨Z, h1, h2, h3, h4, h5, h6, h7⟩ hK
    have HF := Lib.hid (show ∃ Z, J (ofL xs) Z (V.putObj W1.heap.size (.deferred none)) from ⟨Z, HJ.out _ _ _ _ _ h1 ((Turned.refl Z V).grown (grownBy_putObj' V _ _) (fun k e => .inl (by cases e; exact h4))) (Newer.refl _ _) (fun k hk => by have := h6 k hk; simp; omega)⟩)
    have HKK := Lib.hid hK
    clear h1 h2 h3 h4 h5 h6 h7 hK
    go_wp2
    refine ⟨by simp, .inl ⟨_, _, rfl, run_takeDeferred HKK.out, ?_⟩⟩
    obtain ⟨Z, h1⟩ := HF.out
    exact ⟨_, results_none rfl _ _ _, ⟨_, rfl⟩, .inl ⟨Z, h1⟩⟩
  case stop =>
    rintro cc xs V hsx ⟨rfl, Z, h1, h4, h5, h6⟩ hK
    have HF := Lib.hid (show ∃ Z, Jx (ofL xs) Z (V.putObj W1.heap.size (.deferred none)) from ⟨Z, HJX.out _ _ _ _ _ h1 ((Turned.refl Z V).grown (grownBy_putObj' V _ _) (fun k e => .inl (by cases e; exact h4))) (Newer.refl _ _) (fun k hk => by have := h6 k hk; simp; omega)⟩)
    have HKK := Lib.hid hK
    clear h1 h4 h5 h6 hK
    have hpre : ofL xs <+: ofL Lq := by
      obtain ⟨r, hr⟩ := hsx
      exact ⟨ofL r, by rw [← hr]; simp⟩
    refine wpIn_ret ?_
    simp only [Exit.inBlock]
    refine ⟨by simp, .inl ⟨_, _, rfl, run_takeDeferred HKK.out, ?_⟩⟩
    obtain ⟨Z, h1⟩ := HF.out
    exact ⟨_, results_none rfl _ _ _, ⟨_, rfl⟩, .inr ⟨_, Z, hpre, h1⟩⟩

/-! ### Of -/
theorem box_func {P : Program} (w : World) (f : Fn) (vs lb : Array Value) (x : Value) (t : TypeId) :
    (store ⟨w.heap.size, 0, none⟩ (.func f vs lb)).run P (w.alloc (.cells #[x] t)) = .ok () (w.alloc (.cells #[.func f vs lb] t)) := by
  rw [run_store _ _ _ _ _ rfl, World.cell?_alloc_at _ _ _ _ rfl, World.frozen?_alloc_at _ _ _ _ rfl, World.setCell_alloc_at _ _ _ _ _ rfl]
  rfl
set_option maxRecDepth 100000 in
set_option maxHeartbeats 1600000 in
theorem wlOf (h : WlM w b X m e nB c L D g0 cap gm hb Xh) (a : Int) :
    Calls Try.prog 22 #[.pointer (some ⟨b, 0, none⟩), .int .i64 a] w fun r w' => ∃ Bx B Lq, r = .returned (.func (.func 43) #[] #[.pointer (some ⟨Bx, 0, none⟩)]) ∧ Turned [] w w' ∧
      w'.heap[Bx]? = some (.cells #[allF B] tSq (0, 0)) ∧ Wq.KeptN w.heap.size w' B Lq ∧ ofL Lq = forK L a := by
  obtain ⟨R, f, hQ, hI, hF, hB, he⟩ := h
  have hi := bI_lt hI.n1.1 a
  have hva := hI.vals a
  have HS := Lib.hid (wlQueueQ hQ hI hF a)
  have HA : Hid (∀ w2, Turned [] w w2 → Calls Try.prog 42 #[quePtr (lineOf (R (bI nB a)) a)] w2 fun e w' => ∃ B Lq, e = .returned (allF B) ∧ Wq.KeptN w.heap.size w' B Lq ∧ ofL Lq = forK L a ∧ Turned [] w2 w') := Lib.hid (by
    intro w2 t2
    cases hl : lineOf (R (bI nB a)) a with
    | none =>
      rw [hl] at hva
      refine (Wq.qall_nil w2).mono ?_
      rintro e w3 ⟨B, rfl, h1, h2⟩
      exact ⟨B, [], rfl, h1.mono t2.size, by rw [← hva]; rfl, h2⟩
    | some x =>
      rw [hl] at hva
      obtain ⟨hx, _⟩ := line_some hl
      refine (Wq.qall_any ((hQ.keep0 t2).que hi hx)).mono ?_
      rintro e w3 ⟨B, rfl, h1, h2⟩
      exact ⟨B, _, rfl, h1.mono t2.size, by rw [← hva]; simp [valsL], h2⟩)
  obtain ⟨qp, hqp⟩ : ∃ qp, quePtr (lineOf (R (bI nB a)) a) = qp := ⟨_, rfl⟩
  rw [hqp] at HS HA
  clear hQ hI hF hB he hva hi hqp
  go_enter Try.func22, Try.ntmps22
  go_wp2_with fail
  with_reducible refine HS.out.mono ?_
  rintro r w1 ⟨rfl, t1⟩
  have HT1 := Lib.hid t1
  clear t1
  go_wp2_with fail
  with_reducible refine (HA.out _ HT1.out).mono ?_
  rintro r w2 ⟨B, Lq, rfl, h1, h2, t2⟩
  have HF : Hid (Turned [] w (w2.alloc (.cells #[allF B] tSq)) ∧ (w2.alloc (.cells #[allF B] tSq)).heap[w2.heap.size]? = some (.cells #[allF B] tSq (0, 0)) ∧ Wq.KeptN w.heap.size (w2.alloc (.cells #[allF B] tSq)) B Lq ∧ ofL Lq = forK L a) := Lib.hid (by
    obtain ⟨cv, Ns, k1, k2, k3, k4, k5⟩ := h1
    exact ⟨(HT1.out.j t2).alloc _, heap_alloc_new w2 _, ⟨cv, Ns, (Below.heap_alloc _ _ _ (lt_of_block k1)).trans k1, k2, k3.alloc _, k4, k5⟩, h2⟩)
  have hst := fun B => box_func (P := Try.prog) w2 (.func 60) #[] #[.pointer (some ⟨B, 0, none⟩)] .nilFunc tSq
  clear h1 h2 t2
  go_wp2
  go_ret
  exact ⟨w2.heap.size, B, Lq, rfl, HF.out⟩
set_option maxHeartbeats 800000 in
theorem wlOf_nil (a : Int) (w : World) :
    Calls Try.prog 22 #[.pointer none, .int .i64 a] w fun r w' => ∃ Bx B, r = .returned (.func (.func 43) #[] #[.pointer (some ⟨Bx, 0, none⟩)]) ∧ Turned [] w w' ∧
      w'.heap[Bx]? = some (.cells #[allF B] tSq (0, 0)) ∧ Wq.KeptN w.heap.size w' B [] := by
  have HS := Lib.hid (wlQueue_nil a w)
  have HA := Lib.hid (Wq.qall_nil w)
  go_enter Try.func22, Try.ntmps22
  go_wp2_with fail
  with_reducible refine HS.out.mono ?_
  rintro r w1 ⟨rfl, rfl⟩
  go_wp2_with fail
  with_reducible refine HA.out.mono ?_
  rintro r w2 ⟨B, rfl, h1, t2⟩
  have HF : Hid (Turned [] w (w2.alloc (.cells #[allF B] tSq)) ∧ (w2.alloc (.cells #[allF B] tSq)).heap[w2.heap.size]? = some (.cells #[allF B] tSq (0, 0)) ∧ Wq.KeptN w.heap.size (w2.alloc (.cells #[allF B] tSq)) B []) := Lib.hid (by
    obtain ⟨cv, Ns, k1, k2, k3, k4, k5⟩ := h1
    exact ⟨t2.alloc _, heap_alloc_new w2 _, ⟨cv, Ns, (Below.heap_alloc _ _ _ (lt_of_block k1)).trans k1, k2, k3.alloc _, k4, k5⟩⟩)
  have hst := fun B => box_func (P := Try.prog) w2 (.func 60) #[] #[.pointer (some ⟨B, 0, none⟩)] .nilFunc tSq
  clear h1 t2
  go_wp2
  go_ret
  exact ⟨w2.heap.size, B, rfl, HF.out⟩
end
end Go.Proofs.Ytiffgkmmibhklaa

/- Whose time is over, as the heap of what is due hands them out. No program. -/
namespace Go.Proofs.Ytiffgkmmibhklaa
open Go.RowKit

theorem ahead_iff (x y : Wt) : aheadW x y = true ↔ x.2.2 < y.2.2 ∨ x.2.2 = y.2.2 ∧ x.1 < y.1 := by simp [aheadW]
theorem ahead_not (x y : Wt) : aheadW x y = false ↔ ¬ (x.2.2 < y.2.2 ∨ x.2.2 = y.2.2 ∧ x.1 < y.1) := by
  rw [← ahead_iff, Bool.not_eq_true]
theorem over_iff (u : Int) (x : Wt) : overW u x = true ↔ x.2.2 ≠ 0 ∧ x.2.2 ≤ u := by simp [overW]
theorem dueI_char (L : List Wt) (u : Int) : ∀ k, (dueI L u k = -1 ∧ ∀ i, i < k → overW u (L.getD i (0, 0, 0)) = false) ∨
    ∃ j : Nat, j < k ∧ dueI L u k = j ∧ overW u (L.getD j (0, 0, 0)) = true ∧ ∀ i, i < k → overW u (L.getD i (0, 0, 0)) = true → aheadW (L.getD i (0, 0, 0)) (L.getD j (0, 0, 0)) = false
  | 0 => .inl ⟨rfl, fun i hi => by omega⟩
  | k + 1 => by
    have ih := dueI_char L u k
    cases ho : overW u (L.getD k (0, 0, 0)) with
    | false =>
      rw [due_skip ho]
      rcases ih with ⟨h1, h2⟩ | ⟨j, hj, h1, h2, h3⟩
      · refine .inl ⟨h1, fun i hi => ?_⟩
        by_cases e : i = k
        · subst e; exact ho
        · exact h2 i (by omega)
      · refine .inr ⟨j, by omega, h1, h2, fun i hi hio => ?_⟩
        by_cases e : i = k
        · subst e; rw [ho] at hio; cases hio
        · exact h3 i (by omega) hio
    | true =>
      rcases ih with ⟨h1, h2⟩ | ⟨j, hj, h1, h2, h3⟩
      · refine .inr ⟨k, by omega, due_low ho (by omega), ho, fun i hi hio => ?_⟩
        by_cases e : i = k
        · subst e; rw [ahead_not]; omega
        · rw [h2 i (by omega)] at hio; cases hio
      · cases ha : aheadW (L.getD k (0, 0, 0)) (L.getD j (0, 0, 0)) with
        | true =>
          refine .inr ⟨k, by omega, due_new ho h1 ha, ho, fun i hi hio => ?_⟩
          by_cases e : i = k
          · subst e; rw [ahead_not]; omega
          · have h4 := h3 i (by omega) hio
            rw [ahead_not] at h4 ⊢
            rw [ahead_iff] at ha
            omega
        | false =>
          refine .inr ⟨j, by omega, due_old ho h1 ha, h2, fun i hi hio => ?_⟩
          by_cases e : i = k
          · subst e; exact ha
          · exact h3 i (by omega) hio
theorem getD_at {L : List Wt} {i : Nat} (h : i < L.length) : L.getD i (0, 0, 0) = L[i] := by simp [List.getD, h]
theorem dueP_least {L : List Wt} (hone : L.Pairwise fun x y => x.1 ≠ y.1) {u : Int} {i : Nat} (hi : i < L.length) (ho : overW u L[i] = true) (h : ∀ z ∈ L, overW u z = true → aheadW z L[i] = false) : dueP L u = i := by
  rcases dueI_char L u L.length with ⟨_, h2⟩ | ⟨j, hj, h1, h2, h3⟩
  · have := h2 i hi
    rw [getD_at hi, ho] at this
    cases this
  · have a1 := h3 i hi (by rw [getD_at hi]; exact ho)
    rw [getD_at hi, getD_at hj] at a1
    rw [getD_at hj] at h2
    have a2 := h L[j] (List.getElem_mem hj) h2
    rw [ahead_not] at a1 a2
    have e : L[i].1 = L[j].1 := by omega
    have hp := List.pairwise_iff_getElem.1 hone
    have : j = i := by
      rcases Nat.lt_trichotomy i j with h4 | h4 | h4
      · exact absurd e (hp i j hi hj h4)
      · exact h4.symm
      · exact absurd e.symm (hp j i hj hi h4)
    subst this
    exact h1
theorem dueP_no {L : List Wt} {u : Int} (h : ∀ z ∈ L, overW u z = false) : dueP L u < 0 := by
  rcases dueI_char L u L.length with ⟨h1, _⟩ | ⟨j, hj, _, h2, _⟩
  · have : dueP L u = -1 := h1
    omega
  · rw [getD_at hj, h _ (List.getElem_mem hj)] at h2
    cases h2

theorem dueR_succ {u : Int} : ∀ {k : Nat} {L : List Wt} {j : Nat}, dueP (dueR u k L) u = j → dueR u (k + 1) L = (dueR u k L).eraseIdx j ∧ dueO u (k + 1) L = dueO u k L ++ [(dueR u k L).getD j (0, 0, 0)]
  | 0, L, j, h => by
    have h' : dueP L u = j := h
    obtain ⟨e1, e2⟩ := due_some h' 0
    exact ⟨e2, e1⟩
  | k + 1, L, j, h => by
    by_cases h0 : dueP L u < 0
    · rw [(due_none h0 (k + 1)).2] at h
      omega
    · obtain ⟨i, hi⟩ := Int.eq_ofNat_of_zero_le (show 0 ≤ dueP L u by omega)
      obtain ⟨e1, e2⟩ := due_some hi k
      obtain ⟨e3, e4⟩ := due_some hi (k + 1)
      rw [e2] at h ⊢
      obtain ⟨r1, r2⟩ := dueR_succ h
      rw [e4, e3, e1, r1, r2]
      exact ⟨rfl, rfl⟩
theorem dueO_prefix {u : Int} : ∀ {k q : Nat} {L : List Wt}, k ≤ q → dueO u k L <+: dueO u q L
  | 0, _, _, _ => List.nil_prefix
  | k + 1, 0, _, h => by omega
  | k + 1, q + 1, L, h => by
    by_cases h0 : dueP L u < 0
    · rw [(due_none h0 (k + 1)).1]
      exact List.nil_prefix
    · obtain ⟨i, hi⟩ := Int.eq_ofNat_of_zero_le (show 0 ≤ dueP L u by omega)
      rw [(due_some hi k).1, (due_some hi q).1, List.cons_prefix_cons]
      exact ⟨rfl, dueO_prefix (by omega)⟩
theorem dueO_stop {u : Int} : ∀ {k q : Nat} {L : List Wt}, dueP (dueR u k L) u < 0 → k ≤ q → dueO u q L = dueO u k L
  | 0, q, L, h, _ => by
    have h' : dueP L u < 0 := h
    rw [(due_none h' q).1]
    rfl
  | k + 1, 0, _, _, h => by omega
  | k + 1, q + 1, L, h, hq => by
    by_cases h0 : dueP L u < 0
    · rw [(due_none h0 (k + 1)).1, (due_none h0 (q + 1)).1]
    · obtain ⟨i, hi⟩ := Int.eq_ofNat_of_zero_le (show 0 ≤ dueP L u by omega)
      rw [(due_some hi k).2] at h
      rw [(due_some hi k).1, (due_some hi q).1, dueO_stop h (by omega)]
theorem dueR_one' {L : List Wt} (h : L.Pairwise fun x y => x.1 ≠ y.1) (u : Int) : ∀ k, (dueR u k L).Pairwise fun x y => x.1 ≠ y.1 := by
  have sub : ∀ (k : Nat) (L : List Wt), (dueR u k L).Sublist L := by
    intro k
    induction k with
    | zero => exact fun L => List.Sublist.refl _
    | succ k ih =>
      intro L
      simp only [dueR]
      split
      · exact List.Sublist.refl _
      · exact (ih _).trans (List.eraseIdx_sublist ..)
  exact fun k => h.sublist (sub k L)

/-- The next one off the heap is the next one of the document's. -/
theorem pops_next {M : List Wt} (hone : M.Pairwise fun x y => x.1 ≠ y.1) {D1 D2 : List (Hm Unit)} {x : Hm Unit} {u : Int} (hp : D1.Perm (dueOf M)) (hx : D1.Perm (x :: D2)) (hl : Least D1 x) (hu : x.1 ≤ u) :
    ∃ (j : Nat) (hj : j < M.length), dueP M u = j ∧ M[j].1 = x.2.1 ∧ M[j].2.2 = x.1 ∧ D2.Perm (dueOf (M.eraseIdx j)) := by
  obtain ⟨y, hy, hy0, rfl⟩ := dueOf_mem.1 (hp.subset (hx.symm.subset (by simp : x ∈ x :: D2)))
  obtain ⟨j, hj, _, hyj⟩ := who_mem hone hy
  subst hyj
  simp only at hu
  refine ⟨j, hj, dueP_least hone hj (by rw [over_iff]; exact ⟨hy0, hu⟩) (fun z hz hzo => ?_), rfl, rfl, ?_⟩
  · rw [over_iff] at hzo
    have h1 := hl (z.2.2, z.1, ()) (hp.symm.subset (dueOf_mem.2 ⟨z, hz, hzo.1, rfl⟩))
    rw [ahead_not]
    exact h1
  · have h1 := (hx.symm.trans hp).trans (dueOf_erase hj)
    have h2 : dueOf [M[j]] = [(M[j].2.2, M[j].1, ())] := by simp [dueOf, hy0]
    rw [h2] at h1
    exact (List.perm_cons _).1 h1
theorem pops_due {u : Int} {D xs D' : List (Hm Unit)} (h : Pops u D xs D') {L : List Wt} (hone : L.Pairwise fun x y => x.1 ≠ y.1) (hp : D.Perm (dueOf L)) : D'.Perm (dueOf (dueR u xs.length L)) ∧ (dueO u xs.length L).length = xs.length := by
  induction h with
  | none => exact ⟨hp, rfl⟩
  | more h1 h2 h3 h4 ih =>
    obtain ⟨i1, i2⟩ := ih
    obtain ⟨j, hj, e1, e2, e3, e4⟩ := pops_next (dueR_one' hone u _) i1 h2 h3 h4
    obtain ⟨r1, r2⟩ := dueR_succ e1
    rw [List.length_append, List.length_singleton, r1, r2]
    exact ⟨e4, by simp [i2]⟩
/-- Behind the last one nobody's time is over. -/
theorem pops_end {u : Int} {M : List Wt} {D' : List (Hm Unit)} (hp : D'.Perm (dueOf M)) (h : ∀ y ∈ D', u < y.1) : dueP M u < 0 := by
  refine dueP_no (fun z hz => ?_)
  cases ho : overW u z with
  | false => rfl
  | true =>
    rw [over_iff] at ho
    have := h (z.2.2, z.1, ()) (hp.symm.subset (dueOf_mem.2 ⟨z, hz, ho.1, rfl⟩))
    simp only at this
    omega
end Go.Proofs.Ytiffgkmmibhklaa

/- The program's Expire. -/
namespace Go.Proofs.Ytiffgkmmibhklaa
open Go.RowKit Go.Maps Go.Shelf
attribute [local go_sem] Oper.semAt_some

/-- The table but for what is due. -/
def WlN (w : World) (b : Nat) (X : List Nat) (m e : Int) (nB c : Nat) (L : List Wt) (g0 cap gm hb : Nat) (Xh : List Nat) : Prop :=
  ∃ R f sv DD col, WlP w b X m e nB R f L.length g0 cap gm hb Xh sv DD col ∧ WlI nB R f c L ∧ Full nB R ∧ (∀ i, i < nB → (R i).length ≤ c) ∧ 0 ≤ e ∧ e ≤ 4096

section
variable {w w' : World} {b : Nat} {X Y : List Nat} {m e : Int} {nB c : Nat} {R : Nat → List Ln} {f : Int → Option (Nat × Int)} {s g0 cap gm hb : Nat} {Xh : List Nat} {sv : Nat → Value} {DD : DataW Value} {col : Nat → Co} {D : List (Hm Unit)} {L : List Wt}
theorem WlM.split (h : WlM w b X m e nB c L D g0 cap gm hb Xh) : WlN w b X m e nB c L g0 cap gm hb Xh ∧ E.HpC w hb Xh m D := by
  obtain ⟨R, f, ⟨sv, DD, col, h1, h2⟩, r⟩ := h
  exact ⟨⟨R, f, sv, DD, col, h1, r⟩, h2⟩
theorem WlN.join (h : WlN w b X m e nB c L g0 cap gm hb Xh) (hh : E.HpC w hb Xh m D) : WlM w b X m e nB c L D g0 cap gm hb Xh := by
  obtain ⟨R, f, sv, DD, col, h1, r⟩ := h
  exact ⟨R, f, ⟨sv, DD, col, h1, hh⟩, r⟩
theorem WlN.one (h : WlN w b X m e nB c L g0 cap gm hb Xh) : L.Pairwise fun x y => x.1 ≠ y.1 := by
  obtain ⟨R, f, sv, DD, col, h1, h2, r⟩ := h
  exact h2.one
theorem WlN.lt (h : WlN w b X m e nB c L g0 cap gm hb Xh) : ∀ k ∈ X, k < w.heap.size := by
  obtain ⟨R, f, sv, DD, col, h1, r⟩ := h
  exact h1.lt
theorem WlN.xh (h : WlN w b X m e nB c L g0 cap gm hb Xh) : ∀ k ∈ Xh, k ∈ X := by
  obtain ⟨R, f, sv, DD, col, h1, r⟩ := h
  exact h1.xh
/-- What is due may turn as it will. -/
theorem WlP.dueOff (h : WlP w b X m e nB R f s g0 cap gm hb Xh sv DD col) (hs : ∀ k ∈ X, k ∉ Xh → w'.heap[k]? = w.heap[k]?) (hl : ∀ k ∈ X, k < w'.heap.size) : WlP w' b X m e nB R f s g0 cap gm hb Xh sv DD col := by
  have off : ∀ k, col k ≠ .due → k ∉ Xh := fun k hc hk => hc (h.ch k hk)
  exact { tab := (hs b h.xt (off b (by rw [h.ct]; simp))).trans h.tab
          row := ownsRow_same h.row (fun k hk _ => by simp [Value.ownBlock] at hk; subst hk; exact hs _ h.xr (off _ (by rw [h.cr]; simp)))
          buc := fun i hi => ownsRow_same (h.buc i hi) (fun k hk _ => hs k (h.xb i hi k hk) (off k (by rw [h.cb i hi k hk]; simp)))
          que := fun i hi x hx => fq_at (h.que i hi x hx) (fun k hk => hs k (h.xq i hi x hx k hk) (off k (by rw [h.cq i hi x hx k hk]; simp)))
          map := ownsV_same h.map (hs gm h.xm (off _ (by rw [h.cm]; simp)))
          siz := h.siz, red := h.red, xt := h.xt, xr := h.xr, xm := h.xm, xh := h.xh, xb := h.xb, xq := h.xq, lt := hl, ct := h.ct, cr := h.cr, cm := h.cm, ch := h.ch, cb := h.cb, cq := h.cq }
theorem WlN.off (h : WlN w b X m e nB c L g0 cap gm hb Xh) (ht : Turned Y w w') (hY : ∀ k ∈ Y, k ∈ Xh ∨ k ∉ X) : WlN w' b X m e nB c L g0 cap gm hb Xh := by
  obtain ⟨R, f, sv, DD, col, h1, r⟩ := h
  refine ⟨R, f, sv, DD, col, h1.dueOff (fun k hk hkh => ht.block k (h1.lt k hk) (fun hy => ?_)) (fun k hk => Nat.lt_of_lt_of_le (h1.lt k hk) ht.size), r⟩
  rcases hY k hy with h2 | h2
  · exact hkh h2
  · exact h2 hk
theorem WlN.at_ (h : WlN w b X m e nB c L g0 cap gm hb Xh) (hs : SameAt X w w') : WlN w' b X m e nB c L g0 cap gm hb Xh := by
  obtain ⟨R, f, sv, DD, col, h1, r⟩ := h
  exact ⟨R, f, sv, DD, col, h1.same hs, r⟩
theorem WlN.tab (h : WlN w b X m e nB c L g0 cap gm hb Xh) : w.heap[b]? = some (.cells #[.int .i64 m, .int .i64 e, .slice (some ⟨g0, 0, none⟩) nB cap, .map (some gm), .pointer (some ⟨hb, 0, none⟩)] tTb (0, 0)) := by
  obtain ⟨R, f, sv, DD, col, h1, r⟩ := h
  exact h1.tab

abbrev tPt : TypeId := 25
set_option maxHeartbeats 800000 in
theorem wlExpire (b : Nat) (u : Int) (w : World) : Calls Try.prog 21 #[.pointer (some ⟨b, 0, none⟩), .int .u64 u] w fun r w' =>
    r = .returned (.func (.func 39) #[] #[.pointer (some ⟨w.heap.size, 0, none⟩), .pointer (some ⟨w.heap.size + 1, 0, none⟩)]) ∧
      w' = (w.alloc (.cells #[.pointer (some ⟨b, 0, none⟩)] tPt)).alloc (.cells #[.int .u64 u] 30) := by
  go_enter Try.func21, Try.ntmps21
  go_wp2
  go_ret
  exact ⟨rfl, rfl⟩
set_option maxHeartbeats 800000 in
theorem wlExpire_nil (u : Int) (w : World) : Calls Try.prog 21 #[.pointer none, .int .u64 u] w fun r w' =>
    r = .returned (.func (.func 38) #[] #[]) ∧ Turned [] w w' := by
  have HT := Lib.hid (((Turned.refl [] w).alloc (.cells #[.pointer none] tPt)).alloc (.cells #[.int .u64 u] 30))
  go_enter Try.func21, Try.ntmps21
  go_wp2
  go_ret
  exact ⟨rfl, HT.out⟩

/-- What stands while the program's loop over what is due goes on. -/
structure ExL (J : List Wt → List Nat → World → Prop) (V : World) (b : Nat) (m e : Int) (nB c : Nat) (L : List Wt) (g0 cap gm hb : Nat) (Xh : List Nat) (u : Int) (N Ky B2 B3 B0 B1 : Nat) (l k : Nat) (Z X : List Nat) : Prop where
  j : J (dueO u k L) Z V
  t : WlN V b X m e nB c (dueR u k L) g0 cap gm hb Xh
  xz : ∀ i ∈ X, i ∈ Z
  z : ∀ i ∈ [N, N + 1, Ky, B2, B3, B0, B1], i ∈ Z
  zl : ∀ i ∈ Z, i < V.heap.size
  x : ∀ i ∈ [N, N + 1, Ky, B2, B3, B0, B1], i ∉ X
  ky : V.heap[Ky]? = some (.cells #[.func (.yield l) #[] #[]] tYw (0, 0))
  b2 : V.heap[B2]? = some (.cells #[.pointer (some ⟨b, 0, none⟩)] tPt (0, 0))
  d : Ky ≠ N ∧ Ky ≠ N + 1 ∧ B2 ≠ N ∧ B2 ≠ N + 1
  h : ∀ i ∈ Xh, i ≠ N ∧ i ≠ N + 1 ∧ i ≠ Ky ∧ i ≠ B2
theorem ExL.turn {J : List Wt → List Nat → World → Prop} {V V' : World} {u : Int} {N Ky B2 B3 B0 B1 l k : Nat} {Z : List Nat} (hJ : ∀ xs Z Z' A B, J xs Z A → Turned Z A B → Newer Z A.heap.size Z' → (∀ k ∈ Z', k < B.heap.size) → J xs Z' B)
    (h : ExL J V b m e nB c L g0 cap gm hb Xh u N Ky B2 B3 B0 B1 l k Z X) (ht : Turned (N :: (N + 1) :: Xh) V V') : ExL J V' b m e nB c L g0 cap gm hb Xh u N Ky B2 B3 B0 B1 l k Z X := by
  have hz : ∀ i ∈ Z, i < V'.heap.size := fun i hi => Nat.lt_of_lt_of_le (h.zl i hi) ht.size
  obtain ⟨d1, d2, d3, d4⟩ := h.d
  refine ⟨hJ _ _ _ _ _ h.j (ht.mono (fun i hi => .inl ?_)) (Newer.refl _ _) hz, h.t.off ht (fun i hi => ?_), h.xz, h.z, hz, h.x, ht.same h.ky (fun hx => ?_), ht.same h.b2 (fun hx => ?_), h.d, h.h⟩
  · simp at hi
    rcases hi with rfl | rfl | hi
    · exact h.z _ (by simp)
    · exact h.z _ (by simp)
    · exact h.xz i (h.t.xh i hi)
  · simp at hi
    rcases hi with rfl | rfl | hi
    · exact .inr (h.x _ (by simp))
    · exact .inr (h.x _ (by simp))
    · exact .inl hi
  · simp at hx
    rcases hx with hx | hx | hx
    · exact d1 hx
    · exact d2 hx
    · exact (h.h _ hx).2.2.1 rfl
  · simp at hx
    rcases hx with hx | hx | hx
    · exact d3 hx
    · exact d4 hx
    · exact (h.h _ hx).2.2.2 rfl
set_option maxRecDepth 100000 in
set_option maxHeartbeats 6400000 in
theorem ex1_seq {n : Nat} {u : Int} (h : WlM w b X m e nB c L D g0 cap gm hb Xh) (hD : D.Perm (dueOf L)) (hm : (L.length : Int) ≤ m) {B2 B3 : Nat} (h2 : w.heap[B2]? = some (.cells #[.pointer (some ⟨b, 0, none⟩)] tPt (0, 0))) (h3 : w.heap[B3]? = some (.cells #[.int .u64 u] 30 (0, 0))) (hX2 : B2 ∉ X) (hX3 : B3 ∉ X) :
    TurnSeqZ Fence.wide n Try.prog 39 #[.pointer (some ⟨B2, 0, none⟩), .pointer (some ⟨B3, 0, none⟩)] encY (X ++ [B2, B3]) (fun xs => xs <+: dueA u L)
      (fun xs Z W => xs = dueA u L ∧ ∃ X', WlAt W b X' m e c (dueR u xs.length L) ∧ ∀ k ∈ X', k ∈ Z) (fun xs Z W => xs <+: dueA u L ∧ ∃ X', WlAt W b X' m e c (dueR u xs.length L) ∧ ∀ k ∈ X', k ∈ Z) w := by
  intro l J Jx W hW hJ hJx hYi hj0
  have hC := h.keep0 hW
  have hone := h.one
  have b2 := hW.same h2 (by simp)
  have b3 := hW.same h3 (by simp)
  have hbl := hC.lt b hC.head
  have hb2l := lt_of_block b2
  have hb3l := lt_of_block b3
  have HJ := Lib.hid hJ
  have HJX := Lib.hid hJx
  have HYI := Lib.hid hYi
  have HJ0 := Lib.hid hj0
  have HC := Lib.hid hC
  have HB2 := Lib.hid b2
  have HD := Lib.hid hD
  have HX2 := Lib.hid (And.intro hX2 hX3)
  have HOne := Lib.hid hone
  clear hJ hJx hYi hj0 hD hX2 hX3 h2 h3 hone h
  refine callsIn_of_wp_marks Try.func39 rfl trivial ?_ rfl
  simp only [Try.ntmps39, List.size_toArray, List.length_cons, List.length_nil, Nat.reduceAdd, Nat.reduceSub, Array.replicate_succ, Array.replicate_zero, List.push_toArray, List.append_toArray, List.nil_append, List.cons_append]
  refine wpIn_wide.2 ?_
  obtain ⟨W1, hW1⟩ : ∃ W1, W.alloc (.cells #[.func (.yield l) #[] #[]] tYw) = W1 := ⟨_, rfl⟩
  have t1 : Turned [] W W1 := hW1 ▸ (Turned.refl [] W).alloc _
  have y1 : W1.heap[W.heap.size]? = some (.cells #[.func (.yield l) #[] #[]] tYw (0, 0)) := hW1 ▸ heap_alloc_new W _
  obtain ⟨W2, hW2⟩ : ∃ W2, W1.drew = W2 := ⟨_, rfl⟩
  have t2 : Turned [] W1 W2 := hW2 ▸ (Turned.refl [] W1).drew
  have t12 := t1.j t2
  have c2 := cell1 (t12.same b2 (by simp))
  have c3 := cell1 (t12.same b3 (by simp))
  obtain ⟨_, _, _, _, c4⟩ := cellsB (hC.keep0 t12).tab
  have hsz1 : W1.heap.size = W.heap.size + 1 := by rw [← hW1]; simp
  have hsz2 : W2.heap.size = W.heap.size + 1 := by rw [← hW2]; exact hsz1
  have HT2 := Lib.hid t12
  have HY2 := Lib.hid (t2.same y1 (by simp))
  have HS2 := Lib.hid hsz2
  have HW1 := Lib.hid hW1
  clear t1 t2 t12 y1 hW1 hsz1 hsz2 hC hW b2 b3
  go_wp2_with fail
  (try rw [HW1.out])
  go_wp2_with fail
  refine tail_at 5 hW2 (by kernel_rfl) (by kernel_rfl) ?_
  clear hW2
  simp only [List.take_succ_cons, List.take_zero, List.drop_succ_cons, List.drop_zero]
  repeat still_step
  refine wpStill_nil ?_
  go_wp2_with fail
  refine (E.due_any (some ⟨hb, 0, none⟩) u W2).mono ?_
  rintro r W3 ⟨rfl, hW3⟩
  obtain ⟨N, hN⟩ : ∃ N, W3.heap.size = N := ⟨_, rfl⟩
  obtain ⟨Ky, hKy⟩ : ∃ Ky, W.heap.size = Ky := ⟨_, rfl⟩
  obtain ⟨B0, hB0⟩ : ∃ B0, W2.heap.size = B0 := ⟨_, rfl⟩
  have t3 : Turned [] W2 W3 := hW3 ▸ ((Turned.refl [] W2).alloc _).alloc _
  have k0 : W3.heap[B0]? = some (.cells #[.pointer (some ⟨hb, 0, none⟩)] E.tPh (0, 0)) := by
    rw [hW3, ← hB0]
    exact (Below.heap_alloc _ _ _ (by simp)).trans (heap_alloc_new W2 _)
  have k1 : W3.heap[B0 + 1]? = some (.cells #[.int .u64 u] 30 (0, 0)) := by
    have := heap_alloc_new (W2.alloc (.cells #[.pointer (some ⟨hb, 0, none⟩)] E.tPh)) (.cells #[.int .u64 u] 30)
    rw [World.size_alloc, hB0] at this
    rw [hW3]
    exact this
  have hsz3 : N = Ky + 3 ∧ B0 = Ky + 1 := by
    have := HS2.out
    have h3 : W3.heap.size = W2.heap.size + 2 := by rw [hW3]; simp
    omega
  rw [hKy] at HY2 hb2l hb3l hbl
  have t03 := HT2.out.j t3
  have hC3 := HC.out.keep0 t03
  have hXlt : ∀ k ∈ X, k < Ky := fun k hk => by rw [← hKy]; exact HC.out.lt k hk
  have hXh : ∀ k ∈ Xh, k ∈ X := hC3.due.2
  have hseq := E.due1_seqS (n := 19) (by omega) (u := u) hC3.due.1 k0 k1 (fun hx => by have := hXlt _ (hXh _ hx); omega) (fun hx => by have := hXlt _ (hXh _ hx); omega)
  have HSQ := Lib.hid hseq
  have HT3 := Lib.hid t03
  have HKY := Lib.hid (t3.same HY2.out (by simp))
  have HC3 := Lib.hid hC3
  have HN := Lib.hid hN
  have HXL := Lib.hid hXlt
  have HXH := Lib.hid hXh
  have HKy := Lib.hid hKy
  have hYlt : ∀ k ∈ B0 :: (B0 + 1) :: Xh, k < W3.heap.size := fun k hk => by
    simp at hk
    rcases hk with rfl | rfl | hk
    · omega
    · omega
    · have := hXlt k (hXh k hk); omega
  have HYL := Lib.hid hYlt
  have HSZ := Lib.hid hsz3
  clear hW3 t3 k0 k1 t03 hC3 hseq hXlt hXh c2 c3 c4 hYlt hKy hsz3
  rw [hB0, HKy.out]
  clear hB0
  go_wp2_with fail
  refine (wpIn_wide (n := 20)).1 ?_
  refine range_turnsW rfl (by omega) rfl trivial (fun _ _ => rfl) (fun k hk => HYL.out k (by simp [hk])) HYL.out HSQ.out (fun _ => rfl)
    (by rintro xs A V ⟨D', h1, h2⟩ hs; exact ⟨D', h1, h2.at_ (fun k hk => hs k (by simp [hk]))⟩)
    (by rintro xs A V ⟨D', h1, h2, h3⟩ hs; exact ⟨D', h1, h2.at_ (fun k hk => hs k (by simp [hk])), h3⟩)
    (by rintro xs A V ⟨D', h1, h2⟩ hs; exact ⟨D', h1, h2.at_ (fun k hk => hs k (by simp [hk]))⟩)
    (fun xs V => ∃ Z X', ExL J V b m e nB c L g0 cap gm hb Xh u N Ky B2 B3 B0 (B0 + 1) l xs.length Z X')
    (fun cc xs V => cc = .ret ∧ ∃ Z X', Jx (dueO u xs.length L) Z V ∧ N ∈ Z ∧ N + 1 ∈ Z ∧ (∀ k ∈ Z, k < V.heap.size) ∧ WlN V b X' m e nB c (dueR u xs.length L) g0 cap gm hb Xh ∧ (∀ k ∈ X', k ∈ Z) ∧ N ∉ X' ∧ N + 1 ∉ X')
    ?hI ?hIx ?h0 ?hsz E.tKy (fun x => #[.int .u64 x.1, .int .i64 x.2.1]) ?a1 ?assign ?body ?done ?stop
  case assign =>
    intro l' x Bk V K hBk hK
    gi_wp2
    exact hK
  case hI =>
    rintro xs A V ⟨Z, X', hE⟩ ht
    rw [HN.out] at ht
    exact ⟨Z, X', hE.turn HJ.out ht⟩
  case hIx =>
    rintro cc xs A V ⟨rfl, Z, X', h1, h2, h3, h4, h5, h6, h7, h8⟩ ht
    rw [HN.out] at ht
    have hz : ∀ i ∈ Z, i < V.heap.size := fun i hi => Nat.lt_of_lt_of_le (h4 i hi) ht.size
    refine ⟨rfl, Z, X', HJX.out _ _ _ _ _ h1 (ht.mono (fun i hi => .inl ?_)) (Newer.refl _ _) hz, h2, h3, hz, h5.off ht (fun i hi => ?_), h6, h7, h8⟩
    · simp at hi
      rcases hi with rfl | rfl | hi
      · exact h2
      · exact h3
      · exact h6 i (h5.xh i hi)
    · simp at hi
      rcases hi with rfl | rfl | hi
      · exact .inr h7
      · exact .inr h8
      · exact .inl hi
  case h0 =>
    intro V tV hV
    have hsz3 := HSZ.out
    rw [HN.out] at hV
    have tWV := HT3.out.j tV
    have hb : ∀ k ∈ (X ++ [B2, B3]) ++ [Ky, B0, B0 + 1, N, N + 1], k < V.heap.size := fun k hk => by
      simp at hk
      rcases hk with hk | hk
      · have := HXL.out k hk; omega
      · omega
    have hx : ∀ i ∈ [N, N + 1, Ky, B2, B3, B0, B0 + 1], i ∉ X := fun i hi hx => by
      have := HXL.out i hx
      simp at hi
      rcases hi with rfl | rfl | rfl | rfl | rfl | rfl | rfl
      · omega
      · omega
      · omega
      · exact HX2.out.1 hx
      · exact HX2.out.2 hx
      · omega
      · omega
    refine ⟨(X ++ [B2, B3]) ++ [Ky, B0, B0 + 1, N, N + 1], X, ⟨HJ.out _ _ _ _ _ HJ0.out tWV.up (fun k hk => ?_) hb, (HC3.out.split.1).off tV (by simp), fun i hi => by simp [hi], fun i hi => ?_, hb, hx, tV.same HKY.out (by simp), (tWV.same HB2.out (by simp)), by omega, fun i hi => ?_⟩⟩
    · rcases List.mem_append.1 hk with hk | hk
      · exact .inl hk
      · right
        rw [HKy.out]
        simp at hk
        omega
    · simp at hi ⊢
      rcases hi with rfl | rfl | rfl | rfl | rfl | rfl | rfl <;> simp
    · have h1 := HXH.out i hi
      have h2 := HXL.out i h1
      refine ⟨by omega, by omega, by omega, fun e => HX2.out.1 (by rw [← e]; exact h1)⟩
  case hsz =>
    rintro xs V ⟨Z, X', hE⟩
    rw [HN.out]
    exact hE.zl _ (hE.z (N + 1) (by simp))
  case body =>
    rintro l' pre ⟨x1, x2, x3⟩ Bk V hbk hBk ⟨Z, X', hE⟩ ⟨D2, hpops, hhp⟩
    simp only at hbk
    obtain ⟨D1, hp1, hp2, hp3, hp4⟩ := hpops.split
    obtain ⟨i1, i2⟩ := pops_due hp1 HOne.out HD.out
    obtain ⟨k, hk⟩ : ∃ k, pre.length = k := ⟨_, rfl⟩
    rw [hk] at hE i1 i2
    obtain ⟨j, hj, e1, e2, e3, e4⟩ := pops_next hE.t.one i1 hp2 hp3 hp4
    obtain ⟨r1, r2⟩ := dueR_succ e1
    rw [getD_at hj] at r2
    have hkL : k + 1 ≤ L.length := by
      have h1 := hpops.len
      have h2 := HD.out.length_eq
      have h3 := dueOf_len L
      rw [List.length_append, List.length_singleton, hk] at h1
      omega
    have hnext : (dueO u k L ++ [(dueR u k L)[j]]) <+: dueA u L := by
      rw [← r2]
      exact dueO_prefix hkL
    have HLv := Lib.hid (wlLeave_some (hE.t.join hhp) hj)
    obtain ⟨⟨y1, y2, y3⟩, hy⟩ : ∃ y, (dueR u k L)[j] = y := ⟨_, rfl⟩
    rw [hy] at HLv e2 r2 hnext
    simp only at HLv e2
    subst e2
    have c2 := cell1 hE.b2
    obtain ⟨q0, q1, _⟩ := two_cells hbk
    have HEE := Lib.hid hE
    have HR := Lib.hid (And.intro r1 r2)
    have HNx := Lib.hid hnext
    have HK := Lib.hid (show (pre ++ [((x1, y1, x3) : Hm Unit)]).length = k + 1 by simp [hk])
    clear hE hpops hhp hp1 hp2 hp3 hp4 i1 i2 hk e1 e3 e4 r1 r2 hnext hy hbk hj
    gi_wp2_with fail
    refine ⟨trivial, ?_⟩
    refine (CallsIn.inRound l' (callsIn_wide.2 HLv.out)).mono ?_
    rintro r V1 ⟨rfl, X1, p1, p2, p3, p4⟩
    have hE := HEE.out
    have tA : Turned [] V1 (V1.alloc (wtC (y1, y2, y3))) := (Turned.refl [] V1).alloc _
    have hz2 : ∀ i ∈ Z ++ X1, i < (V1.alloc (wtC (y1, y2, y3))).heap.size := fun i hi => by
      have h4 := tA.size
      rcases List.mem_append.1 hi with hi | hi
      · have := hE.zl i hi; have := p2.size; omega
      · have := p1.lt i hi; omega
    have hj2 : J (dueO u k L) (Z ++ X1) (V1.alloc (wtC (y1, y2, y3))) := HJ.out _ _ _ _ _ hE.j ((p2.mono (fun i hi => .inl (hE.xz i hi)) : Turned Z V V1).trans tA.up (Newer.refl _ _)) (fun i hi => by
      rcases List.mem_append.1 hi with hi | hi
      · exact .inl hi
      · rcases p3 i hi with h4 | h4
        · exact .inl (hE.xz i h4)
        · exact .inr h4) hz2
    have nx1 : ∀ i ∈ [N, N + 1, Ky, B2, B3, B0, B0 + 1], i ∉ X1 := fun i hi hx => by
      rcases p3 i hx with h4 | h4
      · exact hE.x i hi h4
      · have := hE.zl i (hE.z i hi); omega
    have same2 : ∀ i ∈ [N, N + 1, Ky, B2, B3, B0, B0 + 1], (V1.alloc (wtC (y1, y2, y3))).heap[i]? = V.heap[i]? := fun i hi => by
      have h4 := hE.zl i (hE.z i hi)
      exact (tA.block i (by have := p2.size; omega) (by simp)).trans (p2.block i h4 (hE.x i hi))
    have same3 : SameAt Xh V (V1.alloc (wtC (y1, y2, y3))) := fun i hi => by
      have h4 := hE.zl i (hE.xz i (hE.t.xh i hi))
      exact (tA.block i (by have := p2.size; omega) (by simp)).trans (p4 i hi)
    have k7 := (same2 Ky (by simp)).trans hE.ky
    have c7 := cell1 (p2.same hE.ky (hE.x Ky (by simp)))
    have hkl1 : Ky < V1.heap.size := Nat.lt_of_lt_of_le (hE.zl _ (hE.z Ky (by simp))) p2.size
    obtain ⟨fn, tmps, assign, bodyc, hy, hRR⟩ := HYI.out (dueO u k L) (y1, y2, y3) (Z ++ X1) _ hj2 HNx.out
    have HRR := Lib.hid hRR
    have HS2 := Lib.hid same2
    have HS3 := Lib.hid same3
    have HNX := Lib.hid nx1
    have HZ2 := Lib.hid hz2
    have HP1 := Lib.hid (p1.keep0 tA)
    have HSz := Lib.hid (show V.heap.size ≤ (V1.alloc (wtC (y1, y2, y3))).heap.size by have := p2.size; have := tA.size; omega)
    clear hRR same2 same3 nx1 hz2 hj2 p1 p2 p3 p4 tA hE q0 q1 c2 k7
    (try dsimp only at hy)
    gi_wp2
    refine (RoundIn.any HRR.out).mono ?_
    have keep : ∀ V3, SameAt (Z ++ X1) (V1.alloc (wtC (y1, y2, y3))) V3 → (V1.alloc (wtC (y1, y2, y3))).heap.size ≤ V3.heap.size →
        SameAt [N, N + 1] V V3 ∧ V.heap.size ≤ V3.heap.size ∧ SameAt (B0 :: (B0 + 1) :: Xh) V V3 ∧ WlN V3 b X1 m e nB c (dueR u (k + 1) L) g0 cap gm hb Xh ∧ (∀ i ∈ Z ++ X1, i < V3.heap.size) ∧
          V3.heap[Ky]? = some (.cells #[.func (.yield l) #[] #[]] tYw (0, 0)) ∧ V3.heap[B2]? = some (.cells #[.pointer (some ⟨b, 0, none⟩)] tPt (0, 0)) := by
      intro V3 hs hz
      have hE := HEE.out
      have inZ : ∀ i ∈ [N, N + 1, Ky, B2, B3, B0, B0 + 1], V3.heap[i]? = V.heap[i]? := fun i hi => (hs i (List.mem_append_left _ (hE.z i hi))).trans (HS2.out i hi)
      refine ⟨fun i hi => inZ i (by simp at hi ⊢; omega), Nat.le_trans HSz.out hz, fun i hi => ?_, ?_, fun i hi => Nat.lt_of_lt_of_le (HZ2.out i hi) hz, (inZ Ky (by simp)).trans hE.ky, (inZ B2 (by simp)).trans hE.b2⟩
      · simp at hi
        rcases hi with rfl | rfl | hi
        · exact inZ _ (by simp)
        · exact inZ _ (by simp)
        · exact (hs i (List.mem_append_left _ (hE.xz i (hE.t.xh i hi)))).trans (HS3.out i hi)
      · rw [HR.out.1]
        exact HP1.out.split.1.at_ (fun i hi => hs i (List.mem_append_right _ hi))
    have HKeep := Lib.hid keep
    clear keep
    rintro r V3 ⟨hs, hz, ⟨rfl, hj3⟩ | ⟨rfl, hx3⟩⟩
    · have FIN : Hid (SameAt [N, N + 1] V V3 ∧ V.heap.size ≤ V3.heap.size ∧ SameAt (B0 :: (B0 + 1) :: Xh) V V3 ∧ ∃ Z X', ExL J V3 b m e nB c L g0 cap gm hb Xh u N Ky B2 B3 B0 (B0 + 1) l (pre ++ [((x1, y1, x3) : Hm Unit)]).length Z X') := Lib.hid (by
        obtain ⟨f1, f2, f3, f4, f5, f6, f7⟩ := HKeep.out V3 hs hz
        have hE := HEE.out
        refine ⟨f1, f2, f3, Z ++ X1, X1, ?_⟩
        rw [HK.out]
        exact ⟨by rw [HR.out.2]; exact hj3, f4, fun i hi => List.mem_append_right _ hi, fun i hi => List.mem_append_left _ (hE.z i hi), f5, HNX.out, f6, f7, hE.d, hE.h⟩)
      clear hs hz hj3
      gi_wp2
      rw [HN.out]
      exact FIN.out
    · have FIN : Hid (SameAt [N, N + 1] V V3 ∧ V.heap.size ≤ V3.heap.size ∧ SameAt (B0 :: (B0 + 1) :: Xh) V V3 ∧ ∃ Z X', Jx (dueO u (pre ++ [((x1, y1, x3) : Hm Unit)]).length L) Z V3 ∧ N ∈ Z ∧ N + 1 ∈ Z ∧ (∀ k ∈ Z, k < V3.heap.size) ∧ WlN V3 b X' m e nB c (dueR u (pre ++ [((x1, y1, x3) : Hm Unit)]).length L) g0 cap gm hb Xh ∧ (∀ k ∈ X', k ∈ Z) ∧ N ∉ X' ∧ N + 1 ∉ X') := Lib.hid (by
        obtain ⟨f1, f2, f3, f4, f5, f6, f7⟩ := HKeep.out V3 hs hz
        have hE := HEE.out
        refine ⟨f1, f2, f3, Z ++ X1, X1, ?_⟩
        rw [HK.out]
        exact ⟨by rw [HR.out.2]; exact hx3, List.mem_append_left _ (hE.z N (by simp)), List.mem_append_left _ (hE.z (N + 1) (by simp)), f5, f4, fun i hi => List.mem_append_right _ hi, HNX.out N (by simp), HNX.out (N + 1) (by simp)⟩)
      clear hs hz hx3
      gi_wp2
      rw [HN.out]
      obtain ⟨f1, f2, f3, f4⟩ := FIN.out
      exact ⟨f1, f2, f3, rfl, f4⟩
  case done =>
    rintro xs V ⟨D', hp, hh, hall⟩ ⟨Z, X', hE⟩ hK
    obtain ⟨i1, i2⟩ := pops_due hp HOne.out HD.out
    obtain ⟨k, hk⟩ : ∃ k, xs.length = k := ⟨_, rfl⟩
    rw [hk] at hE i1 i2
    have hkL : k ≤ L.length := by
      have h1 := hp.len
      have h2 := HD.out.length_eq
      have h3 := dueOf_len L
      omega
    have hA : dueA u L = dueO u k L := dueO_stop (pops_end i1 hall) hkL
    have tV : Turned [N] V (V.putObj N (.deferred none)) := (Turned.refl [N] V).grown (grownBy_putObj' V _ _) (fun i e => .inl (by cases e; simp))
    have HF := Lib.hid (show ∃ xs Z, (xs = dueA u L ∧ ∃ X', WlAt (V.putObj N (.deferred none)) b X' m e c (dueR u xs.length L) ∧ ∀ k ∈ X', k ∈ Z) ∧ J xs Z (V.putObj N (.deferred none)) from by
      refine ⟨dueO u k L, Z, ⟨hA.symm, X', ⟨nB, g0, cap, gm, hb, Xh, D', ?_, ?_, ?_⟩, hE.xz⟩, HJ.out _ _ _ _ _ hE.j (tV.mono (fun i hi => .inl (by simp at hi; subst hi; exact hE.z _ (by simp)))) (Newer.refl _ _) (fun i hi => Nat.lt_of_lt_of_le (hE.zl i hi) tV.size)⟩
      · rw [i2]
        exact (hE.t.join hh).keep tV (fun i hi hx => by simp at hx; subst hx; exact hE.x _ (by simp) hi)
      · rw [i2]
        exact i1
      · have := dueR_len u (dueO u k L).length L
        omega)
    rw [HN.out] at hK
    have HKK := Lib.hid hK
    clear hp hh hall hE hK i1 i2 hk hkL hA tV
    go_wp2
    rw [HN.out]
    refine ⟨by simp, .inl ⟨_, _, rfl, run_takeDeferred HKK.out, ?_⟩⟩
    obtain ⟨ys, Z2, h1, h2⟩ := HF.out
    exact ⟨_, results_none rfl _ _ _, ⟨_, rfl⟩, .inl ⟨ys, Z2, h1, h2⟩⟩
  case stop =>
    rintro cc xs V ⟨D', hp, hh⟩ ⟨rfl, Z, X', h1, h2, h3, h4, h5, h6, h7, h8⟩ hK
    obtain ⟨i1, i2⟩ := pops_due hp HOne.out HD.out
    obtain ⟨k, hk⟩ : ∃ k, xs.length = k := ⟨_, rfl⟩
    rw [hk] at i1 i2 h1 h5
    have hkL : k ≤ L.length := by
      have h1 := hp.len
      have h2 := HD.out.length_eq
      have h3 := dueOf_len L
      omega
    have tV : Turned [N] V (V.putObj N (.deferred none)) := (Turned.refl [N] V).grown (grownBy_putObj' V _ _) (fun i e => .inl (by cases e; simp))
    have HF := Lib.hid (show ∃ xs Z, (xs <+: dueA u L ∧ ∃ X', WlAt (V.putObj N (.deferred none)) b X' m e c (dueR u xs.length L) ∧ ∀ k ∈ X', k ∈ Z) ∧ Jx xs Z (V.putObj N (.deferred none)) from by
      refine ⟨dueO u k L, Z, ⟨dueO_prefix hkL, X', ⟨nB, g0, cap, gm, hb, Xh, D', ?_, ?_, ?_⟩, h6⟩, HJX.out _ _ _ _ _ h1 (tV.mono (fun i hi => .inl (by simp at hi; subst hi; exact h2))) (Newer.refl _ _) (fun i hi => Nat.lt_of_lt_of_le (h4 i hi) tV.size)⟩
      · rw [i2]
        exact (h5.join hh).keep tV (fun i hi hx => by simp at hx; subst hx; exact h7 hi)
      · rw [i2]
        exact i1
      · have := dueR_len u (dueO u k L).length L
        omega)
    rw [HN.out] at hK
    have HKK := Lib.hid hK
    clear hp hh h1 h2 h3 h4 h5 h6 h7 h8 hK i1 i2 hk hkL tV
    refine wpIn_ret ?_
    simp only [Exit.inBlock]
    rw [HN.out]
    refine ⟨by simp, .inl ⟨_, _, rfl, run_takeDeferred HKK.out, ?_⟩⟩
    obtain ⟨ys, Z2, h1, h2⟩ := HF.out
    exact ⟨_, results_none rfl _ _ _, ⟨_, rfl⟩, .inr ⟨ys, Z2, h1, h2⟩⟩
end
end Go.Proofs.Ytiffgkmmibhklaa
