/-
  sameKey, same: a table is held against the document's.
-/
import Derived.Test.YtiffgkmmibhklaaWqSaid
import Derived.Test.YtiffgkmmibhklaaGA
import Derived.TacticsIn
import Derived.OwnWalkIn
import Derived.Laws.StructEq
import Derived.Sort.BigQuietIn
namespace Go.Proofs.Ytiffgkmmibhklaa
open Go.RowKit Go.Maps Go.Shelf
attribute [local go_sem] Oper.semAt_some

/-- 'append(v, news..)' in a round: where the longer row lies. -/
theorem wpListIn_append_any {F : Fence} {N : Nat} {P : Program} (w : World) {ops : Array Oper} {rest : List Oper} {o : Oper} {a : Act} {Q : Exit → Act → World → Prop} (hgd : o.guard = none) (s x : Operand) (t : TypeId)
    (ho : o.op = .call { callee := .builtin .append, args := #[s, x], argTypes := #[t, t] })
    (e : TypeId) (i : TypeInfo) (z : Value) (size bytes : Nat) (ht : P.underlying t = some (.slice e)) (hi : P.info? e = some i) (hz : i.zero = some z)
    (hsize : i.size = size) (hby : i.bytes = bytes) (hzs : z.cells.size = size) (hsz : 0 < size)
    (v : Value) (n : Nat) (xs : List Value) (hs : a.eval s = v) (hown : w.ownsRow 0 e size v n xs)
    (ao : Option Addr) (m c : Nat) (news : List Value) (hx : a.eval x = .slice ao m c) (hl : news.length = m * size) (hnone : ao = none → m = 0 ∧ c = 0) (hnews : ∀ ad, ao = some ad → ∀ j u, news[j]? = some u → w.cell? (ad.add j) = some u) (h1 : ∀ u ∈ news, u.oneCell' = true)
    (h63 : n + m ≤ maxLen) (hbytes : (n + m) * bytes ≤ 140737488355328)
    (h : ∀ a' cap' w', w'.ownsRow 0 e size (.slice a' (n + m) cap') (n + m) (xs ++ news) → w.grownBy w' v.ownBlock → (∀ g ∈ (Value.slice a' (n + m) cap').ownBlock.toList, g ∈ v.ownBlock.toList ∨ w.heap.size ≤ g) →
      wpListIn F N P ops Q rest (a.put o.dst (.slice a' (n + m) cap')) w') : wpListIn F N P ops Q (o :: rest) a w := by
  refine wpListIn_plain hgd fun K hK' => ?_
  obtain ⟨a', cap', w', hr, h2, h3, h4⟩ := run_append_any (P := P) w t o.type e i z size bytes ht hi hz hsize hby hzs hsz v n xs hown ao m c news hl hnone hnews h1 h63 hbytes
  unfold Oper.wpIn
  refine ⟨?_, ?_⟩
  · simp [Oper.about, ho, resolve, Target.leads, Sem.run_pure]
  · rw [Oper.semAt_plain F _ _ (by rw [ho]; intro c hc'; cases hc')]
    simp [execOp, ho, resolve, invoke, builtin, hs, hx, hr, Result.andThen]
    exact hK' _ _ (h a' cap' w' h2 h3 h4)
theorem ownsRow_from {w : World} {base : Nat} {e : TypeId} {size : Nat} {v : Value} {n : Nat} {xs : List Value} (h : w.ownsRow 0 e size v n xs) (hb : ∀ g ∈ v.ownBlock.toList, base ≤ g) : w.ownsRow base e size v n xs := by
  refine ⟨h.1, ?_⟩
  rcases h.2 with h2 | ⟨g, cap, cur, rfl, _, h2⟩
  · exact .inl h2
  · exact .inr ⟨g, cap, cur, rfl, hb g (by simp [Value.ownBlock]), h2⟩

/-- What sameKey has gathered; Z: the iterator's blocks. -/
structure SkZ (w W : World) (N G : Nat) (pre : List Wt) (Z : List Nat) : Prop where
  g : ∃ v, W.heap[G]? = some (.cells #[v] 46 (0, 0)) ∧ W.ownsRow N tW 3 v pre.length (cellsOf encW pre) ∧ ∀ k ∈ v.ownBlock.toList, k ∉ Z
  z : ∀ k ∈ Z, k < W.heap.size ∧ G < k
  t : Turned [] w W
  s : N ≤ W.heap.size
theorem SkZ.mild {w W W' : World} {N G M : Nat} {pre : List Wt} {Z Z' : List Nat} (h : SkZ w W N G pre Z) (m : Mild Z M W W') (hM : w.heap.size ≤ M) (hG : w.heap.size ≤ G) (hn : Newer Z W.heap.size Z') (hb : ∀ k ∈ Z', k < W'.heap.size) : SkZ w W' N G pre Z' := by
  obtain ⟨⟨v, h1, h2, h3⟩, hz, t, s⟩ := h
  have hgl := lt_of_block h1
  refine ⟨⟨v, m.cells h1 (fun hx => by have := hz _ hx; omega), ownsRow_same h2 fun k hk _ => ?_, fun k hk hx => ?_⟩, fun k hk => ⟨hb k hk, ?_⟩, t.mild m hM (fun k hk => by have := hz k hk; omega), Nat.le_trans s m.size⟩
  · obtain ⟨cur, hc⟩ := ownsRow_type h2 k hk
    rw [m.cells hc (h3 k hk), hc]
  · rcases hn k hx with h4 | h4
    · exact h3 k hk h4
    · have := ownsRow_lt h2 k hk; omega
  · rcases hn k hk with h4 | h4
    · exact (hz k h4).2
    · omega
/-- One more. -/
theorem SkZ.more {w W V V2 : World} {N G : Nat} {pre : List Wt} {v v' : Value} {x : Wt} {Z : List Nat} (hG : W.heap[G]? = some (.cells #[v] 46 (0, 0))) (hrow : W.ownsRow N tW 3 v pre.length (cellsOf encW pre)) (hoff : ∀ k ∈ v.ownBlock.toList, k ∉ Z) (hZ : ∀ k ∈ Z, k < W.heap.size ∧ G < k) (ht : Turned [] w W)
    (tV : Turned [] W V) (hg : V.grownBy V2 v.ownBlock) (hown : V2.ownsRow 0 tW 3 v' (pre.length + 1) (cellsOf encW pre ++ encW x)) (hnew : ∀ g ∈ v'.ownBlock.toList, g ∈ v.ownBlock.toList ∨ V.heap.size ≤ g) (hGN : G < N) (hwG : w.heap.size ≤ G) (hNW : N ≤ W.heap.size) :
    V2.cell? ⟨G, 0, none⟩ = some v ∧ V2.frozen? ⟨G, 0, none⟩ = false ∧ SkZ w (V2.setCell ⟨G, 0, none⟩ v') N G (pre ++ [x]) Z ∧ KeepsFrom N W (V2.setCell ⟨G, 0, none⟩ v') ∧ SameAt Z W (V2.setCell ⟨G, 0, none⟩ v') := by
  have hlt : ∀ k ∈ v.ownBlock.toList, N ≤ k := fun k hk => (hrow.lt k (by simpa using hk)).1
  have hVs := tV.size
  have hlt' : ∀ k ∈ v'.ownBlock.toList, N ≤ k := fun k hk => by
    rcases hnew k hk with h | h
    · exact hlt k h
    · omega
  have tW2 : Turned v.ownBlock.toList W V2 := Turned.grown (tV.mono (fun k hk => by simp at hk)) hg (fun k hk => .inl (by simp [hk]))
  have h1 := tW2.same hG (fun hx => by have := hlt _ hx; omega)
  have hsz : (V2.setCell ⟨G, 0, none⟩ v').heap.size = V2.heap.size := by simp [World.setCell]
  refine ⟨by simp [World.cell?, h1], frozen_of_row _ _ _ _ _ h1, ⟨⟨v', ?_, ?_, fun k hk hx => ?_⟩, fun k hk => ⟨?_, (hZ k hk).2⟩, ?_, ?_⟩, ?_, fun k hk => ?_⟩
  · rw [heap_setCell_same _ _ _ _ _ _ h1]
    rfl
  · rw [List.length_append, cellsOf_snoc]
    exact ownsRow_setCell_other (ownsRow_from hown hlt') (a := ⟨G, 0, none⟩) (fun e => by have := hlt' G (by simp [e]); omega) _
  · rcases hnew k hk with h | h
    · exact hoff k h hx
    · have := (hZ k hx).1; omega
  · rw [hsz]; have := (hZ k hk).1; have := tW2.size; omega
  · exact ((ht.trans tW2 (fun k hk => .inr (by have := hlt k hk; omega)))).setCell (.inr hwG) _
  · rw [hsz]; exact Nat.le_trans hNW tW2.size
  · have hk1 : KeepsOthers W V2 := keepsOthers_turned tW2 (fun k hk => by
      obtain ⟨cur, hc⟩ := ownsRow_type hrow k hk
      exact ⟨_, _, hc⟩)
    exact (hk1.trans (KeepsOthers.setCell _ _ _)).from _
  · have hkZ := hZ k hk
    exact (Below.heap_setCell _ _ _ _ (by show k ≠ G; omega)).trans (tW2.block k hkZ.1 (fun hx => hoff k hx hk))

theorem forK_take {L : List Wt} {a : Int} {k : Nat} (hk : k < L.length) (ha : (L.getD k (0, 0, 0)).2.1 = a) : (forK L a).getD (cntK (L.take k) a) (0, 0, 0) = L.getD k (0, 0, 0) ∧ cntK (L.take k) a < (forK L a).length := by
  have hd : L.getD k (0, 0, 0) = L[k] := by simp [List.getD, hk]
  have e : forK L a = forK (L.take k) a ++ (L[k] :: forK (L.drop (k + 1)) a) := by
    have h1 : L = L.take k ++ (L[k] :: L.drop (k + 1)) := by rw [← List.drop_eq_getElem_cons hk, List.take_append_drop]
    unfold forK
    conv => lhs; rw [h1]
    rw [List.filter_append, List.filter_cons, if_pos (by rw [← hd]; simpa using ha)]
  have hl : cntK (L.take k) a = (forK (L.take k) a).length := rfl
  rw [e, hl, hd]
  refine ⟨by simp [List.getD_eq_getElem?_getD], by simp⟩

set_option maxRecDepth 100000 in
set_option maxHeartbeats 6400000 in
theorem sameKey_any (S : WqSaid) {w : World} {b d : Nat} {X Y : List Nat} {m e : Int} {c : Nat} {L : List Wt} (h : S.At w b X m e c L) (hr : R8 w d Y m e L) (a : Int) (ha : isI a) (hL : L.length ≤ 100) :
    Calls Try.prog 37 #[.pointer (some ⟨b, 0, none⟩), .pointer (some ⟨d, 0, none⟩), .int .i64 a] w fun r w' => r = .returned (.bool true) ∧ Turned [] w w' := by
  refine callsIn_wide.1 (?_ : CallsIn Fence.wide 20 _ _ _ _ _)
  refine callsIn_of_wp_marks Try.func37 rfl trivial ?_ rfl
  simp only [Try.ntmps37, List.size_toArray, List.length_cons, List.length_nil, Nat.reduceAdd, Nat.reduceSub, Array.replicate_succ, Array.replicate_zero, List.push_toArray, List.append_toArray, List.nil_append, List.cons_append]
  refine wpIn_wide.2 ?_
  obtain ⟨W1, hW1⟩ : ∃ W1, w.alloc (.cells #[.slice none 0 0] 46) = W1 := ⟨_, rfl⟩
  have t1 : Turned [] w W1 := hW1 ▸ (Turned.refl [] w).alloc _
  have g1 : W1.heap[w.heap.size]? = some (.cells #[.slice none 0 0] 46 (0, 0)) := hW1 ▸ heap_alloc_new w _
  have hXl := S.lt h
  have HO := Lib.hid (S.of a (S.keep h t1 (by simp)) ha hL)
  obtain ⟨ad, cap, hfix⟩ := hr.fix
  have HF := Lib.hid hfix
  have HW1 := Lib.hid hW1
  obtain ⟨ii, hi, hz0, hz1, hz2⟩ := info_parts infoW
  have T1 := Lib.hid t1
  have HXl := Lib.hid hXl
  have G1 := Lib.hid g1
  have hz1' : W1.heap.size = w.heap.size + 1 := by rw [← hW1]; simp
  clear hfix hW1 hXl t1 g1 h hr
  go_wp2_with fail
  rw [HW1.out]
  refine HO.out.mono ?_
  rintro e W2 ⟨f, lb, rfl, t2, hent, Z, hZ, hseq⟩
  have hz2' := t2.size
  have hZ' : ∀ k ∈ Z, k < W2.heap.size ∧ w.heap.size < k := fun k hk => by
    obtain ⟨h1, h2⟩ := hZ k hk
    exact ⟨h1, by omega⟩
  have B0 : SkZ w W2 W2.heap.size w.heap.size [] Z := ⟨⟨_, t2.same G1.out (by simp), World.ownsRow_nil _ _ _ _, by simp [Value.ownBlock]⟩, hZ', T1.out.trans t2 (Newer.refl _ _), Nat.le_refl _⟩
  have HB0 := Lib.hid B0
  have HZ := Lib.hid hZ'
  have HENT := Lib.hid hent
  have HSEQ := Lib.hid (hseq 19 (by omega))
  have hwN : w.heap.size < W2.heap.size := by omega
  clear t2 hent hZ hseq B0 hZ' HO HW1
  go_wp2_with fail
  refine (wpIn_wide (n := 20)).1 ?_
  refine range_turnsZ_boxed rfl (by omega) (gf := f) (lb := lb) rfl trivial HENT.out
    (X := Z) (fun k hk => (HZ.out k hk).1) HSEQ.out (fun _ => rfl) (fun _ _ _ _ h _ => h) (fun _ _ _ _ h _ => h)
    (fun pre Z' W => SkZ w W W2.heap.size w.heap.size pre Z') (fun _ _ _ _ => False) (fun xs Z1 Z2 A B h mm hn hb => h.mild mm (by omega) (Nat.le_refl _) hn hb) (fun _ _ _ _ _ _ h _ _ _ => h.elim) HB0.out
    (fun _ _ _ h => ⟨h.s, fun k hk => (h.z k hk).1⟩) tW (fun x => #[.int .i64 x.1, .int .i64 x.2.1, .int .u64 x.2.2]) ?a1 ?assign ?body ?done ?stop
  case stop =>
    rintro D c xs Z1 W _ _ _ h _
    exact h.elim
  case assign =>
    intro l x Bk W K hBk hK
    gi_wp2
    exact hK
  case body =>
    rintro l pre x Z1 Bk W hbk hBk hI hsp
    obtain ⟨⟨v, hg, hrow, hoff⟩, hz, ht, hNW⟩ := hI
    obtain ⟨av, vc, rfl, _, _⟩ := ownsRow_shape hrow
    obtain ⟨x1, x2, x3⟩ := x
    simp only at hbk
    obtain ⟨k0, k1, k2, _⟩ := cellsT hbk
    have c0 := cell1 hg
    have hpl : pre.length ≤ 100 := by
      have h1 := hsp.length_le
      have h2 : (forK L a).length ≤ L.length := List.length_filter_le _ _
      simp at h1
      omega
    have HG := Lib.hid hg
    have HR := Lib.hid hrow
    have HTT := Lib.hid ht
    have HRow := Lib.hid (ownsRow_base hrow (Nat.zero_le _))
    have HOff := Lib.hid hoff
    have HZ1 := Lib.hid hz
    clear hg hrow ht hbk hsp hoff hz
    gi_wp2_with (gi_at_builtin; refine wpListIn_append_any _ rfl _ _ 46 rfl tW ii (.agg #[.int .i64 0, .int .i64 0, .int .u64 0]) 3 24 Try.underlying46 hi hz0 hz1 hz2 rfl (by decide) _ pre.length (cellsOf encW pre) rfl (HRow.out.alloc _) (some ⟨W.heap.size, 0, none⟩) 1 1 [.int .i64 x1, .int .i64 x2, .int .u64 x3] rfl rfl ?c0 ?c1 ?c2 ?c3 ?c4 ?_)
    case c0 => simp
    case c1 => intro ad had; cases had; exact three_new_at _ W.heap.size rfl _ _ _ _
    case c2 => intro u hu; simp at hu; rcases hu with rfl | rfl | rfl <;> rfl
    case c3 => unfold maxLen; omega
    case c4 => omega
    intro av' vc' V2 hown hgrow hnew
    obtain ⟨q1, q2, q3, q4, q5⟩ := SkZ.more (x := (x1, x2, x3)) HG.out HR.out HOff.out HZ1.out HTT.out ((Turned.refl [] W).alloc _) hgrow hown (fun g hg => by
      rcases hnew g (by simpa using hg) with h | h
      · exact .inl (by simpa using h)
      · exact .inr (by simpa using h)) hwN (Nat.le_refl _) hNW
    have Q3 := Lib.hid q3
    have Q4 := Lib.hid q4
    have Q5 := Lib.hid q5
    clear hown hgrow hnew q3 q4 q5
    gi_wp2
    exact ⟨Q4.out, Q5.out, Q3.out⟩
  case done =>
    rintro D xs Z1 W hD _ rfl hI hK
    obtain ⟨⟨v, hg, hrow, _⟩, _, ht, hNW⟩ := hI
    obtain ⟨av, vc, rfl, _, _⟩ := ownsRow_shape hrow
    obtain ⟨p, hp⟩ : ∃ p, (forK L a).length = p := ⟨_, rfl⟩
    have hpc : cntK L a = p := hp
    rw [hp] at hg hrow
    have hp100 : p ≤ 100 := by have := cnt_le L a; omega
    have HG := Lib.hid hg
    have HR := Lib.hid hrow
    have HTT := Lib.hid ht
    have HK := Lib.hid hK
    have HP := Lib.hid hp
    obtain ⟨d1, d2, _⟩ := HF.out W ht
    clear hg hrow ht hK hp
    go_wp2
    go_loopw [9, 25] (fun n i wr => ∃ k q : Nat, i = .int .i64 k ∧ n = .int .i64 q ∧ k ≤ L.length ∧ q ≤ k ∧ Hid (cntK (L.take k) a = q) ∧ Hid (Turned [] W wr)) (fun _ i _ => L.length - (intOf i).toNat)
    case atStart => exact ⟨0, 0, rfl, rfl, by omega, by omega, Lib.hid (by simp [cntK]), Lib.hid (Turned.refl _ _)⟩
    case round =>
      obtain ⟨k, q, rfl, rfl, hk, hqk, HQ, HT⟩ := hrel
      by_cases hlt : k < L.length
      · have i0 : (0 : Int) ≤ k := by omega
        have i1 : (k : Int) < L.length := by omega
        obtain ⟨_, _, DR⟩ := HF.out wr (HTT.out.trans HT.out (Newer.refl _ _))
        obtain ⟨g, rfl, r0, r1, r2⟩ := DR k hlt
        have hx0 := forK_take (a := a) hlt
        have hc0 := cnt_succ (a := a) hlt
        obtain ⟨x, hx⟩ : ∃ x, L.getD k (0, 0, 0) = x := ⟨_, rfl⟩
        rw [hx] at r0 r1 r2 hx0 hc0
        rw [HQ.out] at hx0 hc0
        obtain ⟨x1, x2, x3⟩ := x
        simp only at r0 r1 r2 hx0 hc0
        have TA := Lib.hid (HT.out.alloc (.cells #[.int .i64 x1, .int .i64 x2, .int .u64 x3] tW))
        have HC := Lib.hid hc0
        clear DR hx hc0
        by_cases hkey : x2 = a
        · subst hkey
          obtain ⟨hx1, hx2⟩ := hx0 rfl
          rw [HP.out] at hx2
          have e0 : (x2 == x2) = true := by simp
          have e0' : (x2 != x2) = false := by simp
          have z1 : decide ((p : Int) ≤ (q : Int)) = false := by simp; omega
          have z2 : decide (p ≤ q) = false := by simp; omega
          have q0 : (0 : Int) ≤ q := by omega
          have q1 : (q : Int) < p := by omega
          have gA := TA.out.same HG.out (by simp)
          have rA := ownsRow_same HR.out fun k _ hl => TA.out.block k hl (by simp)
          obtain ⟨g', vc', hv', _, _⟩ := ownsRow_pos rA (by omega)
          simp only [Value.slice.injEq, true_and] at hv'
          obtain ⟨rfl, rfl⟩ := hv'
          have rc := row_cells (L := forK L x2) encW_len (ownsRow_base (by rw [HP.out]; exact rA) (Nat.zero_le _)) (j := q) (by rw [HP.out]; exact hx2)
          have hd : (forK L x2)[q]'(by rw [HP.out]; exact hx2) = (x1, x2, x3) := by
            rw [← hx1]
            simp [List.getD_eq_getElem?_getD, HP.out, hx2]
          rw [hd] at rc
          have s0 := (rc 0 (by omega)).1
          have s1 := (rc 1 (by omega)).1
          have s2 := (rc 2 (by omega)).1
          simp only [encW, List.getElem?_cons_zero, List.getElem?_cons_succ, Nat.add_zero] at s0 s1 s2
          have gc := cell1 gA
          rw [if_pos rfl] at HC
          clear hx0 hx1 gA rA rc hd
          go_wp2
          refine wp_region_quiet_lit (by kernel_rfl) (by kernel_rfl) ?_
          try simp only [List.append_eq, List.cons_append, List.nil_append]
          repeat (go_big_quiet_step (fail))
          refine wpQuiet_nil ?_
          rintro _ ⟨nq, rfl⟩
          go_wp2
          go_roundw
          case rel => exact ⟨k + 1, q + 1, by go_num, by go_num, by omega, by omega, Lib.hid HC.out, Lib.hid (TA.out.drewN nq)⟩
          case measure => simp [intOf]; omega
        · have e0 : (x2 == a) = false := by simpa using hkey
          have e0' : (x2 != a) = true := by simpa using hkey
          rw [if_neg hkey] at HC
          clear hx0
          go_wp2
          go_roundw
          case rel => exact ⟨k + 1, q, by go_num, rfl, by omega, by omega, Lib.hid (by rw [HC.out]; simp), TA⟩
          case measure => simp [intOf]; omega
      · have hk' : k = L.length := by omega
        subst hk'
        have gA := HT.out.same HG.out (by simp)
        have gc := cell1 gA
        have hq : q = p := by
          have := HQ.out
          rw [List.take_length, hpc] at this
          exact this.symm
        subst hq
        have e0 : ((q : Int) == (q : Int)) = true := by simp
        have HKK := Lib.hid (HT.out.same HK.out (by simp))
        have TT := Lib.hid (HTT.out.trans HT.out (Newer.refl _ _))
        clear gA
        go_wp2
        refine ⟨by simp, .inl ⟨_, _, rfl, run_takeDeferred HKK.out, ?_⟩⟩
        exact ⟨_, results_tmp rfl _ _ _, rfl, TT.out.put (by omega) _⟩

set_option maxRecDepth 100000 in
set_option maxHeartbeats 1600000 in
theorem same_any (S : WqSaid) {w : World} {b d : Nat} {X Y : List Nat} {m e : Int} {c : Nat} {L : List Wt} (h : S.At w b X m e c L) (hr : R8 w d Y m e L) (hL : L.length ≤ 100)
    (ao : Option Addr) (kb off n cap : Nat) (F : Nat → Int) (hn : n ≤ 1000) (hao : 0 < n → ao = some ⟨kb, off, none⟩ ∧ kb < w.heap.size) (hF : ∀ i, i < n → w.cell? ⟨kb, off + i, none⟩ = some (.int .i64 (F i))) (hw : ∀ i, i < n → isI (F i)) :
    Calls Try.prog 20 #[.pointer (some ⟨b, 0, none⟩), .pointer (some ⟨d, 0, none⟩), .slice ao n cap] w fun r w' => r = .returned (.bool true) ∧ Turned [] w w' := by
  have HL := Lib.hid (fun q : Nat => S.len (w := w.drewN q) (S.keep h ((Turned.refl [] w).drewN q) (by simp)))
  have HC := Lib.hid (fun (W : World) (t : Turned [] w W) (a : Int) (ha : isI a) => S.count a (S.keep h t (by simp)) ha)
  have HD := Lib.hid (fun (W : World) (t : Turned [] w W) (a : Int) => rcount_any (show R8 W d Y m e L from LAt.keep hr t (by simp)) a)
  have HK := Lib.hid (fun (W : World) (t : Turned [] w W) (a : Int) (ha : isI a) => sameKey_any S (S.keep h t (by simp)) (show R8 W d Y m e L from LAt.keep hr t (by simp)) a ha hL)
  obtain ⟨da, dcap, hfix⟩ := hr.fix
  obtain ⟨_, d2, _⟩ := hfix w (Turned.refl [] w)
  have HF := Lib.hid hF
  have HAO := Lib.hid hao
  have HW := Lib.hid hw
  have e0 : ((L.length : Int) == (L.length : Int)) = true := by simp
  have e0' : ((L.length : Int) != (L.length : Int)) = false := by simp
  clear h hr hfix hF hao hw
  go_enter Try.func20, Try.ntmps20
  go_wp2
  go_quiet ((go_at_call 23; exact Calls.quiet_of (HL.out _)))
  go_wp2
  go_loopw [19] (fun i wr => ∃ k : Nat, i = .int .i64 k ∧ k ≤ n ∧ Hid (Turned [] w wr)) (fun i _ => n - (intOf i).toNat)
  case atStart => exact ⟨0, rfl, Nat.zero_le _, Lib.hid ((Turned.refl [] w).drewN nq)⟩
  case round =>
    obtain ⟨k, rfl, hk, HT⟩ := hrel
    by_cases hlt : k < n
    · obtain ⟨rfl, hb⟩ := HAO.out (by omega)
      have hcell := HF.out k hlt
      have hcw : wr.cell? ⟨kb, off + k, none⟩ = some (.int .i64 (F k)) := by
        have := HT.out.block kb hb (by simp)
        unfold World.cell? at hcell ⊢
        rw [this]
        exact hcell
      have hz := HW.out k hlt
      obtain ⟨z, hzz⟩ : ∃ z, F k = z := ⟨_, rfl⟩
      rw [hzz] at hcw hz
      have HC1 := Lib.hid (HC.out wr HT.out z hz)
      obtain ⟨q, hq⟩ : ∃ q, cntK L z = q := ⟨_, rfl⟩
      have HD1 := Lib.hid (fun W t => HD.out W t z)
      rw [hq] at HC1 HD1
      have i0 : (0 : Int) ≤ k := by omega
      have i1 : (k : Int) < n := by omega
      have s0 : ((q : Int) == (q : Int)) = true := by simp
      have s0' : ((q : Int) != (q : Int)) = false := by simp
      have HZ := Lib.hid hz
      clear hcell hzz hq hz
      go_wp2_with fail
      with_reducible refine HC1.out.mono ?_
      rintro e w1 ⟨rfl, t1⟩
      have T1 := Lib.hid (HT.out.trans t1 (Newer.refl _ _))
      clear t1
      go_wp2_with fail
      with_reducible refine (HD1.out _ T1.out).mono ?_
      rintro e w2 ⟨rfl, rfl⟩
      have HK1 := Lib.hid (HK.out _ T1.out z HZ.out)
      go_wp2_with fail
      with_reducible refine HK1.out.mono ?_
      rintro e w3 ⟨rfl, t3⟩
      have T3 := Lib.hid (T1.out.trans t3 (Newer.refl _ _))
      clear t3
      go_wp2
      go_roundw
      case rel => exact ⟨k + 1, by go_num, by omega, T3⟩
      case measure => simp [intOf]; omega
    · obtain rfl : k = n := by omega
      go_wp2
      go_ret
      exact ⟨rfl, HT.out⟩
end Go.Proofs.Ytiffgkmmibhklaa
