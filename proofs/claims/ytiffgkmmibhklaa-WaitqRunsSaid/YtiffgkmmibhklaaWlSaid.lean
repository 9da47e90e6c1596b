/-
  All that is said of the program's table.
-/
import Derived.Test.YtiffgkmmibhklaaWlNil
namespace Go.Proofs.Ytiffgkmmibhklaa
open Go.RowKit Go.Maps

section
variable {w w' : World} {b : Nat} {X Y : List Nat} {m e : Int} {nB c : Nat} {g0 cap gm hb : Nat} {Xh : List Nat} {D : List (Hm Unit)} {L : List Wt}
theorem WlM.room (h : WlM w b X m e nB c L D g0 cap gm hb Xh) (a : Int) : (cntK L a : Int) ≤ e := by
  obtain ⟨R, f, hQ, hI, hF, hB, he⟩ := h
  have hva := hI.vals a
  rw [← forK_len]
  cases hl : lineOf (R (bI nB a)) a with
  | none =>
    rw [hl] at hva
    rw [← hva]
    simpa [valsL] using he.1
  | some x =>
    rw [hl] at hva
    have h1 := (hQ.que (bI_lt hI.n1.1 a) (line_some hl).1).room.1
    rw [← hva]
    simpa [valsL] using h1
theorem who_some {L : List Wt} {a : Int} (h : 0 ≤ whoI L a) : ∃ (j : Nat) (hj : j < L.length), whoI L a = j ∧ L[j].1 = a := by
  rcases place_cases (fun x : Wt => decide (x.1 = a)) L with ⟨h1, _⟩ | ⟨k, hk, h1, h2⟩
  · unfold whoI at h
    omega
  · exact ⟨k, hk, h1, by simpa using h2⟩
theorem who_not {L : List Wt} {a : Int} (h : whoI L a < 0) : ∀ y ∈ L, y.1 ≠ a := by
  rcases place_cases (fun x : Wt => decide (x.1 = a)) L with ⟨_, h2⟩ | ⟨k, _, h1, _⟩
  · exact fun y hy => by simpa using h2 y hy
  · unfold whoI at h
    omega
theorem takW_at {L : List Wt} {a : Int} {j : Nat} (hj : j < L.length) (h : whoI L a = j) : takW L (whoI L a) = L[j] ∧ takLW L (whoI L a) = L.eraseIdx j := by
  have h0 : ¬ whoI L a < 0 := by omega
  unfold takW takLW
  rw [if_neg h0, if_neg h0, h, Int.toNat_natCast, getD_at hj]
  exact ⟨rfl, rfl⟩
theorem takW_no {L : List Wt} {a : Int} (h : whoI L a < 0) : takW L (whoI L a) = (0, 0, 0) ∧ takLW L (whoI L a) = L := by
  unfold takW takLW
  rw [if_pos h, if_pos h]
  exact ⟨rfl, rfl⟩
theorem reqL_same {f t e : Int} : ∀ {k : Nat} {L : List Wt}, f ≠ t → (reqL f t e k L).length = L.length
  | 0, _, _ => rfl
  | k + 1, L, hft => by
    simp only [reqL]
    split
    · rfl
    · rename_i h
      obtain ⟨j, hj⟩ := Int.eq_ofNat_of_zero_le (show 0 ≤ keyI L f by omega)
      have h1 := (cnt_sent (t := t) hj hft).2
      rw [hj, Int.toNat_natCast, reqL_same hft, h1]
theorem wakeL_len {a : Int} : ∀ {k : Nat} {L : List Wt}, (wakeL a k L).length ≤ L.length
  | 0, _ => Nat.le_refl _
  | k + 1, L => by
    simp only [wakeL]
    split
    · exact Nat.le_refl _
    · refine Nat.le_trans wakeL_len ?_
      rw [List.length_eraseIdx]
      split <;> omega

theorem WlAt.keep0 (h : WlAt w b X m e c L) (t : Turned [] w w') : WlAt w' b X m e c L := by
  obtain ⟨nB, g0, cap, gm, hb, Xh, D, h1, h2⟩ := h
  exact ⟨nB, g0, cap, gm, hb, Xh, D, h1.keep0 t, h2⟩
theorem WlAt.more (h : WlAt w b X m e c L) {c' : Nat} (hc : c ≤ c') : WlAt w b X m e c' L := by
  obtain ⟨nB, g0, cap, gm, hb, Xh, D, h1, h2⟩ := h
  exact ⟨nB, g0, cap, gm, hb, Xh, D, h1.more hc, h2⟩

theorem said_wait (x : Wt) (h : WlAt w b X m e c L) (hx : wfW x) (hL : L.length ≤ 100) (hc : c ≤ 90000) :
    Calls Try.prog 8 #[.pointer (some ⟨b, 0, none⟩), aggW x] w fun r w' => r = .returned (.int .i64 (waitE m e L x)) ∧ ∃ X', WlAt w' b X' m e (c + 100) (waitL m e L x) ∧ Turned X w w' ∧ Newer X w.heap.size X' := by
  have h0 := h
  obtain ⟨nB, g0, cap, gm, hb, Xh, D, h1, h2, h3⟩ := h
  have hroom := h1.room x.2.1
  have same : ∀ {r : Ending} {w' : World} {v : Int}, waitE m e L x = v → v ≠ 0 → (r = .returned (.int .i64 v) ∧ Turned [] w w') → r = .returned (.int .i64 (waitE m e L x)) ∧ ∃ X', WlAt w' b X' m e (c + 100) (waitL m e L x) ∧ Turned X w w' ∧ Newer X w.heap.size X' := by
    rintro r w' v hv hv0 ⟨rfl, t⟩
    have hl : waitL m e L x = L := by unfold waitL; rw [if_neg (by rw [hv]; exact hv0)]
    rw [hv, hl]
    exact ⟨rfl, X, (h0.keep0 t).more (by omega), t.up, Newer.refl _ _⟩
  by_cases hmet : 0 ≤ whoI L x.1
  · obtain ⟨j, hj, _, hj2⟩ := who_some hmet
    exact (wlWait_met h1 x hx ⟨L[j], List.getElem_mem hj, hj2⟩).mono fun r w' hh => same (by unfold waitE; rw [if_pos hmet]) (by omega) hh
  · have hno := who_not (L := L) (a := x.1) (by omega)
    by_cases hful : (L.length : Int) = m
    · exact (wlWait_full1 h1 x hx hno hful).mono fun r w' hh => same (by unfold waitE; rw [if_neg hmet, if_pos (.inl (by omega))]) (by omega) hh
    · by_cases hce : (cntK L x.2.1 : Int) = e
      · exact (wlWait_full2 h1 x hx hno hful hce).mono fun r w' hh => same (by unfold waitE; rw [if_neg hmet, if_pos (.inr (by omega))]) (by omega) hh
      · have hE : waitE m e L x = 0 := by unfold waitE; rw [if_neg hmet, if_neg (by omega)]
        have hl : waitL m e L x = L ++ [x] := by unfold waitL; rw [if_pos hE]
        rw [hE, hl]
        refine (wlWait_yes h1 x hx hno hful hce h2 (by omega) (by omega) hc (by omega)).mono ?_
        rintro r w' ⟨rfl, X', Xh', D', q1, q2, q3, q4⟩
        exact ⟨rfl, X', ⟨nB, g0, cap, gm, hb, Xh', D', q1.more (by omega), q2, by simp; omega⟩, q3, q4⟩

theorem TurnSeqZ.weak {α : Type} {F : Fence} {n : Nat} {P : Program} {g : Nat} {lb : Array Value} {encs : α → Array Value} {X : List Nat} {Sp : List α → Prop} {S Sx S' Sx' : List α → List Nat → World → Prop} {w : World} (h : TurnSeqZ F n P g lb encs X Sp S Sx w)
    (hS : ∀ xs Z W, S xs Z W → S' xs Z W) (hSx : ∀ xs Z W, Sx xs Z W → Sx' xs Z W) : TurnSeqZ F n P g lb encs X Sp S' Sx' w := fun l J Jx W hW hJ hJx hY hj =>
  (h l J Jx W hW hJ hJx hY hj).mono fun _ W' ⟨hv, hh⟩ => ⟨hv, hh.imp (fun ⟨xs, Z, h1, h2⟩ => ⟨xs, Z, hS xs Z W' h1, h2⟩) (fun ⟨xs, Z, h1, h2⟩ => ⟨xs, Z, hSx xs Z W' h1, h2⟩)⟩
/-- **WHAT THE LAWS LEAN ON.** -/
def wlSaid : WqSaid where
  At := WlAt
  same := fun {_ _ _ _ _ _ _ _} ⟨nB, g0, cap, gm, hb, Xh, D, h1, h2⟩ hs => ⟨nB, g0, cap, gm, hb, Xh, D, h1.at_ hs, h2⟩
  lt := fun {_ _ _ _ _ _ _} ⟨_, _, _, _, _, _, _, h1, _⟩ => h1.lt
  new := fun k m e w _ => wlNew k m e w
  len := fun {_ _ _ _ _ _ _} ⟨_, _, _, _, _, _, _, h1, _⟩ => (wlLenM h1).mono fun _ _ ⟨q1, q2⟩ => ⟨q1, 0, q2.symm⟩
  count := fun {_ _ _ _ _ _ _} a ⟨_, _, _, _, _, _, _, h1, _⟩ _ => wlCountM h1 a
  wait := fun {_ _ _ _ _ _ _} x h hx hL hc => said_wait x h hx hL hc
  wake := fun {_ _ _ _ _ _ L} a n ⟨nB, g0, cap, gm, hb, _, _, h1, h2, h3⟩ _ _ hL _ => (wlWake h1 h2 a n (by omega)).mono fun _ _ ⟨v, q1, q2, X', Xh', D', q3, q4, q5, q6⟩ =>
    ⟨v, q1, q2, X', ⟨nB, g0, cap, gm, hb, Xh', D', q3.more (by omega), q4, by have := wakeL_len (a := a) (k := n.toNat) (L := L); omega⟩, q5, q6⟩
  cancel := fun {w b X m e c L} a h ha _ _ => by
    obtain ⟨nB, g0, cap, gm, hb, Xh, D, h1, h2, h3⟩ := h
    rcases Int.lt_or_le (whoI L a) 0 with hn | hp
    · obtain ⟨e1, e2⟩ := takW_no hn
      rw [e1, e2, show decide (0 ≤ whoI L a) = false by simp; omega]
      exact (wlCancel_none h1 a ha (who_not hn)).mono fun _ _ ⟨q1, q2⟩ => ⟨q1, X, ⟨nB, g0, cap, gm, hb, Xh, D, (h1.keep0 q2).more (by omega), h2, h3⟩, q2.up, Newer.refl _ _⟩
    · obtain ⟨j, hj, hj1, hj2⟩ := who_some hp
      obtain ⟨e1, e2⟩ := takW_at hj hj1
      rw [e1, e2, show decide (0 ≤ whoI L a) = true by simp; omega]
      have hc := wlCancel_some h1 h2 hj
      rw [hj2] at hc
      have hl : (L.eraseIdx j).length ≤ L.length := (List.eraseIdx_sublist L j).length_le
      exact hc.mono fun _ _ ⟨q1, X', Xh', D', q3, q4, q5, q6⟩ => ⟨q1, X', ⟨nB, g0, cap, gm, hb, Xh', D', q3.more (by omega), q4, by omega⟩, q5, q6⟩
  requeue := fun {w b X m e c L} f t n h _ ht hn hL hc => by
    obtain ⟨nB, g0, cap, gm, hb, Xh, D, h1, h2, h3⟩ := h
    by_cases hft : f = t
    · subst hft
      rw [if_pos rfl, if_pos rfl]
      refine (wlReq_same f n (some ⟨b, 0, none⟩) w).mono ?_
      rintro r w' ⟨rfl, rfl⟩
      exact ⟨rfl, X, ⟨nB, g0, cap, gm, hb, Xh, D, h1.more (by omega), h2, h3⟩, Turned.refl _ _, Newer.refl _ _⟩
    · rw [if_neg hft, if_neg hft]
      exact (wlReq h1 h2 f t n hft ht hn (by omega) hc).mono fun _ _ ⟨q1, X', q3, q4, q5, q6⟩ => ⟨q1, X', ⟨nB, g0, cap, gm, hb, Xh, D, q3.more (by omega), q4, by rw [reqL_same hft]; exact h3⟩, q5, q6⟩
  who := fun {w b X m e c L} a h ha => by
    obtain ⟨nB, g0, cap, gm, hb, Xh, D, h1, h2, h3⟩ := h
    rcases Int.lt_or_le (whoI L a) 0 with hn | hp
    · obtain ⟨e1, _⟩ := takW_no hn
      rw [e1, show decide (0 ≤ whoI L a) = false by simp; omega]
      exact wlWho_none h1 a ha (who_not hn)
    · obtain ⟨j, hj, hj1, hj2⟩ := who_some hp
      obtain ⟨e1, _⟩ := takW_at hj hj1
      rw [e1, show decide (0 ≤ whoI L a) = true by simp; omega]
      have hc := wlWho_some h1 hj
      rw [hj2] at hc
      exact hc
  of := fun {w b X m e c L} a h _ hL => by
    obtain ⟨nB, g0, cap, gm, hb, Xh, D, h1, h2, h3⟩ := h
    refine (wlOf h1 a).mono ?_
    rintro r w' ⟨Bx, B, Lq, rfl, t, k1, k2, k3⟩
    have hl : Lq.length ≤ 100000 := by
      have e1 := congrArg List.length k3
      rw [List.length_map] at e1
      have e2 : (forK L a).length ≤ L.length := List.length_filter_le _ _
      omega
    obtain ⟨Z, hZ, hsq⟩ := of1_seq k1 k2 hl
    rw [show ofL Lq = forK L a from k3] at hsq
    exact ⟨_, _, rfl, t, fun _ _ => rfl, Z, fun k hk => ⟨(hZ k hk).2, (hZ k hk).1⟩, fun n _ => hsq n⟩
  expire := fun {w b X m e c L} u h h0 hu hL hc => by
    obtain ⟨nB, g0, cap, gm, hb, Xh, D, h1, h2, h3⟩ := h
    refine (wlExpire b u w).mono ?_
    rintro r w' ⟨rfl, hw'⟩
    have t : Turned [] w w' := hw' ▸ ((Turned.refl [] w).alloc _).alloc _
    have hs : w'.heap.size = w.heap.size + 2 := by rw [hw']; simp
    have k0 : w'.heap[w.heap.size]? = some (.cells #[.pointer (some ⟨b, 0, none⟩)] tPt (0, 0)) := by
      rw [hw']
      exact (Below.heap_alloc _ _ _ (by simp)).trans (heap_alloc_new w _)
    have k1 : w'.heap[w.heap.size + 1]? = some (.cells #[.int .u64 u] 30 (0, 0)) := by
      have := heap_alloc_new (w.alloc (.cells #[.pointer (some ⟨b, 0, none⟩)] tPt)) (.cells #[.int .u64 u] 30)
      rw [World.size_alloc] at this
      rw [hw']
      exact this
    refine ⟨_, _, rfl, t, fun _ _ => rfl, X ++ [w.heap.size, w.heap.size + 1], fun k hk => ?_, fun n _ => ?_⟩
    · rcases List.mem_append.1 hk with hk | hk
      · have := h1.lt k hk
        exact ⟨by omega, .inl hk⟩
      · simp at hk
        exact ⟨by omega, .inr (by omega)⟩
    · have hsq := ex1_seq (n := n) (u := u) (h1.keep0 t) h2 h3 k0 k1 (fun hx => by have := h1.lt _ hx; omega) (fun hx => by have := h1.lt _ hx; omega)
      exact hsq.weak (fun xs Z W ⟨e1, X', e2, e3⟩ => ⟨e1, X', e2.more (by omega), e3⟩) (fun xs Z W ⟨e1, X', e2, e3⟩ => ⟨e1, X', e2.more (by omega), e3⟩)
end
end Go.Proofs.Ytiffgkmmibhklaa
