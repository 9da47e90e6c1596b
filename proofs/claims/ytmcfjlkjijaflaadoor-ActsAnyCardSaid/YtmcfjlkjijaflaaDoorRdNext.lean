/-
  The program's reader: its block; next.
-/
import Derived.Test.YtmcfjlkjijaflaaDoorPgOps
import Derived.Test.YtmcfjlkjijaflaaDoorGR
import Derived.BigQuiet
import Derived.Deep.RegionHeld3
import Derived.Deep.QuietTactic
namespace Go.Proofs.YtmcfjlkjijaflaaDoor
open Go.RowKit

/-- The word that is ahead, without its place. -/
def nextR (L : List Wd) (c : Nat) : Wd := match L[c]? with
  | some x => (x.1, x.2.1, x.2.2.1, 0)
  | none => (0, [], 0, 0)
abbrev rdC (ao : Option Addr) (n cap : Nat) (c : Nat) (e : Int) : Array Value := #[.slice ao n cap, .int .i64 c, .int .i64 e]
/-- A reader in memory, and its words. -/
structure RdI (w : World) (b : Nat) (ao : Option Addr) (bw off cap : Nat) (L : List Wd) (c : Nat) (e : Int) : Prop where
  rd : w.heap[b]? = some (.cells (rdC ao L.length cap c e) 115 (0, 0))
  ws : WArg w ao bw off L
  ne : 0 < L.length → bw ≠ b
  le : c ≤ L.length
  len : L.length ≤ 100000
theorem WArg.same {w w' : World} {ao : Option Addr} {b off : Nat} {L : List Wd} (h : WArg w ao b off L) (hs : 0 < L.length → w'.heap[b]? = w.heap[b]?) : WArg w' ao b off L := by
  have hlt : 0 < L.length → b < w'.heap.size := fun h0 => by
    have h1 := hs h0
    rw [Array.getElem?_eq_getElem (h.at_ h0).2] at h1
    exact lt_of_block h1
  refine ⟨fun h0 => ⟨(h.at_ h0).1, hlt h0⟩, fun i hi => ?_⟩
  obtain ⟨h0, h1, h2, h3⟩ := h.cells i hi
  have e : w'.heap[b]? = w.heap[b]? := hs (by omega)
  have ec : ∀ o, w'.cell? ⟨b, o, none⟩ = w.cell? ⟨b, o, none⟩ := fun o => by simp only [World.cell?, e]
  exact ⟨(ec _).trans h0, (ec _).trans h1, (ec _).trans h2, (ec _).trans h3⟩
theorem RdI.turned {w w' : World} {b : Nat} {ao : Option Addr} {bw off cap : Nat} {L : List Wd} {c c' : Nat} {e e' : Int} (h : RdI w b ao bw off cap L c e) (t : Turned [b] w w')
    (hr : w'.heap[b]? = some (.cells (rdC ao L.length cap c' e') 115 (0, 0))) (hc : c' ≤ L.length) : RdI w' b ao bw off cap L c' e' :=
  ⟨hr, h.ws.same (fun h0 => t.block bw (h.ws.at_ h0).2 (by simpa using h.ne h0)), h.ne, hc, h.len⟩
theorem RdI.below {w w' : World} {b : Nat} {ao : Option Addr} {bw off cap : Nat} {L : List Wd} {c : Nat} {e : Int} (h : RdI w b ao bw off cap L c e) (t : Below w.heap.size w w') : RdI w' b ao bw off cap L c e :=
  ⟨(t.block _ (lt_of_block h.rd)).trans h.rd, h.ws.below t, h.ne, h.le, h.len⟩
theorem turned_below {w w' : World} (h : Below w.heap.size w w') (X : List Nat) : Turned X w w' := ⟨h.os, h.tape, h.output, h.size, fun k hk _ => h.block k hk⟩
theorem three_cells {w : World} {B : Nat} {a b c : Value} {t : TypeId} (h : w.heap[B]? = some (.cells #[a, b, c] t (0, 0))) :
    w.cell? ⟨B, 0, none⟩ = some a ∧ w.cell? ⟨B, 1, none⟩ = some b ∧ w.cell? ⟨B, 2, none⟩ = some c := op_cells h
theorem next_at {L : List Wd} {c : Nat} (h : c < L.length) : nextR L c = (L[c].1, L[c].2.1, L[c].2.2.1, 0) := by
  unfold nextR; rw [List.getElem?_eq_getElem h]
theorem next_end {L : List Wd} {c : Nat} (h : L.length ≤ c) : nextR L c = (0, [], 0, 0) := by
  unfold nextR; rw [List.getElem?_eq_none h]
set_option maxRecDepth 100000 in
/-- Whether there is no word ahead any more. -/
theorem ends_any {w : World} {b : Nat} {ao : Option Addr} {bw off cap : Nat} {L : List Wd} {c : Nat} {e : Int} (h : RdI w b ao bw off cap L c e) :
    Calls Tryd.prog 77 #[.pointer (some ⟨b, 0, none⟩)] w fun r w' => r = .returned (.bool (decide (L.length ≤ c))) ∧ ∃ k, w' = w.drewN k := by
  obtain ⟨d0, d1, d2⟩ := three_cells h.rd
  obtain ⟨n, hn⟩ : ∃ n, L.length = n := ⟨_, rfl⟩
  rw [hn] at d0 ⊢
  clear h hn
  by_cases hc : n ≤ c
  · have hg : (n : Int) ≤ c := by omega
    have hg2 : decide ((n : Int) ≤ c) = true := by simp; omega
    have hg3 : decide (n ≤ c) = true := by simp; omega
    rw [hg3]
    go_enter Tryd.func77, Tryd.ntmps77
    go_wp2_with fail
    go_quiet (fail)
    go_wp2
    go_ret
    exact ⟨rfl, _, rfl⟩
  · have hg : ¬ (n : Int) ≤ c := by omega
    have hg2 : decide ((n : Int) ≤ c) = false := by simp; omega
    have hg3 : decide (n ≤ c) = false := by simp; omega
    rw [hg3]
    go_enter Tryd.func77, Tryd.ntmps77
    go_wp2_with fail
    go_quiet (fail)
    go_wp2
    go_ret
    exact ⟨rfl, _, rfl⟩
set_option maxRecDepth 100000 in
set_option maxHeartbeats 3200000 in
theorem next_any {w : World} {b : Nat} {ao : Option Addr} {bw off cap : Nat} {L : List Wd} {c : Nat} {e : Int} (h : RdI w b ao bw off cap L c e) :
    Calls Tryd.prog 79 #[.pointer (some ⟨b, 0, none⟩)] w fun r w' => r = .returned (wdV (nextR L c)) ∧ Below w.heap.size w w' := by
  obtain ⟨d0, d1, d2⟩ := three_cells h.rd
  have hbl := lt_of_block h.rd
  obtain ⟨n, hn⟩ : ∃ n, L.length = n := ⟨_, rfl⟩
  have hle := h.le
  have hm := h.len
  have HN := Lib.hid hn
  rw [hn] at d0 hle hm
  have H0 := Lib.hid (heap_alloc_new w zeroW)
  have he := ends_any (h.below ((Below.refl _ w).alloc (Nat.le_refl _) zeroW))
  rw [hn] at he
  by_cases hlt : c < n
  · have hlt' : c < L.length := by rw [HN.out]; exact hlt
    have hx := next_at hlt'
    obtain ⟨rfl, hbwl⟩ := h.ws.at_ (by omega)
    obtain ⟨x0, x1, x2, x3⟩ := h.ws.cells c hlt'
    obtain ⟨⟨k1, t1, m, p⟩, hxx⟩ : ∃ x, L[c] = x := ⟨_, rfl⟩
    rw [hxx] at x0 x1 x2 x3 hx
    rw [hx]
    simp only at x0 x1 x2 x3
    obtain ⟨tb, htb⟩ : ∃ tb : ByteArray, ⟨t1.toArray⟩ = tb := ⟨_, rfl⟩
    unfold wdV
    simp only [htb] at x1 ⊢
    have hg : ¬ (n : Int) ≤ c := by omega
    have hg2 : decide ((n : Int) ≤ c) = false := by simp; omega
    have hg3 : decide (n ≤ c) = false := by simp; omega
    rw [hg3] at he
    have HE := Lib.hid he
    clear he
    have HS : Hid (∀ V, Below w.heap.size w V → (V.cell? ⟨b, 0, none⟩ = some (.slice (some ⟨bw, off, none⟩) n cap) ∧ V.cell? ⟨b, 1, none⟩ = some (.int .i64 c) ∧ V.cell? ⟨bw, off + c * 4, none⟩ = some (.int .i64 k1) ∧ V.cell? ⟨bw, off + c * 4 + 1, none⟩ = some (.string tb) ∧ V.cell? ⟨bw, off + c * 4 + 2, none⟩ = some (.int .i64 m) ∧ V.cell? ⟨bw, off + c * 4 + 3, none⟩ = some (.int .i64 p))) := Lib.hid fun V hV => by
      have e1 : ∀ o, V.cell? ⟨b, o, none⟩ = w.cell? ⟨b, o, none⟩ := fun o => hV.cell (p := ⟨b, o, none⟩) hbl
      have e2 : ∀ o, V.cell? ⟨bw, o, none⟩ = w.cell? ⟨bw, o, none⟩ := fun o => hV.cell (p := ⟨bw, o, none⟩) hbwl
      exact ⟨(e1 _).trans d0, (e1 _).trans d1, (e2 _).trans x0, (e2 _).trans x1, (e2 _).trans x2, (e2 _).trans x3⟩
    clear hn hx hxx h htb
    go_enter Tryd.func79, Tryd.ntmps79
    go_wp2_with fail
    with_reducible refine HE.out.mono ?_
    rintro r _ ⟨rfl, nq, rfl⟩
    go_wp2_with fail
    obtain ⟨V, hV⟩ : ∃ V, (w.alloc zeroW).drewN nq = V := ⟨_, rfl⟩
    have hVz : V.heap[w.heap.size]? = some zeroW := by rw [← hV]; exact H0.out
    have hVb : Below w.heap.size w V := by rw [← hV]; exact below_drewN ((Below.refl _ w).alloc (Nat.le_refl _) _) _
    rw [hV]
    clear hV d1 d2 d0 x0 x1 x2 x3
    have HZ := Lib.hid hVz
    have HV := Lib.hid hVb
    clear hVz hVb
    go_region_held3 (fun V => V.cell? ⟨b, 0, none⟩ = some (.slice (some ⟨bw, off, none⟩) n cap) ∧ V.cell? ⟨b, 1, none⟩ = some (.int .i64 c) ∧ V.cell? ⟨bw, off + c * 4, none⟩ = some (.int .i64 k1) ∧ V.cell? ⟨bw, off + c * 4 + 1, none⟩ = some (.string tb) ∧ V.cell? ⟨bw, off + c * 4 + 2, none⟩ = some (.int .i64 m) ∧ V.cell? ⟨bw, off + c * 4 + 3, none⟩ = some (.int .i64 p))
      (first | exact HS.out _ HV.out.drew | exact HS.out _ (HV.out.drew.alloc (by have := HV.out.size; simpa using this) _) | trace_state)
      (fail)
    obtain ⟨V2, hV2⟩ : ∃ V2, (V.alloc (.cells #[.int .i64 k1, .string tb, .int .i64 m, .int .i64 p] 74)).drew = V2 := ⟨_, rfl⟩
    have hA : V2.heap[w.heap.size]? = some zeroW := by rw [← hV2]; exact (Below.heap_alloc _ _ _ (lt_of_block HZ.out)).trans HZ.out
    have hB : V2.heap[V.heap.size]? = some (.cells #[.int .i64 k1, .string tb, .int .i64 m, .int .i64 p] 74 (0, 0)) := by rw [← hV2]; exact heap_alloc_new _ _
    have hBl : Below w.heap.size w V2 := by rw [← hV2]; exact (HV.out.alloc HV.out.size _).drew
    have hlt2 : w.heap.size < V.heap.size := lt_of_block HZ.out
    obtain ⟨B, hBe⟩ : ∃ B, V.heap.size = B := ⟨_, rfl⟩
    rw [hBe] at hB hlt2 ⊢
    rw [hV2]
    obtain ⟨a0, a1, a2, a3⟩ := word_cells hA
    obtain ⟨b0, b1, b2, b3⟩ := word_cells hB
    have fa0 := not_frozen hA 0
    have fa1 := not_frozen hA 1
    have fa2 := not_frozen hA 2
    have fa3 := not_frozen hA 3
    have fb3 := not_frozen hB 3
    have ne1 : w.heap.size ≠ B := by omega
    have ne2 : B ≠ w.heap.size := by omega
    have HAA := Lib.hid hA
    have HBB := Lib.hid hBl
    clear hV2 hBe HZ HV hA hB hBl
    go_wp2
    have hA2 : (V2.setCell ⟨B, 3, none⟩ (.int .i64 0)).heap[w.heap.size]? = some zeroW := (Below.heap_setCell _ _ _ _ ne1).trans HAA.out
    refine bodyPost_ret (word_res rfl rfl (word_stored hA2)) rfl ?_
    exact ⟨rfl, word_below (HBB.out.setCell (by show w.heap.size ≤ B; omega) _) (Nat.le_refl _) _ _ _ _⟩
  · have hge : n ≤ c := by omega
    rw [next_end (by rw [HN.out]; exact hge)]
    have hg : (n : Int) ≤ c := by omega
    have hg2 : decide ((n : Int) ≤ c) = true := by simp; omega
    have hg3 : decide (n ≤ c) = true := by simp; omega
    rw [hg3] at he
    have HE := Lib.hid he
    clear hn h he
    go_enter Tryd.func79, Tryd.ntmps79
    go_wp2_with fail
    with_reducible refine HE.out.mono ?_
    rintro r _ ⟨rfl, nq, rfl⟩
    go_wp2
    have hA2 : ((w.alloc zeroW).drewN nq).heap[w.heap.size]? = some zeroW := H0.out
    refine bodyPost_ret (word_res rfl rfl (word_stored hA2)) rfl ?_
    exact ⟨rfl, word_below (below_drewN ((Below.refl _ w).alloc (Nat.le_refl _) _) _) (Nat.le_refl _) _ _ _ _⟩
end Go.Proofs.YtmcfjlkjijaflaaDoor
