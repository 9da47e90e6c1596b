/-
  The program's cut.
-/
import Derived.Test.YtalnejbpgollkaaDoorTkWord
import Derived.Test.YtalnejbpgollkaaDoorTkSkip
import Derived.Laws.ResultCell
namespace Go.Proofs.YtalnejbpgollkaaDoor
open Go.RowKit

/-- A word as a value; its cells. -/
def wdC (w : Wd) : List Value := [.int .i64 w.1, .string ⟨w.2.1.toArray⟩, .int .i64 w.2.2.1, .int .i64 w.2.2.2]
def wdV (w : Wd) : Value := .agg #[.int .i64 w.1, .string ⟨w.2.1.toArray⟩, .int .i64 w.2.2.1, .int .i64 w.2.2.2]
/-- What is known of the library's Atoi. -/
def AtoiSaid : Prop := ∀ (s : ByteArray) (n : Int) (w : World), s.size ≤ 18 → Lib.atoi s.data.toList = some n →
    Calls Tryd.prog 34 #[.string s] w fun e w' => e = .returned (.tuple #[.int .i64 n, .nilIface]) ∧ Below w.heap.size w w'
theorem bcell {W w1 : World} (hb : Below W.heap.size W w1) : (∀ b o, b < W.heap.size → w1.cell? ⟨b, o, none⟩ = W.cell? ⟨b, o, none⟩) ∧ (∀ b o, b < W.heap.size → w1.frozen? ⟨b, o, none⟩ = W.frozen? ⟨b, o, none⟩) :=
  ⟨fun b o h => hb.cell (p := ⟨b, o, none⟩) h, fun b o h => hb.frozen (p := ⟨b, o, none⟩) h⟩
theorem bl_to (s : ByteArray) (k : Nat) : (s.extract 0 k).data.toList = s.data.toList.take k := by
  rw [Lib.extract_data, List.drop_zero, Nat.sub_zero]
theorem size_to (s : ByteArray) (k : Nat) (h : k ≤ s.size) : (s.extract 0 k).size = k := by
  rw [Lib.size_eq, bl_to, List.length_take, ← Lib.size_eq]; omega
theorem mk_to (s : ByteArray) (k : Nat) : (⟨(s.data.toList.take k).toArray⟩ : ByteArray) = s.extract 0 k := by
  rw [← bl_to, Lib.mk_data]

theorem word_cells {w : World} {B : Nat} {a b c d : Value} {t : TypeId} (h : w.heap[B]? = some (.cells #[a, b, c, d] t (0, 0))) :
    w.cell? ⟨B, 0, none⟩ = some a ∧ w.cell? ⟨B, 1, none⟩ = some b ∧ w.cell? ⟨B, 2, none⟩ = some c ∧ w.cell? ⟨B, 3, none⟩ = some d := by
  refine ⟨?_, ?_, ?_, ?_⟩ <;> simp [World.cell?, h]
theorem word_stored {w : World} {B : Nat} {a b c d a' b' c' d' : Value} {t : TypeId} (h : w.heap[B]? = some (.cells #[a, b, c, d] t (0, 0))) :
    ((((w.setCell ⟨B, 0, none⟩ a').setCell ⟨B, 1, none⟩ b').setCell ⟨B, 2, none⟩ c').setCell ⟨B, 3, none⟩ d').heap[B]? = some (.cells #[a', b', c', d'] t (0, 0)) := by
  rw [heap_setCell_same _ _ _ _ _ _ (heap_setCell_same _ _ _ _ _ _ (heap_setCell_same _ _ _ _ _ _ (heap_setCell_same _ _ _ _ _ _ h)))]
  rfl
theorem word_result {fn : Func} {p u : Tmp} (hf : fn.results = #[.cell p 25, .tmp u]) {tmps : Array Value} {w : World} {B : Nat} {a b c d v : Value} (hp : tmps.getD p undef = .pointer (some ⟨B, 0, none⟩)) (hu : tmps.getD u undef = v) (h : w.heap[B]? = some (.cells #[a, b, c, d] 25 (0, 0))) :
    (results fn tmps).run Tryd.prog w = .ok (.tuple #[.agg #[a, b, c, d], v]) w := by
  obtain ⟨h0, h1, h2, h3⟩ := word_cells h
  rw [results_cell_tmp hf, hp, hu]
  simp [loadVar, go_sem, h0, h1, h2, h3]
abbrev zeroW : Obj := .cells #[.int .i64 0, .string ⟨#[]⟩, .int .i64 0, .int .i64 0] 25
/-- Behind a call that made memory, the word's own block. -/
theorem word_kept {w w2 : World} (hb : Below (w.alloc zeroW).heap.size (w.alloc zeroW) w2) : w2.heap[w.heap.size]? = some zeroW ∧ Below w.heap.size w w2 := by
  refine ⟨(hb.block _ (by simp)).trans (heap_alloc_new w _), ((Below.refl _ w).alloc (Nat.le_refl _) _).trans (hb.mono (by simp))⟩
theorem word_below {w w2 : World} {B : Nat} (hb : Below w.heap.size w w2) (hB : w.heap.size ≤ B) (a b c d : Value) :
    Below w.heap.size w ((((w2.setCell ⟨B, 0, none⟩ a).setCell ⟨B, 1, none⟩ b).setCell ⟨B, 2, none⟩ c).setCell ⟨B, 3, none⟩ d) :=
  (((hb.setCell hB _).setCell hB _).setCell hB _).setCell hB _

section
variable (s : ByteArray)
theorem run_le (q : By → Bool) : (s.data.toList.takeWhile q).length ≤ s.size := by
  rw [Lib.size_eq]; exact (List.takeWhile_sublist _).length_le
end

set_option maxHeartbeats 800000 in
theorem cut_name (s : ByteArray) (w : World) (hs : s.size ≤ maxLen) (h : nameB (s.data.toList.take (s.data.toList.takeWhile isLet).length) = true) :
    Calls Tryd.prog 22 #[.string s] w fun e w' => e = .returned (.tuple #[.agg #[.int .i64 1, .string (s.extract 0 (s.data.toList.takeWhile isLet).length), .int .i64 0, .int .i64 0], .int .i64 (s.data.toList.takeWhile isLet).length]) ∧ Below w.heap.size w w' := by
  have hn := run_le s isLet
  have HR := Lib.hid (fun W => run_let s W hs)
  rw [← bl_to] at h
  obtain ⟨n, hN⟩ : ∃ n, (s.data.toList.takeWhile isLet).length = n := ⟨_, rfl⟩
  rw [hN] at hn HR h ⊢
  have hz := size_to s n hn
  obtain ⟨s1, hs1⟩ : ∃ s1, s.extract 0 n = s1 := ⟨_, rfl⟩
  rw [hs1] at h hz ⊢
  have HI := Lib.hid (fun W => h ▸ isName_any s1 W (by omega))
  have HO := Lib.hid (own_any s1)
  unfold maxLen at hs
  clear hN h hz
  go_enter Tryd.func22, Tryd.ntmps22
  go_wp2_with fail
  with_reducible refine (HR.out _).mono ?_
  rintro e w1 ⟨rfl, rfl⟩
  go_wp2_with fail
  with_reducible refine (HI.out _).mono ?_
  rintro e w1 ⟨rfl, rfl⟩
  go_wp2_with fail
  with_reducible refine (HO.out _).mono ?_
  rintro e w2 ⟨rfl, hb⟩
  obtain ⟨hc, hf⟩ := bcell hb
  have HB := Lib.hid hb
  clear hb
  go_wp2
  obtain ⟨k1, k2⟩ := word_kept HB.out
  exact bodyPost_ret (word_result rfl rfl rfl (word_stored k1)) rfl ⟨rfl, word_below k2 (Nat.le_refl _) _ _ _ _⟩

set_option maxHeartbeats 800000 in
theorem cut_num (hA : AtoiSaid) (s : ByteArray) (w : World) (hs : s.size ≤ maxLen) (h : nameB (s.data.toList.take (s.data.toList.takeWhile isLet).length) = false) (h' : numB (s.data.toList.take (s.data.toList.takeWhile isDig).length) = true) :
    Calls Tryd.prog 22 #[.string s] w fun e w' => e = .returned (.tuple #[.agg #[.int .i64 2, .string ⟨#[]⟩, .int .i64 (numR (s.data.toList.take (s.data.toList.takeWhile isDig).length) : Nat), .int .i64 0], .int .i64 (s.data.toList.takeWhile isDig).length]) ∧ Below w.heap.size w w' := by
  have hn := run_le s isLet
  have hm := run_le s isDig
  have HR := Lib.hid (fun W => run_let s W hs)
  have HD := Lib.hid (fun W => run_dig s W hs)
  have hlen : numB (s.data.toList.take (s.data.toList.takeWhile isDig).length) = true → (s.data.toList.take (s.data.toList.takeWhile isDig).length).length ≤ 18 ∧ s.data.toList.take (s.data.toList.takeWhile isDig).length ≠ [] := by
    intro hx
    constructor
    · unfold numB at hx
      simp at hx
      simp
      omega
    · intro e
      rw [e] at hx
      exact absurd hx (by decide)
  obtain ⟨hl18, hne⟩ := hlen h'
  have hat := atoi_digits (l := s.data.toList.take (s.data.toList.takeWhile isDig).length) (by rw [take_takeWhile]; exact takeWhile_all _) hne
  rw [← bl_to] at h h' hl18 hat ⊢
  rw [← Lib.size_eq] at hl18
  have HT := Lib.hid (fun W => hA _ _ W hl18 hat)
  clear hat hne hl18 hlen
  obtain ⟨n, hN⟩ : ∃ n, (s.data.toList.takeWhile isLet).length = n := ⟨_, rfl⟩
  rw [hN] at hn HR h
  obtain ⟨m, hM⟩ : ∃ m, (s.data.toList.takeWhile isDig).length = m := ⟨_, rfl⟩
  rw [hM] at hm HD h' HT ⊢
  have hz := size_to s n hn
  have hy := size_to s m hm
  obtain ⟨s1, hs1⟩ : ∃ s1, s.extract 0 n = s1 := ⟨_, rfl⟩
  rw [hs1] at h hz
  obtain ⟨s2, hs2⟩ : ∃ s2, s.extract 0 m = s2 := ⟨_, rfl⟩
  rw [hs2] at h' hy HT ⊢
  have HI := Lib.hid (fun W => h ▸ isName_any s1 W (by omega))
  have HJ := Lib.hid (fun W => h' ▸ isNum_any s2 W)
  obtain ⟨v, hv⟩ : ∃ v : Int, ((numR s2.data.toList : Nat) : Int) = v := ⟨_, rfl⟩
  rw [hv] at HT ⊢
  unfold maxLen at hs
  clear hN hM h h' hz hy hv
  go_enter Tryd.func22, Tryd.ntmps22
  go_wp2_with fail
  with_reducible refine (HR.out _).mono ?_
  rintro e w1 ⟨rfl, rfl⟩
  go_wp2_with fail
  with_reducible refine (HI.out _).mono ?_
  rintro e w1 ⟨rfl, rfl⟩
  go_wp2_with fail
  with_reducible refine (HD.out _).mono ?_
  rintro e w1 ⟨rfl, rfl⟩
  go_wp2_with fail
  with_reducible refine (HJ.out _).mono ?_
  rintro e w1 ⟨rfl, rfl⟩
  go_wp2_with fail
  with_reducible refine (HT.out _).mono ?_
  rintro e w2 ⟨rfl, hb⟩
  obtain ⟨hc, hf⟩ := bcell hb
  have HB := Lib.hid hb
  clear hb
  go_wp2
  obtain ⟨k1, k2⟩ := word_kept HB.out
  exact bodyPost_ret (word_result rfl rfl rfl (word_stored k1)) rfl ⟨rfl, word_below k2 (Nat.le_refl _) _ _ _ _⟩

set_option maxHeartbeats 800000 in
theorem cut_mark (s : ByteArray) (w : World) (h0 : 0 < s.size) (hs : s.size ≤ maxLen) (h : nameB (s.data.toList.take (s.data.toList.takeWhile isLet).length) = false) (h' : numB (s.data.toList.take (s.data.toList.takeWhile isDig).length) = false) (t : Bool) (ht : markB (s.data.toList.take 1) = t) :
    Calls Tryd.prog 22 #[.string s] w fun e w' => e = .returned (if t then .tuple #[.agg #[.int .i64 3, .string (s.extract 0 1), .int .i64 0, .int .i64 0], .int .i64 1] else .tuple #[.agg #[.int .i64 0, .string ⟨#[]⟩, .int .i64 0, .int .i64 0], .int .i64 0]) ∧ Below w.heap.size w w' := by
  have hn := run_le s isLet
  have hm := run_le s isDig
  have HR := Lib.hid (fun W => run_let s W hs)
  have HD := Lib.hid (fun W => run_dig s W hs)
  rw [← bl_to] at h h' ht
  obtain ⟨n, hN⟩ : ∃ n, (s.data.toList.takeWhile isLet).length = n := ⟨_, rfl⟩
  rw [hN] at hn HR h
  obtain ⟨m, hM⟩ : ∃ m, (s.data.toList.takeWhile isDig).length = m := ⟨_, rfl⟩
  rw [hM] at hm HD h'
  have hz := size_to s n hn
  obtain ⟨s1, hs1⟩ : ∃ s1, s.extract 0 n = s1 := ⟨_, rfl⟩
  rw [hs1] at h hz
  obtain ⟨s2, hs2⟩ : ∃ s2, s.extract 0 m = s2 := ⟨_, rfl⟩
  rw [hs2] at h'
  obtain ⟨s3, hs3⟩ : ∃ s3, s.extract 0 1 = s3 := ⟨_, rfl⟩
  rw [hs3] at ht ⊢
  have HI := Lib.hid (fun W => h ▸ isName_any s1 W (by omega))
  have HJ := Lib.hid (fun W => h' ▸ isNum_any s2 W)
  have HM := Lib.hid (fun W => ht ▸ isMark_any s3 W)
  have HO := Lib.hid (own_any s3)
  have hl1 : 1 ≤ s.size := h0
  unfold maxLen at hs
  clear hN hM h h' hz ht
  cases t
  all_goals
    first | rw [if_neg (by decide)] | rw [if_pos rfl]
    go_enter Tryd.func22, Tryd.ntmps22
    go_wp2_with fail
    with_reducible refine (HR.out _).mono ?_
    rintro e w1 ⟨rfl, rfl⟩
    go_wp2_with fail
    with_reducible refine (HI.out _).mono ?_
    rintro e w1 ⟨rfl, rfl⟩
    go_wp2_with fail
    with_reducible refine (HD.out _).mono ?_
    rintro e w1 ⟨rfl, rfl⟩
    go_wp2_with fail
    with_reducible refine (HJ.out _).mono ?_
    rintro e w1 ⟨rfl, rfl⟩
    go_wp2_with fail
    with_reducible refine (HM.out _).mono ?_
    rintro e w1 ⟨rfl, rfl⟩
  · go_wp2
    exact bodyPost_ret (word_result rfl rfl rfl (heap_alloc_new _ _)) rfl ⟨rfl, (Below.refl _ _).alloc (Nat.le_refl _) _⟩
  · go_wp2_with fail
    with_reducible refine (HO.out _).mono ?_
    rintro e w2 ⟨rfl, hb⟩
    obtain ⟨hc, hf⟩ := bcell hb
    have HB := Lib.hid hb
    clear hb
    go_wp2
    obtain ⟨k1, k2⟩ := word_kept HB.out
    exact bodyPost_ret (word_result rfl rfl rfl (word_stored k1)) rfl ⟨rfl, word_below k2 (Nat.le_refl _) _ _ _ _⟩

/-- The word that a text begins with. -/
theorem cut_any (hA : AtoiSaid) (s : ByteArray) (w : World) (h0 : 0 < s.size) (hs : s.size ≤ maxLen) :
    Calls Tryd.prog 22 #[.string s] w fun e w' => e = .returned (.tuple #[wdV (cutP s.data.toList).1, .int .i64 (cutP s.data.toList).2]) ∧ Below w.heap.size w w' := by
  unfold cutP
  cases h : nameB (s.data.toList.take (s.data.toList.takeWhile isLet).length) with
  | true =>
    rw [if_pos rfl]
    unfold wdV
    rw [mk_to]
    exact cut_name s w hs h
  | false =>
    rw [if_neg (by decide)]
    cases h' : numB (s.data.toList.take (s.data.toList.takeWhile isDig).length) with
    | true =>
      rw [if_pos rfl]
      exact cut_num hA s w hs h h'
    | false =>
      rw [if_neg (by decide)]
      have hm := cut_mark s w h0 hs h h' _ rfl
      cases ht : markB (s.data.toList.take 1) with
      | true =>
        rw [ht] at hm
        rw [if_pos rfl]
        unfold wdV
        rw [mk_to]
        exact hm
      | false =>
        rw [ht] at hm
        rw [if_neg (by decide)]
        exact hm
end Go.Proofs.YtalnejbpgollkaaDoor
