/-
  What is joined is scanned again; blanks and remarks change no word. No program.
-/
import Derived.Test.YtmcfjlkjijaflaaTkMath
namespace Go.Proofs.Ytmcfjlkjijaflaa

/-- The same word, but for its place. -/
def sameR (a b : Wd) : Prop := a.1 = b.1 ∧ a.2.1 = b.2.1 ∧ a.2.2.1 = b.2.2.1
/-- The same words, but for their places. -/
def sameL : List Wd → List Wd → Prop
  | [], [] => True
  | a :: l, b :: m => sameR a b ∧ sameL l m
  | _, _ => False
theorem sameL_len : ∀ {a b : List Wd}, sameL a b → a.length = b.length
  | [], [], _ => rfl
  | _ :: _, _ :: _, h => by simp [sameL_len h.2]
  | [], _ :: _, h => h.elim
  | _ :: _, [], h => h.elim
theorem sameL_at : ∀ {a b : List Wd}, sameL a b → ∀ i, i < a.length → sameR (a.getD i (0, [], 0, 0)) (b.getD i (0, [], 0, 0))
  | [], [], _, i, h => by simp at h
  | x :: a, y :: b, h, i, hi => by
    cases i with
    | zero => simpa using h.1
    | succ i => simpa using sameL_at h.2 i (by simpa using hi)
  | [], _ :: _, h, _, _ => h.elim
  | _ :: _, [], h, _, _ => h.elim
theorem same_placed (w : Wd) (p : Nat) : sameR (placed w p) w := ⟨rfl, rfl, rfl⟩

/-- A word that may be, what is behind it not being more of it. -/
theorem scan_one {w : Wd} {s r : List By} (h : textR w = some s) (hr : endsR w.1 r) (p : Nat) (adj : Bool) (ha : adj = true → w.1 = 3) : scanR (s ++ r) p adj = prepR [placed w p] (scanR r (p + s.length) (!decide (w.1 = 3))) := by
  obtain ⟨c, t, rfl, ho, h0, h1⟩ := word_back h hr p
  rw [List.cons_append, scan_word h0 h1 (t ++ r) p adj (by
    rw [ho]
    cases adj with
    | false => rfl
    | true => simp [placed, ha rfl]), ho]
  simp only [placed, List.drop_left]
  rw [show p + 1 + t.length = p + (c :: t).length by simp; omega]
  rfl

/-- What is written behind what was joined so far; b: nothing so far. -/
def tailR : Bool → List Wd → Option (List By)
  | _, [] => some []
  | b, w :: ws => match textR w, tailR false ws with
    | some s, some r => some ((if b = false ∧ s ≠ [59] then [32] else []) ++ s ++ r)
    | _, _ => none
def joinF : List Wd → List By → Option (List By)
  | [], out => some out
  | w :: ws, out => match textR w with
    | some s => joinF ws ((if out ≠ [] ∧ s ≠ [59] then out ++ [32] else out) ++ s)
    | none => none
theorem text_ne {w : Wd} {s : List By} (h : textR w = some s) : s ≠ [] := by
  obtain ⟨c, t, rfl, _⟩ := word_back h (.inl rfl) 0
  simp
theorem join_tail : ∀ (ws : List Wd) (out : List By), joinF ws out = (tailR (decide (out = [])) ws).map (out ++ ·)
  | [], out => by simp [joinF, tailR]
  | w :: ws, out => by
    simp only [joinF, tailR]
    cases h : textR w with
    | none => rfl
    | some s =>
      have hne := text_ne h
      simp only
      rw [join_tail ws]
      have hf : decide ((if out ≠ [] ∧ s ≠ [59] then out ++ [32] else out) ++ s = []) = false := by simp [hne]
      rw [hf]
      cases hr : tailR false ws with
      | none => rfl
      | some r =>
        by_cases h0 : out = []
        · subst h0
          simp
        · by_cases h1 : s = [59]
          · subst h1
            simp
          · simp [h0, h1]
theorem tail_ends {ws : List Wd} {r : List By} (h : tailR false ws = some r) (k : Int) : endsR k r := by
  cases ws with
  | nil => simp [tailR] at h; exact .inl h
  | cons w ws =>
    simp only [tailR] at h
    split at h
    · next s r' hs _ =>
      simp only [Option.some.injEq] at h
      right
      by_cases h1 : s = [59]
      · subst h1
        refine ⟨59, r', by rw [← h]; simp, fun _ => by decide, fun _ => by decide⟩
      · exact ⟨32, s ++ r', by rw [← h]; simp [h1], fun _ => by decide, fun _ => by decide⟩
    · cases h
theorem semi_kind {w : Wd} (h : textR w = some [59]) : w.1 = 3 := by
  obtain ⟨c, t, e, ho, _⟩ := word_back h (.inl rfl) 0
  simp only [List.cons.injEq] at e
  obtain ⟨rfl, rfl⟩ := e
  have : (oneR 59 ([] ++ []) 0).1.1 = 3 := by decide +kernel
  rw [ho] at this
  exact this
theorem scan_tail : ∀ (ws : List Wd) (b adj : Bool) (r : List By) (p : Nat), tailR b ws = some r → (b = true → adj = false) → ∃ ws', scanR r p adj = .ok ws' ∧ sameL ws' ws
  | [], b, adj, r, p, h, _ => by
    simp [tailR] at h
    subst h
    exact ⟨[], scan_nil _ _, trivial⟩
  | w :: ws, b, adj, r, p, h, hb => by
    simp only [tailR] at h
    split at h
    · next s r' hs hr' =>
      simp only [Option.some.injEq] at h
      have fin : ∀ (q : Nat) (a : Bool), (a = true → w.1 = 3) → ∃ ws', scanR (s ++ r') q a = .ok ws' ∧ sameL ws' (w :: ws) := fun q a ha => by
        obtain ⟨ws', h1, h2⟩ := scan_tail ws false (!decide (w.1 = 3)) r' (q + s.length) hr' (by simp)
        exact ⟨placed w q :: ws', by rw [scan_one hs (tail_ends hr' _) q a ha, h1]; rfl, same_placed w q, h2⟩
      by_cases h1 : b = false ∧ s ≠ [59]
      · rw [if_pos h1] at h
        subst h
        obtain ⟨ws', h2, h3⟩ := fin (p + 1) false (by simp)
        exact ⟨ws', by rw [List.append_assoc, List.cons_append, List.nil_append, scan_blank (by decide)]; exact h2, h3⟩
      · rw [if_neg h1] at h
        subst h
        refine fin p adj (fun ha => ?_)
        cases b with
        | true => rw [hb rfl] at ha; cases ha
        | false =>
          have : s = [59] := by simpa using h1
          subst this
          exact semi_kind hs
    · cases h
/-- What is joined is scanned to itself. -/
theorem scan_join {ws : List Wd} {r : List By} (h : joinF ws [] = some r) : ∃ ws', scanR r 0 false = .ok ws' ∧ sameL ws' ws := by
  rw [join_tail] at h
  simp at h
  exact scan_tail ws true false r 0 h (fun _ => rfl)

/-- A remark, up to its end. -/
theorem take_remark {rm : List By} (h : ∀ c ∈ rm, not10 c = true) (r : List By) : (rm ++ 10 :: r).takeWhile not10 = rm ∧ (rm ++ 10 :: r).dropWhile not10 = 10 :: r := by
  induction rm with
  | nil => exact ⟨rfl, rfl⟩
  | cons c rm ih =>
    obtain ⟨h1, h2⟩ := ih (fun x hx => h x (by simp [hx]))
    simp only [List.cons_append, List.takeWhile_cons, List.dropWhile_cons, h c (by simp), if_true]
    exact ⟨by rw [h1], h2⟩
theorem drop_remark {rm : List By} (h : ∀ c ∈ rm, not10 c = true) : rm.dropWhile not10 = [] := by
  induction rm with
  | nil => rfl
  | cons c rm ih =>
    simp only [List.dropWhile_cons, h c (by simp), if_true]
    exact ih (fun x hx => h x (by simp [hx]))
theorem skip_remark {rm : List By} (h : ∀ c ∈ rm, not10 c = true) (r : List By) (p : Nat) (adj : Bool) : ∃ q, scanR (35 :: (rm ++ 10 :: r)) p adj = scanR r q false := by
  obtain ⟨h1, h2⟩ := take_remark h r
  rw [scan_remark (by decide) (by decide), h2, scan_blank (by decide)]
  exact ⟨_, rfl⟩
/-- The words, each with blanks and a remark behind it. -/
def blanksR (rm : List By) : List Wd → Option (List By)
  | [] => some (35 :: rm)
  | w :: ws => match textR w, blanksR rm ws with
    | some s, some r => some (s ++ (32 :: 10 :: 9 :: 35 :: (rm ++ 10 :: 32 :: 32 :: r)))
    | _, _ => none
theorem scan_rest {rm : List By} (h : ∀ c ∈ rm, not10 c = true) : ∀ (ws : List Wd) (r : List By) (p : Nat), blanksR rm ws = some r → ∃ ws', scanR r p false = .ok ws' ∧ sameL ws' ws
  | [], r, p, hr => by
    simp [blanksR] at hr
    subst hr
    exact ⟨[], by rw [scan_remark (by decide) (by decide), drop_remark h, scan_nil], trivial⟩
  | w :: ws, r, p, hr => by
    simp only [blanksR] at hr
    split at hr
    · next s r' hs hr' =>
      simp only [Option.some.injEq] at hr
      subst hr
      rw [scan_one hs (.inr ⟨32, _, rfl, fun _ => by decide, fun _ => by decide⟩) p false (by simp), scan_blank (by decide), scan_blank (by decide), scan_blank (by decide)]
      obtain ⟨q, hq⟩ := skip_remark h (32 :: 32 :: r') (p + s.length + 1 + 1 + 1) false
      rw [hq, scan_blank (by decide), scan_blank (by decide)]
      obtain ⟨ws', h1, h2⟩ := scan_rest h ws r' (q + 1 + 1) hr'
      exact ⟨placed w p :: ws', by rw [h1]; rfl, same_placed w p, h2⟩
    · cases hr
/-- Blanks and remarks change no word. -/
theorem scan_between {rm : List By} (h : ∀ c ∈ rm, not10 c = true) {ws : List Wd} {r : List By} (hr : blanksR rm ws = some r) : ∃ ws', scanR (9 :: 35 :: (rm ++ 10 :: r)) 0 false = .ok ws' ∧ sameL ws' ws := by
  rw [scan_blank (by decide)]
  obtain ⟨q, hq⟩ := skip_remark h r (0 + 1) false
  rw [hq]
  exact scan_rest h ws r q hr

/-- What a scan answers: the words, the place, the error. -/
def scanA (l : List By) : List Wd × Int × Int :=
  if 8000 < l.length then ([], 8000, 6) else match scanR l 0 false with
    | .ok ws => (ws, 0, 0)
    | .error p => ([], p, 5)
def textA (w : Wd) : List By × Int := match textR w with
  | some s => (s, 0)
  | none => ([], 1)
def joinA (ws : List Wd) : List By × Int := match joinF ws [] with
  | some s => if 8000 < s.length then ([], 6) else (s, 0)
  | none => ([], 1)
end Go.Proofs.Ytmcfjlkjijaflaa
