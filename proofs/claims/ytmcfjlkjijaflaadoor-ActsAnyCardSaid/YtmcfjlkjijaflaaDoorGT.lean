/-
  Scripts, cut into words: the plain functions, and what is joined is scanned again. No program.
  What is joined is scanned again; blanks and remarks change no word. No program.
  The word that a text begins with, as the program finds it, is the document's. No program.
  What lies between words, and what may stand beside a word; plainly. No program.
  The document's Scan, plainly: what holds at each place. No program of its own.
  What a word is as a text: the program's way is the document's. No program.
  Programs of tasks: the plain functions; a program's words are parsed to it; what is parsed may be. No program.
  What layer 10's awake asks, plainly. No program. (Made by gen_awake.py.)
-/
import Derived.Lib.Hide
import Derived.Lib.Atoi

/- Scripts, cut into words: the plain functions, and what is joined is scanned again. No program. -/
namespace Go.Proofs.YtmcfjlkjijaflaaDoor

/-- A byte; a word: its kind, its text, its number, its place. -/
abbrev By := UInt8
abbrev Wd := Int × List By × Int × Int
def isLet (c : By) : Bool := decide (97 ≤ c.toNat) && decide (c.toNat ≤ 122)
def isDig (c : By) : Bool := decide (48 ≤ c.toNat) && decide (c.toNat ≤ 57)
def isMk (c : By) : Bool := decide (c.toNat = 123) || (decide (c.toNat = 125) || (decide (c.toNat = 59) || (decide (c.toNat = 46) || decide (c.toNat = 61))))
def isBl (c : By) : Bool := decide (c.toNat = 32) || (decide (c.toNat = 9) || decide (c.toNat = 10))
def not10 (c : By) : Bool := !decide (c.toNat = 10)
/-- What digits come to. -/
def numR (l : List By) : Nat := l.foldl (fun n c => n * 10 + (c.toNat - 48)) 0
/-- The word that begins with c, how many bytes it has behind c, and whether it is one. -/
def oneR (c : By) (t : List By) (p : Nat) : Wd × Nat × Bool :=
  if isLet c then ((1, c :: t.takeWhile isLet, 0, p), (t.takeWhile isLet).length, decide ((t.takeWhile isLet).length < 12))
  else if isDig c then ((2, [], numR ((c :: t.takeWhile isDig).take 9), p), (t.takeWhile isDig).length, decide ((t.takeWhile isDig).length < 9) && (!decide (c.toNat = 48) || decide ((t.takeWhile isDig).length = 0)))
  else ((3, [c], 0, p), 0, isMk c)
def prepR (ws : List Wd) : Except Nat (List Wd) → Except Nat (List Wd)
  | .ok l => .ok (ws ++ l)
  | .error p => .error p
theorem prepR_prepR (a b : List Wd) (r : Except Nat (List Wd)) : prepR a (prepR b r) = prepR (a ++ b) r := by
  cases r <;> simp [prepR]
theorem prepR_nil (r : Except Nat (List Wd)) : prepR [] r = r := by cases r <;> rfl
/-- All words from place p on; adj: a name or a number ends just here. -/
def scanR (l : List By) (p : Nat) (adj : Bool) : Except Nat (List Wd) :=
  match l with
  | [] => .ok []
  | c :: t =>
    if isBl c then scanR t (p + 1) false
    else if c.toNat = 35 then scanR (t.dropWhile not10) (p + 1 + (t.takeWhile not10).length) false
    else if (!(oneR c t p).2.2 || (adj && !decide ((oneR c t p).1.1 = 3))) then .error p
    else prepR [(oneR c t p).1] (scanR (t.drop (oneR c t p).2.1) (p + 1 + (oneR c t p).2.1) (!decide ((oneR c t p).1.1 = 3)))
termination_by l.length
decreasing_by
  all_goals simp_wf
  · have := (List.dropWhile_sublist (l := t) not10).length_le
    omega
  · omega
theorem scan_nil (p : Nat) (adj : Bool) : scanR [] p adj = .ok [] := by rw [scanR]
theorem scan_blank {c : By} (h : isBl c = true) (t : List By) (p : Nat) (adj : Bool) : scanR (c :: t) p adj = scanR t (p + 1) false := by rw [scanR, if_pos h]
theorem scan_remark {c : By} (h0 : isBl c = false) (h : c.toNat = 35) (t : List By) (p : Nat) (adj : Bool) : scanR (c :: t) p adj = scanR (t.dropWhile not10) (p + 1 + (t.takeWhile not10).length) false := by
  rw [scanR, if_neg (by simp [h0]), if_pos h]
theorem scan_bad {c : By} (h0 : isBl c = false) (h1 : ¬ c.toNat = 35) (t : List By) (p : Nat) (adj : Bool) (h : (!(oneR c t p).2.2 || (adj && !decide ((oneR c t p).1.1 = 3))) = true) : scanR (c :: t) p adj = .error p := by
  rw [scanR, if_neg (by simp [h0]), if_neg h1, if_pos h]
theorem scan_word {c : By} (h0 : isBl c = false) (h1 : ¬ c.toNat = 35) (t : List By) (p : Nat) (adj : Bool) (h : (!(oneR c t p).2.2 || (adj && !decide ((oneR c t p).1.1 = 3))) = false) :
    scanR (c :: t) p adj = prepR [(oneR c t p).1] (scanR (t.drop (oneR c t p).2.1) (p + 1 + (oneR c t p).2.1) (!decide ((oneR c t p).1.1 = 3))) := by
  rw [scanR, if_neg (by simp [h0]), if_neg h1, if_neg (by simp [h])]

theorem take_end {q : By → Bool} : ∀ {t r : List By}, (∀ c ∈ t, q c = true) → (r = [] ∨ ∃ c r', r = c :: r' ∧ q c = false) → (t ++ r).takeWhile q = t
  | [], r, _, h => by
    rcases h with rfl | ⟨c, r', rfl, h⟩
    · rfl
    · simp [h]
  | c :: t, r, ha, h => by
    simp only [List.cons_append, List.takeWhile_cons, ha c (by simp), if_true]
    rw [take_end (fun x hx => ha x (by simp [hx])) h]
theorem takeWhile_all {q : By → Bool} : ∀ (t : List By), ∀ c ∈ t.takeWhile q, q c = true
  | [], c, h => by simp at h
  | a :: t, c, h => by
    simp only [List.takeWhile_cons] at h
    split at h
    · rcases List.mem_cons.1 h with rfl | h
      · assumption
      · exact takeWhile_all t c h
    · simp at h

/-- Blanks behind a text change nothing. -/
theorem takeWhile_blanks {q : By → Bool} (hq : q 32 = false) (k : Nat) : ∀ t : List By, (t ++ List.replicate k 32).takeWhile q = t.takeWhile q
  | [] => by cases k <;> simp [List.replicate_succ, hq]
  | c :: t => by
    simp only [List.cons_append, List.takeWhile_cons]
    rw [takeWhile_blanks hq k t]
theorem scan_blanks (p : Nat) (adj : Bool) : ∀ k, scanR (List.replicate k 32) p adj = .ok []
  | 0 => scan_nil _ _
  | k + 1 => by
    rw [List.replicate_succ, scan_blank (by decide)]
    exact scan_blanks (p + 1) false k
theorem drop_blanks : ∀ k, (List.replicate k (32 : By)).dropWhile not10 = []
  | 0 => rfl
  | k + 1 => by
    rw [List.replicate_succ, List.dropWhile_cons, if_pos (by decide)]
    exact drop_blanks k
theorem dropWhile_blanks (k : Nat) : ∀ t : List By, ((t ++ List.replicate k 32).dropWhile not10 = t.dropWhile not10 ++ List.replicate k 32 ∧ (t ++ List.replicate k 32).takeWhile not10 = t.takeWhile not10) ∨ (t.dropWhile not10 = [] ∧ (t ++ List.replicate k 32).dropWhile not10 = [])
  | [] => .inr ⟨rfl, by rw [List.nil_append]; exact drop_blanks k⟩
  | c :: t => by
    simp only [List.cons_append, List.dropWhile_cons, List.takeWhile_cons]
    split
    · rcases dropWhile_blanks k t with ⟨h1, h2⟩ | h
      · exact .inl ⟨h1, by rw [h2]⟩
      · exact .inr h
    · exact .inl ⟨rfl, rfl⟩
theorem one_blanks (c : By) (t : List By) (p k : Nat) : oneR c (t ++ List.replicate k 32) p = oneR c t p := by
  unfold oneR
  rw [takeWhile_blanks (by decide), takeWhile_blanks (by decide)]
theorem one_le (c : By) (t : List By) (p : Nat) : (oneR c t p).2.1 ≤ t.length := by
  unfold oneR
  split
  · exact (List.takeWhile_sublist _).length_le
  · split
    · exact (List.takeWhile_sublist _).length_le
    · exact Nat.zero_le _
theorem scan_more (k : Nat) : ∀ (n : Nat) (l : List By) (p : Nat) (adj : Bool), l.length ≤ n → scanR (l ++ List.replicate k 32) p adj = scanR l p adj
  | _, [], p, adj, _ => by rw [List.nil_append, scan_blanks, scan_nil]
  | 0, _ :: _, _, _, h => by simp at h
  | n + 1, c :: t, p, adj, h => by
    simp only [List.length_cons] at h
    rw [List.cons_append]
    cases h0 : isBl c with
    | true => rw [scan_blank h0, scan_blank h0, scan_more k n t _ _ (by omega)]
    | false =>
      by_cases h1 : c.toNat = 35
      · rw [scan_remark h0 h1, scan_remark h0 h1]
        have hd := (List.dropWhile_sublist (l := t) not10).length_le
        rcases dropWhile_blanks k t with ⟨e, e'⟩ | ⟨e1, e2⟩
        · rw [e, e', scan_more k n _ _ _ (by omega)]
        · rw [e1, e2, scan_nil, scan_nil]
      · cases hb : (!(oneR c t p).2.2 || (adj && !decide ((oneR c t p).1.1 = 3))) with
        | true => rw [scan_bad h0 h1 t p adj hb, scan_bad h0 h1 _ p adj (by rw [one_blanks]; exact hb)]
        | false =>
          have hl := one_le c t p
          rw [scan_word h0 h1 t p adj hb, scan_word h0 h1 _ p adj (by rw [one_blanks]; exact hb), one_blanks, List.drop_append_of_le_length hl, scan_more k n _ _ _ (by rw [List.length_drop]; omega)]

/-- The digits of a number. -/
def digitsR (n : Nat) : List By := if n < 10 then [UInt8.ofNat (48 + n)] else digitsR (n / 10) ++ [UInt8.ofNat (48 + n % 10)]
termination_by n
decreasing_by omega
theorem digit_nat {d : Nat} (h : d < 10) : (UInt8.ofNat (48 + d)).toNat = 48 + d := by
  simp [UInt8.toNat_ofNat']
  omega
theorem digits_small {n : Nat} (h : n < 10) : digitsR n = [UInt8.ofNat (48 + n)] := by rw [digitsR, if_pos h]
theorem digits_great {n : Nat} (h : ¬ n < 10) : digitsR n = digitsR (n / 10) ++ [UInt8.ofNat (48 + n % 10)] := by rw [digitsR, if_neg h]
theorem digits_all (n : Nat) : ∀ c ∈ digitsR n, isDig c = true := by
  intro c hc
  by_cases h : n < 10
  · rw [digits_small h] at hc
    obtain rfl := List.mem_singleton.1 hc
    simp [isDig]
    omega
  · rw [digits_great h] at hc
    rcases List.mem_append.1 hc with hc | hc
    · exact digits_all (n / 10) c hc
    · obtain rfl := List.mem_singleton.1 hc
      have := Nat.mod_lt n (show 0 < 10 by omega)
      simp [isDig]
      omega
termination_by n
decreasing_by omega
theorem numR_snoc (l : List By) (c : By) : numR (l ++ [c]) = numR l * 10 + (c.toNat - 48) := by simp [numR, List.foldl_append]
theorem num_digits (n : Nat) : numR (digitsR n) = n := by
  by_cases h : n < 10
  · rw [digits_small h]
    simp [numR]
    omega
  · rw [digits_great h, numR_snoc, num_digits (n / 10), digit_nat (Nat.mod_lt n (by omega))]
    omega
termination_by n
decreasing_by omega
/-- How many digits; the first one. -/
theorem digits_form (n : Nat) : ∃ c t, digitsR n = c :: t ∧ (c.toNat = 48 → t = [] ∧ n = 0) := by
  by_cases h : n < 10
  · exact ⟨_, [], digits_small h, fun hc => by rw [digit_nat h] at hc; exact ⟨rfl, by omega⟩⟩
  · obtain ⟨c, t, e, hc⟩ := digits_form (n / 10)
    refine ⟨c, t ++ [UInt8.ofNat (48 + n % 10)], by rw [digits_great h, e]; rfl, fun h0 => ?_⟩
    have := (hc h0).2
    omega
termination_by n
decreasing_by omega
theorem digits_len : ∀ (k n : Nat), n < 10 ^ (k + 1) → (digitsR n).length ≤ k + 1
  | k, n, h => by
    by_cases h1 : n < 10
    · rw [digits_small h1]; simp
    · rw [digits_great h1, List.length_append]
      cases k with
      | zero => simp at h; omega
      | succ k =>
        have := digits_len k (n / 10) (by rw [Nat.pow_succ] at h; omega)
        simp
        omega

/-- A word as it stands in a script; none: it may not be one. -/
def textR (w : Wd) : Option (List By) :=
  if w.1 = 2 then if w.2.1 = [] ∧ 0 ≤ w.2.2.1 ∧ w.2.2.1 ≤ 999999999 then some (digitsR w.2.2.1.toNat) else none
  else if w.2.2.1 ≠ 0 then none
  else match w.2.1 with
    | [] => none
    | c :: t => if (w.1 = 1 ∨ w.1 = 3) ∧ (oneR c t 0).2.2 = true ∧ (oneR c t 0).2.1 = t.length ∧ (oneR c t 0).1.1 = w.1 then some (c :: t) else none
def placed (w : Wd) (p : Nat) : Wd := (w.1, w.2.1, w.2.2.1, (p : Int))
/-- What may stand behind a word of a kind. -/
def endsR (k : Int) (r : List By) : Prop := r = [] ∨ ∃ c r', r = c :: r' ∧ (k = 1 → isLet c = false) ∧ (k = 2 → isDig c = false)
theorem dig_let {c : By} (h : isDig c = true) : isLet c = false := by
  simp [isDig] at h
  simp [isLet]
  omega
theorem word_heads {c : By} (h : isLet c = true ∨ isDig c = true ∨ isMk c = true) : isBl c = false ∧ ¬ c.toNat = 35 := by
  rcases h with h | h | h
  · simp [isLet] at h
    refine ⟨by simp [isBl]; omega, by omega⟩
  · simp [isDig] at h
    refine ⟨by simp [isBl]; omega, by omega⟩
  · simp [isMk] at h
    refine ⟨by simp [isBl]; omega, by omega⟩
/-- A word that may be is read again. -/
theorem word_back {w : Wd} {s r : List By} (h : textR w = some s) (hr : endsR w.1 r) (p : Nat) : ∃ c t, s = c :: t ∧ oneR c (t ++ r) p = (placed w p, t.length, true) ∧ isBl c = false ∧ ¬ c.toNat = 35 := by
  obtain ⟨k, x, n, q⟩ := w
  simp only [textR] at h
  simp only at hr
  by_cases h2 : k = 2
  · subst h2
    rw [if_pos rfl] at h
    split at h
    · next hc =>
      obtain ⟨rfl, h0, h9⟩ := hc
      simp only [Option.some.injEq] at h
      obtain ⟨m, rfl⟩ := Int.eq_ofNat_of_zero_le h0
      rw [Int.toNat_natCast] at h
      obtain ⟨c, t, e, hz⟩ := digits_form m
      have hall := digits_all m
      have hlen := digits_len 8 m (by omega)
      have hnum := num_digits m
      rw [e] at h hall hlen hnum
      subst h
      have hcd := hall c (by simp)
      have htd : (t ++ r).takeWhile isDig = t := take_end (fun x hx => hall x (by simp [hx])) (by
        rcases hr with rfl | ⟨c', r', rfl, _, h2⟩
        · exact .inl rfl
        · exact .inr ⟨c', r', rfl, h2 rfl⟩)
      simp only [List.length_cons] at hlen
      refine ⟨c, t, rfl, ?_, word_heads (.inr (.inl hcd))⟩
      unfold oneR placed
      rw [if_neg (by simp [dig_let hcd]), if_pos hcd, htd, List.take_of_length_le (by simp; omega), hnum]
      have hb : (decide (t.length < 9) && (!decide (c.toNat = 48) || decide (t.length = 0))) = true := by
        by_cases hc0 : c.toNat = 48
        · obtain ⟨rfl, _⟩ := hz hc0
          simp
        · simp [hc0]; omega
      rw [hb]
    · cases h
  · rw [if_neg h2] at h
    split at h
    · cases h
    · next hn =>
      cases x with
      | nil => cases h
      | cons c t =>
        simp only at h
        split at h
        · next hc =>
          obtain ⟨hk, hok, hm, hkind⟩ := hc
          simp only [Option.some.injEq] at h
          subst h
          have hn0 : n = 0 := by simpa using hn
          subst hn0
          refine ⟨c, t, rfl, ?_⟩
          by_cases hl : isLet c = true
          · have e : oneR c t 0 = ((1, c :: t.takeWhile isLet, 0, ((0 : Nat) : Int)), (t.takeWhile isLet).length, decide ((t.takeWhile isLet).length < 12)) := by unfold oneR; rw [if_pos hl]
            rw [e] at hok hm hkind
            simp only at hok hm hkind
            subst hkind
            have htl : ∀ x ∈ t, isLet x = true := by
              have : t.takeWhile isLet = t := (List.takeWhile_sublist isLet).eq_of_length hm
              rw [← this]
              exact takeWhile_all t
            have htd : (t ++ r).takeWhile isLet = t := take_end htl (by
              rcases hr with rfl | ⟨c', r', rfl, h1, _⟩
              · exact .inl rfl
              · exact .inr ⟨c', r', rfl, h1 rfl⟩)
            refine ⟨?_, word_heads (.inl hl)⟩
            unfold oneR placed
            rw [if_pos hl, htd, ← hm, hok]
          · by_cases hd : isDig c = true
            · have e : (oneR c t 0).1.1 = 2 := by unfold oneR; rw [if_neg hl, if_pos hd]
              rw [e] at hkind
              exact absurd hkind.symm h2
            · have e : oneR c t 0 = ((3, [c], 0, ((0 : Nat) : Int)), 0, isMk c) := by unfold oneR; rw [if_neg hl, if_neg hd]
              rw [e] at hok hm hkind
              simp only at hok hm hkind
              subst hkind
              obtain rfl : t = [] := List.eq_nil_of_length_eq_zero hm.symm
              refine ⟨?_, word_heads (.inr (.inr hok))⟩
              unfold oneR placed
              rw [if_neg hl, if_neg hd, hok]
              rfl
        · cases h
end Go.Proofs.YtmcfjlkjijaflaaDoor

/- What is joined is scanned again; blanks and remarks change no word. No program. -/
namespace Go.Proofs.YtmcfjlkjijaflaaDoor

/-- The same word, but for its place. -/
def sameR (a b : Wd) : Prop := a.1 = b.1 ∧ a.2.1 = b.2.1 ∧ a.2.2.1 = b.2.2.1
/-- The same words, but for their places. -/
def sameL : List Wd → List Wd → Prop
  | [], [] => True
  | a :: l, b :: m => sameR a b ∧ sameL l m
  | _, _ => False
theorem sameL_len : ∀ {a b : List Wd}, sameL a b → a.length = b.length
  | [], [], _ => rfl
  | _ :: _, _ :: _, h => by simp [sameL_len h.2]
  | [], _ :: _, h => h.elim
  | _ :: _, [], h => h.elim
theorem sameL_at : ∀ {a b : List Wd}, sameL a b → ∀ i, i < a.length → sameR (a.getD i (0, [], 0, 0)) (b.getD i (0, [], 0, 0))
  | [], [], _, i, h => by simp at h
  | x :: a, y :: b, h, i, hi => by
    cases i with
    | zero => simpa using h.1
    | succ i => simpa using sameL_at h.2 i (by simpa using hi)
  | [], _ :: _, h, _, _ => h.elim
  | _ :: _, [], h, _, _ => h.elim
theorem same_placed (w : Wd) (p : Nat) : sameR (placed w p) w := ⟨rfl, rfl, rfl⟩

/-- A word that may be, what is behind it not being more of it. -/
theorem scan_one {w : Wd} {s r : List By} (h : textR w = some s) (hr : endsR w.1 r) (p : Nat) (adj : Bool) (ha : adj = true → w.1 = 3) : scanR (s ++ r) p adj = prepR [placed w p] (scanR r (p + s.length) (!decide (w.1 = 3))) := by
  obtain ⟨c, t, rfl, ho, h0, h1⟩ := word_back h hr p
  rw [List.cons_append, scan_word h0 h1 (t ++ r) p adj (by
    rw [ho]
    cases adj with
    | false => rfl
    | true => simp [placed, ha rfl]), ho]
  simp only [placed, List.drop_left]
  rw [show p + 1 + t.length = p + (c :: t).length by simp; omega]
  rfl

/-- What is written behind what was joined so far; b: nothing so far. -/
def tailR : Bool → List Wd → Option (List By)
  | _, [] => some []
  | b, w :: ws => match textR w, tailR false ws with
    | some s, some r => some ((if b = false ∧ s ≠ [59] then [32] else []) ++ s ++ r)
    | _, _ => none
def joinF : List Wd → List By → Option (List By)
  | [], out => some out
  | w :: ws, out => match textR w with
    | some s => joinF ws ((if out ≠ [] ∧ s ≠ [59] then out ++ [32] else out) ++ s)
    | none => none
theorem text_ne {w : Wd} {s : List By} (h : textR w = some s) : s ≠ [] := by
  obtain ⟨c, t, rfl, _⟩ := word_back h (.inl rfl) 0
  simp
theorem join_tail : ∀ (ws : List Wd) (out : List By), joinF ws out = (tailR (decide (out = [])) ws).map (out ++ ·)
  | [], out => by simp [joinF, tailR]
  | w :: ws, out => by
    simp only [joinF, tailR]
    cases h : textR w with
    | none => rfl
    | some s =>
      have hne := text_ne h
      simp only
      rw [join_tail ws]
      have hf : decide ((if out ≠ [] ∧ s ≠ [59] then out ++ [32] else out) ++ s = []) = false := by simp [hne]
      rw [hf]
      cases hr : tailR false ws with
      | none => rfl
      | some r =>
        by_cases h0 : out = []
        · subst h0
          simp
        · by_cases h1 : s = [59]
          · subst h1
            simp
          · simp [h0, h1]
theorem tail_ends {ws : List Wd} {r : List By} (h : tailR false ws = some r) (k : Int) : endsR k r := by
  cases ws with
  | nil => simp [tailR] at h; exact .inl h
  | cons w ws =>
    simp only [tailR] at h
    split at h
    · next s r' hs _ =>
      simp only [Option.some.injEq] at h
      right
      by_cases h1 : s = [59]
      · subst h1
        refine ⟨59, r', by rw [← h]; simp, fun _ => by decide, fun _ => by decide⟩
      · exact ⟨32, s ++ r', by rw [← h]; simp [h1], fun _ => by decide, fun _ => by decide⟩
    · cases h
theorem semi_kind {w : Wd} (h : textR w = some [59]) : w.1 = 3 := by
  obtain ⟨c, t, e, ho, _⟩ := word_back h (.inl rfl) 0
  simp only [List.cons.injEq] at e
  obtain ⟨rfl, rfl⟩ := e
  have : (oneR 59 ([] ++ []) 0).1.1 = 3 := by decide +kernel
  rw [ho] at this
  exact this
theorem scan_tail : ∀ (ws : List Wd) (b adj : Bool) (r : List By) (p : Nat), tailR b ws = some r → (b = true → adj = false) → ∃ ws', scanR r p adj = .ok ws' ∧ sameL ws' ws
  | [], b, adj, r, p, h, _ => by
    simp [tailR] at h
    subst h
    exact ⟨[], scan_nil _ _, trivial⟩
  | w :: ws, b, adj, r, p, h, hb => by
    simp only [tailR] at h
    split at h
    · next s r' hs hr' =>
      simp only [Option.some.injEq] at h
      have fin : ∀ (q : Nat) (a : Bool), (a = true → w.1 = 3) → ∃ ws', scanR (s ++ r') q a = .ok ws' ∧ sameL ws' (w :: ws) := fun q a ha => by
        obtain ⟨ws', h1, h2⟩ := scan_tail ws false (!decide (w.1 = 3)) r' (q + s.length) hr' (by simp)
        exact ⟨placed w q :: ws', by rw [scan_one hs (tail_ends hr' _) q a ha, h1]; rfl, same_placed w q, h2⟩
      by_cases h1 : b = false ∧ s ≠ [59]
      · rw [if_pos h1] at h
        subst h
        obtain ⟨ws', h2, h3⟩ := fin (p + 1) false (by simp)
        exact ⟨ws', by rw [List.append_assoc, List.cons_append, List.nil_append, scan_blank (by decide)]; exact h2, h3⟩
      · rw [if_neg h1] at h
        subst h
        refine fin p adj (fun ha => ?_)
        cases b with
        | true => rw [hb rfl] at ha; cases ha
        | false =>
          have : s = [59] := by simpa using h1
          subst this
          exact semi_kind hs
    · cases h
/-- What is joined is scanned to itself. -/
theorem scan_join {ws : List Wd} {r : List By} (h : joinF ws [] = some r) : ∃ ws', scanR r 0 false = .ok ws' ∧ sameL ws' ws := by
  rw [join_tail] at h
  simp at h
  exact scan_tail ws true false r 0 h (fun _ => rfl)

/-- A remark, up to its end. -/
theorem take_remark {rm : List By} (h : ∀ c ∈ rm, not10 c = true) (r : List By) : (rm ++ 10 :: r).takeWhile not10 = rm ∧ (rm ++ 10 :: r).dropWhile not10 = 10 :: r := by
  induction rm with
  | nil => exact ⟨rfl, rfl⟩
  | cons c rm ih =>
    obtain ⟨h1, h2⟩ := ih (fun x hx => h x (by simp [hx]))
    simp only [List.cons_append, List.takeWhile_cons, List.dropWhile_cons, h c (by simp), if_true]
    exact ⟨by rw [h1], h2⟩
theorem drop_remark {rm : List By} (h : ∀ c ∈ rm, not10 c = true) : rm.dropWhile not10 = [] := by
  induction rm with
  | nil => rfl
  | cons c rm ih =>
    simp only [List.dropWhile_cons, h c (by simp), if_true]
    exact ih (fun x hx => h x (by simp [hx]))
theorem skip_remark {rm : List By} (h : ∀ c ∈ rm, not10 c = true) (r : List By) (p : Nat) (adj : Bool) : ∃ q, scanR (35 :: (rm ++ 10 :: r)) p adj = scanR r q false := by
  obtain ⟨h1, h2⟩ := take_remark h r
  rw [scan_remark (by decide) (by decide), h2, scan_blank (by decide)]
  exact ⟨_, rfl⟩
/-- The words, each with blanks and a remark behind it. -/
def blanksR (rm : List By) : List Wd → Option (List By)
  | [] => some (35 :: rm)
  | w :: ws => match textR w, blanksR rm ws with
    | some s, some r => some (s ++ (32 :: 10 :: 9 :: 35 :: (rm ++ 10 :: 32 :: 32 :: r)))
    | _, _ => none
theorem scan_rest {rm : List By} (h : ∀ c ∈ rm, not10 c = true) : ∀ (ws : List Wd) (r : List By) (p : Nat), blanksR rm ws = some r → ∃ ws', scanR r p false = .ok ws' ∧ sameL ws' ws
  | [], r, p, hr => by
    simp [blanksR] at hr
    subst hr
    exact ⟨[], by rw [scan_remark (by decide) (by decide), drop_remark h, scan_nil], trivial⟩
  | w :: ws, r, p, hr => by
    simp only [blanksR] at hr
    split at hr
    · next s r' hs hr' =>
      simp only [Option.some.injEq] at hr
      subst hr
      rw [scan_one hs (.inr ⟨32, _, rfl, fun _ => by decide, fun _ => by decide⟩) p false (by simp), scan_blank (by decide), scan_blank (by decide), scan_blank (by decide)]
      obtain ⟨q, hq⟩ := skip_remark h (32 :: 32 :: r') (p + s.length + 1 + 1 + 1) false
      rw [hq, scan_blank (by decide), scan_blank (by decide)]
      obtain ⟨ws', h1, h2⟩ := scan_rest h ws r' (q + 1 + 1) hr'
      exact ⟨placed w p :: ws', by rw [h1]; rfl, same_placed w p, h2⟩
    · cases hr
/-- Blanks and remarks change no word. -/
theorem scan_between {rm : List By} (h : ∀ c ∈ rm, not10 c = true) {ws : List Wd} {r : List By} (hr : blanksR rm ws = some r) : ∃ ws', scanR (9 :: 35 :: (rm ++ 10 :: r)) 0 false = .ok ws' ∧ sameL ws' ws := by
  rw [scan_blank (by decide)]
  obtain ⟨q, hq⟩ := skip_remark h r (0 + 1) false
  rw [hq]
  exact scan_rest h ws r q hr

/-- What a scan answers: the words, the place, the error. -/
def scanA (l : List By) : List Wd × Int × Int :=
  if 8000 < l.length then ([], 8000, 6) else match scanR l 0 false with
    | .ok ws => (ws, 0, 0)
    | .error p => ([], p, 5)
def textA (w : Wd) : List By × Int := match textR w with
  | some s => (s, 0)
  | none => ([], 1)
def joinA (ws : List Wd) : List By × Int := match joinF ws [] with
  | some s => if 8000 < s.length then ([], 6) else (s, 0)
  | none => ([], 1)
end Go.Proofs.YtmcfjlkjijaflaaDoor

/- The word that a text begins with, as the program finds it, is the document's. No program. -/
namespace Go.Proofs.YtmcfjlkjijaflaaDoor

def nameB (l : List By) : Bool := decide (1 ≤ l.length) && decide (l.length ≤ 12) && decide ((l.takeWhile isLet).length = l.length)
def numB (l : List By) : Bool := decide (l.length = 1) || (decide (1 < l.length) && decide (l.length ≤ 9) && !decide ((l.headD 0).toNat = 48))
def markB (l : List By) : Bool := l == [123] || (l == [125] || (l == [59] || (l == [46] || l == [61])))

/-- The word that a text begins with, and how many bytes it has: the program's way. -/
def cutP (l : List By) : Wd × Nat :=
  if nameB (l.take (l.takeWhile isLet).length) then ((1, l.take (l.takeWhile isLet).length, 0, 0), (l.takeWhile isLet).length)
  else if numB (l.take (l.takeWhile isDig).length) then ((2, [], numR (l.take (l.takeWhile isDig).length), 0), (l.takeWhile isDig).length)
  else if markB (l.take 1) then ((3, l.take 1, 0, 0), 1)
  else ((0, [], 0, 0), 0)

theorem take_takeWhile {q : By → Bool} (l : List By) : l.take (l.takeWhile q).length = l.takeWhile q := by
  have e : l.takeWhile q ++ l.dropWhile q = l := List.takeWhile_append_dropWhile
  have h := List.take_left (l₁ := l.takeWhile q) (l₂ := l.dropWhile q)
  rw [e] at h
  exact h
theorem takeWhile_twice {q : By → Bool} (l : List By) : (l.takeWhile q).takeWhile q = l.takeWhile q := by
  induction l with
  | nil => rfl
  | cons c t ih =>
    simp only [List.takeWhile_cons]
    split
    · next h => rw [List.takeWhile_cons, if_pos h, ih]
    · rfl
theorem mark_one (c : By) : markB [c] = isMk c := by
  unfold markB isMk
  have e : ∀ k : By, ([c] == [k]) = decide (c.toNat = k.toNat) := fun k => by
    rw [Bool.eq_iff_iff]
    simp [UInt8.toNat_inj]
  rw [e, e, e, e, e]
  rfl
theorem let_mark {c : By} (h : isLet c = true) : isMk c = false := by
  simp [isLet] at h
  simp [isMk]
  omega
theorem dig_mark {c : By} (h : isDig c = true) : isMk c = false := by
  simp [isDig] at h
  simp [isMk]
  omega
theorem let_dig {c : By} (h : isLet c = true) : isDig c = false := by
  simp [isLet] at h
  simp [isDig]
  omega
theorem name_nil : nameB [] = false := rfl
theorem num_nil : numB [] = false := rfl

theorem num_form (n : Nat) (b : Bool) : (decide (n + 1 = 1) || (decide (1 < n + 1) && decide (n + 1 ≤ 9) && !b)) = (decide (n < 9) && (!b || decide (n = 0))) := by
  cases b <;> (rw [Bool.eq_iff_iff]; simp; try omega)

theorem cut_one (c : By) (t : List By) : cutP (c :: t) = if (oneR c t 0).2.2 then ((oneR c t 0).1, 1 + (oneR c t 0).2.1) else ((0, [], 0, 0), 0) := by
  unfold cutP
  rw [take_takeWhile, take_takeWhile, show List.take 1 (c :: t) = [c] from rfl, mark_one]
  by_cases hl : isLet c = true
  · have e : oneR c t 0 = ((1, c :: t.takeWhile isLet, 0, ((0 : Nat) : Int)), (t.takeWhile isLet).length, decide ((t.takeWhile isLet).length < 12)) := by unfold oneR; rw [if_pos hl]
    have t1 : (c :: t).takeWhile isLet = c :: t.takeWhile isLet := by rw [List.takeWhile_cons, if_pos hl]
    have t2 : (c :: t).takeWhile isDig = [] := by rw [List.takeWhile_cons, if_neg (by simp [let_dig hl])]
    rw [e, t1, t2, let_mark hl, num_nil]
    have hn : nameB (c :: t.takeWhile isLet) = decide ((t.takeWhile isLet).length < 12) := by
      unfold nameB
      rw [List.takeWhile_cons, if_pos hl, takeWhile_twice]
      simp only [List.length_cons, decide_true, Bool.and_true]
      rw [Bool.eq_iff_iff]
      simp
      omega
    rw [hn]
    simp only [List.length_cons]
    by_cases h : (t.takeWhile isLet).length < 12
    · simp [h, Nat.add_comm]
    · simp [h]
  · by_cases hd : isDig c = true
    · have e : oneR c t 0 = ((2, [], ((numR ((c :: t.takeWhile isDig).take 9) : Nat) : Int), ((0 : Nat) : Int)), (t.takeWhile isDig).length, decide ((t.takeWhile isDig).length < 9) && (!decide (c.toNat = 48) || decide ((t.takeWhile isDig).length = 0))) := by unfold oneR; rw [if_neg hl, if_pos hd]
      have t1 : (c :: t).takeWhile isLet = [] := by rw [List.takeWhile_cons, if_neg hl]
      have t2 : (c :: t).takeWhile isDig = c :: t.takeWhile isDig := by rw [List.takeWhile_cons, if_pos hd]
      rw [e, t1, t2, dig_mark hd, name_nil]
      have hn : numB (c :: t.takeWhile isDig) = (decide ((t.takeWhile isDig).length < 9) && (!decide (c.toNat = 48) || decide ((t.takeWhile isDig).length = 0))) := by
        unfold numB
        exact num_form _ _
      rw [hn]
      by_cases h : (decide ((t.takeWhile isDig).length < 9) && (!decide (c.toNat = 48) || decide ((t.takeWhile isDig).length = 0))) = true
      · have h9 : (t.takeWhile isDig).length < 9 := by simp at h; exact h.1
        rw [h, List.take_of_length_le (by simp; omega)]
        simp [Nat.add_comm]
      · rw [Bool.not_eq_true] at h
        rw [h]
        simp
    · have e : oneR c t 0 = ((3, [c], 0, ((0 : Nat) : Int)), 0, isMk c) := by unfold oneR; rw [if_neg hl, if_neg hd]
      have t1 : (c :: t).takeWhile isLet = [] := by rw [List.takeWhile_cons, if_neg hl]
      have t2 : (c :: t).takeWhile isDig = [] := by rw [List.takeWhile_cons, if_neg hd]
      rw [e, t1, t2, name_nil, num_nil]
      cases isMk c <;> simp

/-- What digits come to is what the library reads. -/
theorem dec_digits : ∀ (l : List By) (a : Nat), (∀ c ∈ l, isDig c = true) → Lib.decFrom a l = some (l.foldl (fun n c => n * 10 + (c.toNat - 48)) a)
  | [], a, _ => rfl
  | c :: t, a, h => by
    have hc := h c (by simp)
    simp [isDig] at hc
    have hv : Lib.digitVal c = some (c.toNat - 48) := by unfold Lib.digitVal; rw [if_pos hc]
    simp only [Lib.decFrom, hv, List.foldl_cons]
    exact dec_digits t _ (fun x hx => h x (by simp [hx]))
theorem atoi_digits {l : List By} (h : ∀ c ∈ l, isDig c = true) (hne : l ≠ []) : Lib.atoi l = some (numR l : Int) := by
  cases l with
  | nil => exact absurd rfl hne
  | cons c t =>
    have hc := h c (by simp)
    simp [isDig] at hc
    have h45 : (c == 45) = false := by rw [beq_eq_false_iff_ne]; intro e; subst e; simp at hc
    have h43 : (c == 43) = false := by rw [beq_eq_false_iff_ne]; intro e; subst e; simp at hc
    simp only [Lib.atoi, h45, h43, Lib.decNat, List.isEmpty_cons, dec_digits _ _ h]
    rfl
theorem num_bound : ∀ (l : List By), (∀ c ∈ l, isDig c = true) → numR l < 10 ^ l.length := by
  intro l h
  have := Lib.decFrom_lt l 0 _ (dec_digits l 0 h)
  simpa [numR] using this
end Go.Proofs.YtmcfjlkjijaflaaDoor

/- What lies between words, and what may stand beside a word; plainly. No program. -/
namespace Go.Proofs.YtmcfjlkjijaflaaDoor

/-- How many bytes lie ahead of the next word. -/
def skipN (l : List By) : Nat :=
  match l with
  | [] => 0
  | c :: t => if isBl c then 1 + skipN t else if c.toNat = 35 then 1 + (t.takeWhile not10).length + skipN (t.dropWhile not10) else 0
termination_by l.length
decreasing_by
  all_goals simp_wf
  have := (List.dropWhile_sublist (l := t) not10).length_le
  omega
theorem skip_nil : skipN [] = 0 := by rw [skipN]
theorem skip_blank {c : By} (h : isBl c = true) (t : List By) : skipN (c :: t) = 1 + skipN t := by rw [skipN, if_pos h]
theorem skip_rem {c : By} (h0 : isBl c = false) (h : c.toNat = 35) (t : List By) : skipN (c :: t) = 1 + (t.takeWhile not10).length + skipN (t.dropWhile not10) := by rw [skipN, if_neg (by simp [h0]), if_pos h]
theorem skip_stop {c : By} (h0 : isBl c = false) (h : ¬ c.toNat = 35) (t : List By) : skipN (c :: t) = 0 := by rw [skipN, if_neg (by simp [h0]), if_neg h]
theorem drop_take_len {q : By → Bool} (t : List By) : t.drop (t.takeWhile q).length = t.dropWhile q := by
  induction t with
  | nil => rfl
  | cons c t ih =>
    simp only [List.takeWhile_cons, List.dropWhile_cons]
    split
    · simpa using ih
    · rfl
theorem skip_le : ∀ (n : Nat) (l : List By), l.length ≤ n → skipN l ≤ l.length
  | _, [], _ => by rw [skip_nil]; omega
  | 0, _ :: _, h => by simp at h
  | n + 1, c :: t, h => by
    simp only [List.length_cons] at h ⊢
    cases h0 : isBl c with
    | true =>
      rw [skip_blank h0]
      have := skip_le n t (by omega)
      omega
    | false =>
      by_cases h1 : c.toNat = 35
      · rw [skip_rem h0 h1]
        have e : t.takeWhile not10 ++ t.dropWhile not10 = t := List.takeWhile_append_dropWhile
        have e2 := congrArg List.length e
        rw [List.length_append] at e2
        have := skip_le n (t.dropWhile not10) (by omega)
        omega
      · rw [skip_stop h0 h1]; omega
/-- A scan begins behind what lies ahead of the next word. -/
theorem scan_skip : ∀ (n : Nat) (l : List By) (p : Nat) (adj : Bool), l.length ≤ n → scanR l p adj = scanR (l.drop (skipN l)) (p + skipN l) (adj && decide (skipN l = 0))
  | _, [], p, adj, _ => by rw [skip_nil]; simp [scan_nil]
  | 0, _ :: _, _, _, h => by simp at h
  | n + 1, c :: t, p, adj, h => by
    simp only [List.length_cons] at h
    cases h0 : isBl c with
    | true =>
      rw [skip_blank h0, scan_blank h0, scan_skip n t _ _ (by omega), show 1 + skipN t = skipN t + 1 by omega, List.drop_succ_cons, show p + 1 + skipN t = p + (skipN t + 1) by omega]
      simp
    | false =>
      by_cases h1 : c.toNat = 35
      · have e : t.takeWhile not10 ++ t.dropWhile not10 = t := List.takeWhile_append_dropWhile
        have e2 := congrArg List.length e
        rw [List.length_append] at e2
        rw [skip_rem h0 h1, scan_remark h0 h1, scan_skip n _ _ _ (by omega), show 1 + (t.takeWhile not10).length + skipN (t.dropWhile not10) = ((t.takeWhile not10).length + skipN (t.dropWhile not10)) + 1 by omega, List.drop_succ_cons, ← List.drop_drop, drop_take_len, show p + 1 + (t.takeWhile not10).length + skipN (t.dropWhile not10) = p + ((t.takeWhile not10).length + skipN (t.dropWhile not10) + 1) by omega]
        simp
      · rw [skip_stop h0 h1]; simp
/-- Behind it is a word, or nothing, or what isn't one. -/
theorem skip_at : ∀ (n : Nat) (l : List By), l.length ≤ n → l.drop (skipN l) = [] ∨ ∃ c t, l.drop (skipN l) = c :: t ∧ isBl c = false ∧ ¬ c.toNat = 35
  | _, [], _ => by rw [skip_nil]; exact .inl rfl
  | 0, _ :: _, h => by simp at h
  | n + 1, c :: t, h => by
    simp only [List.length_cons] at h
    cases h0 : isBl c with
    | true => rw [skip_blank h0, show 1 + skipN t = skipN t + 1 by omega, List.drop_succ_cons]; exact skip_at n t (by omega)
    | false =>
      by_cases h1 : c.toNat = 35
      · have e : t.takeWhile not10 ++ t.dropWhile not10 = t := List.takeWhile_append_dropWhile
        have e2 := congrArg List.length e
        rw [List.length_append] at e2
        rw [skip_rem h0 h1, show 1 + (t.takeWhile not10).length + skipN (t.dropWhile not10) = ((t.takeWhile not10).length + skipN (t.dropWhile not10)) + 1 by omega, List.drop_succ_cons, ← List.drop_drop, drop_take_len]
        exact skip_at n _ (by omega)
      · rw [skip_stop h0 h1]; exact .inr ⟨c, t, rfl, h0, h1⟩
/-- May the next word, side by side with the last one, be a mark alone? -/
def lastB (ws : List Wd) : Bool := match ws.getLast? with
  | none => false
  | some x => !decide (x.1 = 3)
theorem lastB_snoc (ws : List Wd) (x : Wd) : lastB (ws ++ [x]) = !decide (x.1 = 3) := by simp [lastB]
theorem lastB_nil : lastB [] = false := rfl
theorem one_place (c : By) (t : List By) (p : Nat) : oneR c t p = (placed (oneR c t 0).1 p, (oneR c t 0).2.1, (oneR c t 0).2.2) := by
  unfold oneR placed
  split
  · rfl
  · split
    · rfl
    · rfl
theorem sameR_refl (x : Wd) : sameR x x := ⟨rfl, rfl, rfl⟩
theorem sameL_get {a b : List Wd} (h : sameL a b) (i : Nat) (h1 : i < a.length) (h2 : i < b.length) : sameR a[i] b[i] := by
  have := sameL_at h i h1
  simpa [List.getD_eq_getElem?_getD, h1, h2] using this
theorem scan_len (l : List By) (h : l.length ≤ 8000) : (scanA l).1.length ≤ 8000 := by
  have key : ∀ (n : Nat) (m : List By) (p : Nat) (adj : Bool) (ws : List Wd), m.length ≤ n → scanR m p adj = .ok ws → ws.length ≤ m.length := by
    intro n
    induction n with
    | zero =>
      intro m p adj ws hm hs
      have : m = [] := List.eq_nil_of_length_eq_zero (by omega)
      subst this
      rw [scan_nil] at hs
      cases hs
      simp
    | succ n ih =>
      intro m p adj ws hm hs
      cases m with
      | nil =>
        rw [scan_nil] at hs
        cases hs
        simp
      | cons c t =>
        simp only [List.length_cons] at hm ⊢
        cases h0 : isBl c with
        | true =>
          rw [scan_blank h0] at hs
          have := ih t _ _ ws (by omega) hs
          omega
        | false =>
          by_cases h35 : c.toNat = 35
          · rw [scan_remark h0 h35] at hs
            have hd := (List.dropWhile_sublist (l := t) not10).length_le
            have := ih _ _ _ ws (by omega) hs
            omega
          · cases hb : (!(oneR c t p).2.2 || (adj && !decide ((oneR c t p).1.1 = 3))) with
            | true =>
              rw [scan_bad h0 h35 t p adj hb] at hs
              cases hs
            | false =>
              rw [scan_word h0 h35 t p adj hb] at hs
              cases hr : scanR (t.drop (oneR c t p).2.1) (p + 1 + (oneR c t p).2.1) (!decide ((oneR c t p).1.1 = 3)) with
              | error q =>
                rw [hr] at hs
                cases hs
              | ok ws' =>
                rw [hr] at hs
                have e : ws = (oneR c t p).1 :: ws' := by
                  simp only [prepR, Except.ok.injEq, List.cons_append, List.nil_append] at hs
                  exact hs.symm
                have := ih _ _ _ ws' (by rw [List.length_drop]; omega) hr
                rw [List.length_drop] at this
                rw [e, List.length_cons]
                omega
  unfold scanA
  rw [if_neg (by omega)]
  cases hs : scanR l 0 false with
  | ok ws =>
    have := key _ l 0 false ws (Nat.le_refl _) hs
    simp only
    omega
  | error p => simp
end Go.Proofs.YtmcfjlkjijaflaaDoor

/- The document's Scan, plainly: what holds at each place. No program of its own. -/
namespace Go.Proofs.YtmcfjlkjijaflaaDoor

structure RefSt (L : List By) (k : Nat) (q : Int) (ws : List Wd) : Prop where
  le : k ≤ L.length
  qk : q ≤ k
  has : 0 ≤ q → ws ≠ []
  len : ws.length ≤ k
  eq : scanR L 0 false = prepR ws (scanR (L.drop k) k (decide (q = (k : Int)) && lastB ws))
theorem RefSt.start (L : List By) : RefSt L 0 (-1) [] := ⟨Nat.zero_le _, by omega, fun h => by omega, Nat.le_refl _, by rw [prepR_nil, List.drop_zero, lastB_nil, Bool.and_false]⟩
theorem drop_more {L : List By} {k : Nat} {c : By} {t : List By} (e : L.drop k = c :: t) (m : Nat) : L.drop (k + 1 + m) = t.drop m := by
  rw [Nat.add_assoc, ← List.drop_drop, e, Nat.add_comm 1 m, List.drop_succ_cons]
theorem drop_lt {L : List By} {k : Nat} {c : By} {t : List By} (e : L.drop k = c :: t) : k + 1 + t.length = L.length := by
  have := congrArg List.length e
  rw [List.length_drop, List.length_cons] at this
  omega
theorem RefSt.blank {L : List By} {k : Nat} {q : Int} {ws : List Wd} (h : RefSt L k q ws) {c : By} {t : List By} (e : L.drop k = c :: t) (hb : isBl c = true) : RefSt L (k + 1) q ws := by
  have hl := drop_lt e
  refine ⟨by omega, by have := h.qk; omega, h.has, by have := h.len; omega, ?_⟩
  rw [h.eq, e, scan_blank hb, show L.drop (k + 1) = t by have := drop_more e 0; simpa using this]
  have : decide (q = ((k + 1 : Nat) : Int)) = false := by
    have := h.qk
    simp
    omega
  rw [this, Bool.false_and]
theorem RefSt.remark {L : List By} {k : Nat} {q : Int} {ws : List Wd} (h : RefSt L k q ws) {c : By} {t : List By} (e : L.drop k = c :: t) (hb : isBl c = false) (h35 : c.toNat = 35) {T : Nat} (hT : T = k + 1 + (t.takeWhile not10).length) : RefSt L T q ws := by
  subst hT
  have hl := drop_lt e
  have hle := (List.takeWhile_sublist (l := t) not10).length_le
  refine ⟨by omega, by have := h.qk; omega, h.has, by have := h.len; omega, ?_⟩
  rw [h.eq, e, scan_remark hb h35, drop_more e, drop_take_len]
  have : decide (q = ((k + 1 + (t.takeWhile not10).length : Nat) : Int)) = false := by
    have := h.qk
    simp
    omega
  rw [this, Bool.false_and]
theorem RefSt.bad {L : List By} {k : Nat} {q : Int} {ws : List Wd} (h : RefSt L k q ws) {c : By} {t : List By} (e : L.drop k = c :: t) (hb : isBl c = false) (h35 : ¬ c.toNat = 35) {x : Wd} {m : Nat} {ok : Bool} (ho : oneR c t k = (x, m, ok)) (hc : (!ok || (decide (q = (k : Int)) && (!decide (x.1 = 3) && lastB ws))) = true) : scanR L 0 false = .error k := by
  rw [h.eq, e, scan_bad hb h35 t k _ (by
    rw [ho]
    simp only
    rw [← hc]
    cases ok <;> cases decide (q = (k : Int)) <;> cases decide (x.1 = 3) <;> cases lastB ws <;> rfl)]
  rfl
theorem RefSt.next {L : List By} {k : Nat} {q : Int} {ws : List Wd} (h : RefSt L k q ws) {c : By} {t : List By} (e : L.drop k = c :: t) (hb : isBl c = false) (h35 : ¬ c.toNat = 35) {x : Wd} {m : Nat} (ho : oneR c t k = (x, m, true)) (hc : (decide (q = (k : Int)) && (!decide (x.1 = 3) && lastB ws)) = false) :
    k + 1 + m ≤ L.length ∧ RefSt L (k + 1 + m) ((k + 1 + m : Nat) : Int) (ws ++ [x]) := by
  have hl := drop_lt e
  have hm := one_le c t k
  rw [ho] at hm
  simp only at hm
  refine ⟨by omega, by omega, by omega, fun _ => by simp, by have := h.len; simp; omega, ?_⟩
  rw [h.eq, e, scan_word hb h35 t k _ (by
    rw [ho]
    simp only
    rw [← hc]
    cases decide (q = (k : Int)) <;> cases decide (x.1 = 3) <;> cases lastB ws <;> rfl), ho, prepR_prepR, lastB_snoc, drop_more e]
  simp
theorem RefSt.done {L : List By} {k : Nat} {q : Int} {ws : List Wd} (h : RefSt L k q ws) (hk : ¬ k < L.length) : scanR L 0 false = .ok ws := by
  rw [h.eq, List.drop_eq_nil_of_le (by omega), scan_nil]
  simp [prepR]
end Go.Proofs.YtmcfjlkjijaflaaDoor

/- What a word is as a text: the program's way is the document's. No program. -/
namespace Go.Proofs.YtmcfjlkjijaflaaDoor

/-- The program's way. -/
def textP (w : Wd) : List By × Int :=
  if w.1 = 1 then if nameB w.2.1 && decide (w.2.2.1 = 0) then (w.2.1, 0) else ([], 1)
  else if w.1 = 2 then if w.2.1 == [] && decide (0 ≤ w.2.2.1) && decide (w.2.2.1 ≤ 999999999) then (digitsR w.2.2.1.toNat, 0) else ([], 1)
  else if w.1 = 3 then if markB w.2.1 && decide (w.2.2.1 = 0) then (w.2.1, 0) else ([], 1)
  else ([], 1)
theorem name_form (n : Nat) (b : Bool) : (decide (1 ≤ n + 1) && decide (n + 1 ≤ 12) && b) = (decide (n < 12) && b) := by
  cases b <;> (rw [Bool.eq_iff_iff]; simp; try omega)
theorem name_one (c : By) (t : List By) : nameB (c :: t) = (isLet c && decide ((t.takeWhile isLet).length = t.length) && decide (t.length < 12)) := by
  unfold nameB
  rw [List.length_cons, name_form]
  by_cases hl : isLet c = true
  · have t1 : (c :: t).takeWhile isLet = c :: t.takeWhile isLet := by rw [List.takeWhile_cons, if_pos hl]
    rw [t1, hl, List.length_cons, Bool.true_and, Bool.and_comm]
    congr 1
    rw [Bool.eq_iff_iff]
    simp
  · have t1 : (c :: t).takeWhile isLet = [] := by rw [List.takeWhile_cons, if_neg hl]
    rw [t1]
    simp only [Bool.not_eq_true] at hl
    rw [hl]
    simp
theorem mark_more (c : By) (t : List By) : markB (c :: t) = (isMk c && decide (t = [])) := by
  cases t with
  | nil => rw [mark_one]; simp
  | cons a t => simp [markB]
theorem text_eq (w : Wd) : textP w = textA w := by
  obtain ⟨k, x, n, p⟩ := w
  unfold textP textA textR
  simp only
  by_cases h2 : k = 2
  · subst h2
    simp only [show ¬ (2 : Int) = 1 by decide, if_false, if_true]
    by_cases hx : x = []
    · subst hx
      by_cases h0 : 0 ≤ n
      · by_cases h9 : n ≤ 999999999
        · simp [h0, h9]
        · simp [h9]
      · simp [h0]
    · have : (x == []) = false := by simpa using hx
      simp [this, hx]
  · rw [if_neg h2]
    rw [if_neg h2]
    by_cases hn : n = 0
    · subst hn
      simp only [ne_eq, not_true, if_false, decide_true, Bool.and_true]
      cases x with
      | nil =>
        by_cases h1 : k = 1
        · simp [h1, name_nil]
        · by_cases h3 : k = 3
          · simp [h3, markB]
          · simp [h1, h3]
      | cons c t =>
        rw [name_one, mark_more]
        dsimp only
        by_cases hl : isLet c = true
        · have e : oneR c t 0 = ((1, c :: t.takeWhile isLet, 0, ((0 : Nat) : Int)), (t.takeWhile isLet).length, decide ((t.takeWhile isLet).length < 12)) := by unfold oneR; rw [if_pos hl]
          rw [e, hl, let_mark hl]
          by_cases h1 : k = 1
          · subst h1
            by_cases hm : (t.takeWhile isLet).length = t.length
            · by_cases h12 : t.length < 12
              · simp [hm, h12]
              · simp [hm, h12]
            · simp [hm]
          · by_cases h3 : k = 3
            · simp [h3]
            · simp [h1, h3]
        · simp only [Bool.not_eq_true] at hl
          by_cases hd : isDig c = true
          · have e : (oneR c t 0).1.1 = 2 := by unfold oneR; rw [if_neg (by simp [hl]), if_pos hd]
            rw [e, hl, dig_mark hd]
            have h2' : ¬ (2 : Int) = k := fun h => h2 h.symm
            simp [h2']
          · simp only [Bool.not_eq_true] at hd
            have e : oneR c t 0 = ((3, [c], 0, ((0 : Nat) : Int)), 0, isMk c) := by unfold oneR; rw [if_neg (by simp [hl]), if_neg (by simp [hd])]
            rw [e, hl]
            by_cases h1 : k = 1
            · simp [h1]
            · by_cases h3 : k = 3
              · subst h3
                cases isMk c with
                | false => simp
                | true =>
                  cases t with
                  | nil => simp
                  | cons a t => simp
              · simp [h1, h3]
    · simp [hn]
end Go.Proofs.YtmcfjlkjijaflaaDoor

/- Programs of tasks: the plain functions; a program's words are parsed to it; what is parsed may be. No program. -/
namespace Go.Proofs.YtmcfjlkjijaflaaDoor

/-- An op: its kind, A, B; a program: forever?, its ops. -/
abbrev Opn := Int × Int × Int
abbrev Prg := Bool × List Opn
def namesR : List (List By) := [[], [99, 111, 109, 112, 117, 116, 101], [108, 111, 99, 107], [114, 101, 97, 100], [116, 114, 121], [116, 105, 109, 101, 100], [117, 110, 108, 111, 99, 107],
  [115, 108, 101, 101, 112], [121, 105, 101, 108, 100], [115, 112, 97, 119, 110], [119, 101, 105, 103, 104, 116], [101, 120, 105, 116]]
def nameR (k : Int) : List By := if 0 ≤ k ∧ k ≤ 11 then namesR.getD k.toNat [] else []
def limR (k : Int) : Int × Int :=
  if k = 1 then (1, 16) else if (2 ≤ k ∧ k ≤ 6) ∨ k = 9 then (0, 7) else if k = 7 then (1, 64) else if k = 10 then (1, 16) else (-1, -1)
def aMay (o : Opn) : Bool := if 0 ≤ (limR o.1).1 then decide ((limR o.1).1 ≤ o.2.1) && decide (o.2.1 ≤ (limR o.1).2) else decide (o.2.1 = 0)
def bMay (o : Opn) : Bool := if o.1 = 5 then decide (1 ≤ o.2.2) && decide (o.2.2 ≤ 64) else decide (o.2.2 = 0)
def opMay (o : Opn) : Bool := !decide (nameR o.1 = []) && (aMay o && bMay o)
def mayR (p : Prg) : Bool := decide (0 < p.2.length) && (decide (p.2.length ≤ 12) && p.2.all opMay)
abbrev progB : List By := [112, 114, 111, 103]
abbrev foreverB : List By := [102, 111, 114, 101, 118, 101, 114]
def opW (o : Opn) : List Wd := (1, nameR o.1, 0, 0) :: ((if 0 ≤ (limR o.1).1 then [(2, [], o.2.1, 0)] else []) ++ ((if o.1 = 5 then [(2, [], o.2.2, 0)] else []) ++ [(3, [59], 0, 0)]))
def wordsR (p : Prg) : List Wd := (1, progB, 0, 0) :: ((if p.1 then [(1, foreverB, 0, 0)] else []) ++ ((3, [123], 0, 0) :: (p.2.flatMap opW ++ [(3, [125], 0, 0)])))
/-- Is that word at a place? -/
def isR (L : List Wd) (a : Nat) (k : Int) (t : List By) : Bool := match L[a]? with
  | some x => decide (x.1 = k) && decide (x.2.1 = t)
  | none => false
/-- The greatest kind up to n whose name is at a place. -/
def kindUp (L : List Wd) (a : Nat) : Nat → Nat
  | 0 => 0
  | n + 1 => if isR L a 1 (nameR ((n + 1 : Nat) : Int)) then n + 1 else kindUp L a n
def kindR (L : List Wd) (a : Nat) : Nat := kindUp L a 11
abbrev Bad := Nat × Int
def argR (L : List Wd) (a : Nat) (lo hi : Int) : Except Bad (Int × Nat) := match L[a]? with
  | some x => if x.1 = 2 then (if x.2.2.1 < lo ∨ hi < x.2.2.1 then .error (a, 1) else .ok (x.2.2.1, a + 1)) else .error (a, 5)
  | none => .error (a, 5)
def arg1R (L : List Wd) (a : Nat) (k : Int) : Except Bad (Int × Nat) := if (limR k).1 < 0 then .ok (0, a) else argR L a (limR k).1 (limR k).2
def arg2R (L : List Wd) (a : Nat) (k : Int) : Except Bad (Int × Nat) := if k = 5 then argR L a 1 64 else .ok (0, a)
/-- An op of kind k, its words behind its name. -/
def opR (L : List Wd) (a : Nat) (k : Int) : Except Bad (Opn × Nat) := match arg1R L a k with
  | .error e => .error e
  | .ok (x, a1) => match arg2R L a1 k with
    | .error e => .error e
    | .ok (y, a2) => if isR L a2 3 [59] then .ok ((k, x, y), a2 + 1) else .error (a2, 5)
def opsR (L : List Wd) : Nat → Nat → List Opn → Except Bad (List Opn × Nat)
  | 0, a, _ => .error (a, 6)
  | n + 1, a, ops =>
    if isR L a 3 [125] then (if ops = [] then .error (a, 4) else .ok (ops, a + 1))
    else if kindR L a = 0 then .error (a, 5)
    else if ops.length = 12 then .error (a, 6)
    else match opR L (a + 1) (kindR L a) with
      | .error e => .error e
      | .ok (o, a2) => opsR L n a2 (ops ++ [o])
def openR (L : List Wd) (a : Nat) : Bool × Nat := if isR L a 1 foreverB then (true, a + 1) else (false, a)
def parseR (L : List Wd) (at_ : Int) : Prg × Int × Int :=
  if at_ < 0 ∨ (L.length : Int) < at_ then ((false, []), 0, 5)
  else if !isR L at_.toNat 1 progB then ((false, []), at_, 5)
  else if !isR L (openR L (at_.toNat + 1)).2 3 [123] then ((false, []), (openR L (at_.toNat + 1)).2, 5)
  else match opsR L 13 ((openR L (at_.toNat + 1)).2 + 1) [] with
    | .error e => ((false, []), e.1, e.2)
    | .ok (ops, n) => (((openR L (at_.toNat + 1)).1, ops), n, 0)

theorem is_at {L : List Wd} {a : Nat} {x : Wd} {r : List Wd} (h : L.drop a = x :: r) (k : Int) (t : List By) : isR L a k t = (decide (x.1 = k) && decide (x.2.1 = t)) := by
  have e : L[a]? = some x := by rw [← List.head?_drop, h]; rfl
  unfold isR; rw [e]
theorem at_next {L : List Wd} {a : Nat} {x : Wd} {r : List Wd} (h : L.drop a = x :: r) : L.drop (a + 1) = r := by
  rw [← List.drop_drop, h]; rfl
theorem at_more {L : List Wd} {a : Nat} {x r : List Wd} (h : L.drop a = x ++ r) : L.drop (a + x.length) = r := by
  rw [← List.drop_drop, h, List.drop_left]
/-- The greatest kind up to n of that name. -/
def kindT (t : List By) : Nat → Nat
  | 0 => 0
  | n + 1 => if t = nameR ((n + 1 : Nat) : Int) then n + 1 else kindT t n
theorem kind_at {L : List Wd} {a : Nat} {x : Wd} {r : List Wd} (h : L.drop a = x :: r) (hx : x.1 = 1) : ∀ n, kindUp L a n = kindT x.2.1 n
  | 0 => rfl
  | n + 1 => by rw [kindUp, kindT, is_at h, hx, kind_at h hx n]; simp
theorem name_kinds {k : Int} (h : nameR k ≠ []) : k = 1 ∨ k = 2 ∨ k = 3 ∨ k = 4 ∨ k = 5 ∨ k = 6 ∨ k = 7 ∨ k = 8 ∨ k = 9 ∨ k = 10 ∨ k = 11 := by
  by_cases h1 : 1 ≤ k ∧ k ≤ 11
  · omega
  · exfalso
    apply h
    unfold nameR
    split
    · next hk =>
      have : k = 0 := by omega
      subst this
      rfl
    · rfl
theorem kind_name {k : Int} (h : nameR k ≠ []) : ((kindT (nameR k) 11 : Nat) : Int) = k ∧ kindT (nameR k) 11 ≠ 0 := by
  rcases name_kinds h with h | h | h | h | h | h | h | h | h | h | h <;> subst h <;> decide
theorem kind_le (L : List Wd) (a : Nat) : ∀ n, kindUp L a n ≤ n
  | 0 => Nat.le_refl _
  | n + 1 => by
    rw [kindUp]
    split
    · exact Nat.le_refl _
    · exact Nat.le_succ_of_le (kind_le L a n)
theorem names_all {k : Nat} (h0 : k ≠ 0) (h : k ≤ 11) : nameR (k : Int) ≠ [] := by
  have : k = 1 ∨ k = 2 ∨ k = 3 ∨ k = 4 ∨ k = 5 ∨ k = 6 ∨ k = 7 ∨ k = 8 ∨ k = 9 ∨ k = 10 ∨ k = 11 := by omega
  rcases this with h | h | h | h | h | h | h | h | h | h | h <;> subst h <;> decide

theorem same_cons {ws l : List Wd} {x : Wd} (h : sameL ws (x :: l)) : ∃ y ws', ws = y :: ws' ∧ sameR y x ∧ sameL ws' l := by
  cases ws with
  | nil => simp [sameL] at h
  | cons y ws' => exact ⟨y, ws', rfl, h⟩
theorem same_app : ∀ {a b ws : List Wd}, sameL ws (a ++ b) → ∃ u v, ws = u ++ v ∧ sameL u a ∧ sameL v b
  | [], b, ws, h => ⟨[], ws, rfl, by simp [sameL], h⟩
  | x :: a, b, ws, h => by
    obtain ⟨y, ws', rfl, h1, h2⟩ := same_cons h
    obtain ⟨u, v, rfl, h3, h4⟩ := same_app h2
    exact ⟨y :: u, v, rfl, ⟨h1, h3⟩, h4⟩
theorem arg_back {L : List Wd} {a : Nat} {lo hi n p : Int} {y : Wd} {r : List Wd} (h : L.drop a = y :: r) (hy : sameR y (2, [], n, p)) (h1 : lo ≤ n) (h2 : n ≤ hi) : argR L a lo hi = .ok (n, a + 1) := by
  have e : L[a]? = some y := by rw [← List.head?_drop, h]; rfl
  obtain ⟨y1, _, y3⟩ := hy
  unfold argR
  rw [e]
  simp only at y1 y3 ⊢
  rw [if_pos y1, y3, if_neg (by omega)]
theorem op_back {o : Opn} (ho : opMay o = true) {L : List Wd} {a : Nat} {ws r : List Wd} (hd : L.drop a = ws ++ r) (hs : sameL ws (opW o)) :
    kindR L a ≠ 0 ∧ ((kindR L a : Nat) : Int) = o.1 ∧ isR L a 3 [125] = false ∧ opR L (a + 1) o.1 = .ok (o, a + ws.length) := by
  obtain ⟨k, x, y⟩ := o
  simp only [opMay, Bool.and_eq_true, Bool.not_eq_true', decide_eq_false_iff_not] at ho
  obtain ⟨hk, ha, hb⟩ := ho
  obtain ⟨w0, ws1, rfl, s0, hs1⟩ := same_cons hs
  obtain ⟨u1, ws2, rfl, hu1, hs2⟩ := same_app hs1
  obtain ⟨u2, ws3, rfl, hu2, hs3⟩ := same_app hs2
  obtain ⟨w3, ws4, rfl, s3, hs4⟩ := same_cons hs3
  have : ws4 = [] := by cases ws4 with | nil => rfl | cons _ _ => simp [sameL] at hs4
  subst this
  obtain ⟨s01, s02, _⟩ := s0
  obtain ⟨s31, s32, _⟩ := s3
  simp only at s01 s02 s31 s32 hk
  obtain ⟨hk1, hk2⟩ := kind_name hk
  have hd0 : L.drop a = w0 :: (u1 ++ (u2 ++ (w3 :: r))) := by rw [hd]; simp
  have hd1 := at_next hd0
  have hd2 := at_more hd1
  have hd3 := at_more hd2
  have hkr : kindR L a = kindT (nameR k) 11 := by unfold kindR; rw [kind_at hd0 s01, s02]
  refine ⟨by rw [hkr]; exact hk2, by rw [hkr]; exact hk1, ?_, ?_⟩
  · rw [is_at hd0, s01]; rfl
  have e1 : arg1R L (a + 1) k = .ok (x, a + 1 + u1.length) := by
    unfold arg1R
    unfold aMay at ha
    simp only at ha hu1
    by_cases hl : 0 ≤ (limR k).1
    · rw [if_pos hl] at ha hu1
      simp only [Bool.and_eq_true, decide_eq_true_eq] at ha
      obtain ⟨z, u', rfl, hz, hu'⟩ := same_cons hu1
      have : u' = [] := by cases u' with | nil => rfl | cons _ _ => simp [sameL] at hu'
      subst this
      rw [if_neg (by omega), arg_back hd1 hz ha.1 ha.2]; rfl
    · rw [if_neg hl] at ha hu1
      simp only [decide_eq_true_eq] at ha
      have : u1 = [] := by cases u1 with | nil => rfl | cons _ _ => simp [sameL] at hu1
      subst this
      rw [if_pos (by omega), ha]; rfl
  have e2 : arg2R L (a + 1 + u1.length) k = .ok (y, a + 1 + u1.length + u2.length) := by
    unfold arg2R
    unfold bMay at hb
    simp only at hb hu2
    by_cases hl : k = 5
    · rw [if_pos hl] at hb hu2
      simp only [Bool.and_eq_true, decide_eq_true_eq] at hb
      obtain ⟨z, u', rfl, hz, hu'⟩ := same_cons hu2
      have : u' = [] := by cases u' with | nil => rfl | cons _ _ => simp [sameL] at hu'
      subst this
      rw [if_pos hl, arg_back hd2 hz hb.1 hb.2]; rfl
    · rw [if_neg hl] at hb hu2
      simp only [decide_eq_true_eq] at hb
      have : u2 = [] := by cases u2 with | nil => rfl | cons _ _ => simp [sameL] at hu2
      subst this
      rw [if_neg hl, hb]; rfl
  unfold opR
  simp only [e1, e2]
  rw [is_at hd3, s31, s32]
  simp only [decide_true, Bool.and_self, if_true, List.length_cons, List.length_append, List.length_nil]
  rw [show a + 1 + u1.length + u2.length + 1 = a + (u1.length + (u2.length + (0 + 1)) + 1) by omega]
theorem ops_back : ∀ (ops : List Opn) (n : Nat) (a : Nat) (done : List Opn) (L ws r : List Wd), ops.all opMay = true → L.drop a = ws ++ r → sameL ws (ops.flatMap opW ++ [(3, [125], 0, 0)]) → done.length + ops.length ≤ 12 → 0 < done.length + ops.length → ops.length < n →
    opsR L n a done = .ok (done ++ ops, a + ws.length)
  | [], n + 1, a, done, L, ws, r, _, hd, hs, _, h0, _ => by
    obtain ⟨w, ws', rfl, hw, hs'⟩ := same_cons hs
    have : ws' = [] := by cases ws' with | nil => rfl | cons _ _ => simp [sameL] at hs'
    subst this
    obtain ⟨w1, w2, _⟩ := hw
    simp only at w1 w2
    have hne : done ≠ [] := by rintro rfl; simp at h0
    rw [opsR, is_at (r := r) (by simpa using hd), w1, w2]
    simp [hne]
  | o :: ops, n + 1, a, done, L, ws, r, ha, hd, hs, hl, h0, hn => by
    simp only [List.all_cons, Bool.and_eq_true] at ha
    rw [List.flatMap_cons, List.append_assoc] at hs
    obtain ⟨u, v, rfl, hu, hv⟩ := same_app hs
    rw [List.append_assoc] at hd
    obtain ⟨k0, k1, k2, k3⟩ := op_back ha.1 hd hu
    simp only [List.length_cons] at hl h0 hn
    rw [opsR, k2, if_neg (by simp), if_neg k0, if_neg (by omega), k1, k3]
    simp only
    rw [ops_back ops n _ (done ++ [o]) L v r ha.2 (at_more hd) hv (by simp; omega) (by simp; omega) (by omega)]
    simp [Nat.add_assoc]
/-- A program's words are parsed to it, wherever they lie. -/
theorem parse_back {p : Prg} (hp : mayR p = true) {L ws r : List Wd} {a : Nat} (hd : L.drop a = ws ++ r) (hs : sameL ws (wordsR p)) (hL : a ≤ L.length) : parseR L a = (p, ((a + ws.length : Nat) : Int), 0) := by
  obtain ⟨f, ops⟩ := p
  simp only [mayR, Bool.and_eq_true, decide_eq_true_eq] at hp
  obtain ⟨h0, h12, hall⟩ := hp
  obtain ⟨w0, ws1, rfl, s0, hs1⟩ := same_cons hs
  obtain ⟨u, ws2, rfl, hu, hs2⟩ := same_app hs1
  obtain ⟨w1, v, rfl, s1, hs3⟩ := same_cons hs2
  obtain ⟨s01, s02, _⟩ := s0
  obtain ⟨s11, s12, _⟩ := s1
  simp only at s01 s02 s11 s12
  have hd0 : L.drop a = w0 :: (u ++ (w1 :: (v ++ r))) := by rw [hd]; simp
  have hd1 := at_next hd0
  have hd2 := at_more hd1
  have hd3 := at_next hd2
  have eo : openR L (a + 1) = (f, a + 1 + u.length) := by
    unfold openR
    simp only at hu
    cases f with
    | true =>
      obtain ⟨z, u', rfl, ⟨z1, z2, _⟩, hu'⟩ := same_cons hu
      have : u' = [] := by cases u' with | nil => rfl | cons _ _ => simp [sameL] at hu'
      subst this
      simp only at z1 z2
      rw [is_at hd1, z1, z2]
      simp
    | false =>
      have : u = [] := by cases u with | nil => rfl | cons _ _ => simp [sameL] at hu
      subst this
      rw [is_at (by simpa using hd1), s11]
      rfl
  unfold parseR
  rw [if_neg (by omega), Int.toNat_natCast, is_at hd0, s01, s02, eo]
  simp only [is_at hd2, s11, s12]
  rw [ops_back ops 13 (a + 1 + u.length + 1) [] L v r hall hd3 hs3 (by simpa using h12) (by simpa using h0) (by omega)]
  simp
  omega
theorem arg1_may {L : List Wd} {a a1 : Nat} {k x y : Int} (h : arg1R L a k = .ok (x, a1)) : aMay (k, x, y) = true := by
  unfold arg1R at h
  unfold aMay
  simp only
  split at h
  · next hl =>
    simp only [Except.ok.injEq, Prod.mk.injEq] at h
    rw [if_neg (by omega), ← h.1]; rfl
  · next hl =>
    rw [if_pos (by omega)]
    unfold argR at h
    split at h
    · split at h
      · split at h
        · cases h
        · simp only [Except.ok.injEq, Prod.mk.injEq] at h
          simp only [Bool.and_eq_true, decide_eq_true_eq]
          omega
      · cases h
    · cases h
theorem arg2_may {L : List Wd} {a a1 : Nat} {k x y : Int} (h : arg2R L a k = .ok (y, a1)) : bMay (k, x, y) = true := by
  unfold arg2R at h
  unfold bMay
  simp only
  split at h
  · next hl =>
    rw [if_pos hl]
    unfold argR at h
    split at h
    · split at h
      · split at h
        · cases h
        · simp only [Except.ok.injEq, Prod.mk.injEq] at h
          simp only [Bool.and_eq_true, decide_eq_true_eq]
          omega
      · cases h
    · cases h
  · next hl =>
    simp only [Except.ok.injEq, Prod.mk.injEq] at h
    rw [if_neg hl, ← h.1]; rfl
theorem op_may {L : List Wd} {a a2 : Nat} {k : Int} {o : Opn} (hk : nameR k ≠ []) (h : opR L a k = .ok (o, a2)) : opMay o = true := by
  unfold opR at h
  cases h1 : arg1R L a k with
  | error e => rw [h1] at h; cases h
  | ok x1 =>
    obtain ⟨x, a1⟩ := x1
    rw [h1] at h
    simp only at h
    cases h2 : arg2R L a1 k with
    | error e => rw [h2] at h; cases h
    | ok y1 =>
      obtain ⟨y, a3⟩ := y1
      rw [h2] at h
      simp only at h
      split at h
      · simp only [Except.ok.injEq, Prod.mk.injEq] at h
        rw [← h.1]
        unfold opMay
        rw [arg1_may h1, arg2_may h2]
        simp [hk]
      · cases h
theorem ops_may : ∀ (n a : Nat) (done : List Opn) (L : List Wd) (ops : List Opn) (b : Nat), done.all opMay = true → done.length ≤ 12 → opsR L n a done = .ok (ops, b) → ops.all opMay = true ∧ ops.length ≤ 12 ∧ 0 < ops.length
  | 0, a, done, L, ops, b, _, _, h => by cases h
  | n + 1, a, done, L, ops, b, hd, hl, h => by
    rw [opsR] at h
    split at h
    · split at h
      · cases h
      · next hne =>
        simp only [Except.ok.injEq, Prod.mk.injEq] at h
        rw [← h.1]
        exact ⟨hd, hl, by cases done with | nil => exact absurd rfl hne | cons _ _ => simp⟩
    · split at h
      · cases h
      · next hk =>
        split at h
        · cases h
        · next h12 =>
          cases ho : opR L (a + 1) (kindR L a) with
          | error e => rw [ho] at h; cases h
          | ok x =>
            obtain ⟨o, a2⟩ := x
            rw [ho] at h
            simp only at h
            exact ops_may n a2 (done ++ [o]) L ops b (by simp [hd, op_may (names_all hk (kind_le L a 11)) ho]) (by simp; omega) h
theorem arg_bad {L : List Wd} {a : Nat} {lo hi : Int} {e : Bad} (h : argR L a lo hi = .error e) : e.2 = 1 ∨ e.2 = 5 := by
  unfold argR at h
  split at h
  · split at h
    · split at h
      · cases h; exact Or.inl rfl
      · cases h
    · cases h; exact Or.inr rfl
  · cases h; exact Or.inr rfl
theorem op_bad {L : List Wd} {a : Nat} {k : Int} {e : Bad} (h : opR L a k = .error e) : e.2 = 1 ∨ e.2 = 5 := by
  unfold opR at h
  cases h1 : arg1R L a k with
  | error e1 =>
    rw [h1] at h; cases h
    unfold arg1R at h1
    split at h1
    · cases h1
    · exact arg_bad h1
  | ok x1 =>
    obtain ⟨x, a1⟩ := x1
    rw [h1] at h
    simp only at h
    cases h2 : arg2R L a1 k with
    | error e2 =>
      rw [h2] at h; cases h
      unfold arg2R at h2
      split at h2
      · exact arg_bad h2
      · cases h2
    | ok y1 =>
      obtain ⟨y, a3⟩ := y1
      rw [h2] at h
      simp only at h
      split at h
      · cases h
      · cases h; exact Or.inr rfl
theorem ops_bad : ∀ (n a : Nat) (done : List Opn) (L : List Wd) (e : Bad), opsR L n a done = .error e → e.2 ≠ 0
  | 0, a, done, L, e, h => by cases h; simp
  | n + 1, a, done, L, e, h => by
    rw [opsR] at h
    split at h
    · split at h
      · cases h; simp
      · cases h
    · split at h
      · cases h; simp
      · split at h
        · cases h; simp
        · cases ho : opR L (a + 1) (kindR L a) with
          | error e1 =>
            rw [ho] at h
            cases h
            rcases op_bad ho with h | h <;> rw [h] <;> decide
          | ok x =>
            obtain ⟨o, a2⟩ := x
            rw [ho] at h
            exact ops_bad n a2 (done ++ [o]) L e h
/-- What is parsed may be. -/
theorem parse_may {L : List Wd} {a : Int} (h : (parseR L a).2.2 = 0) : mayR (parseR L a).1 = true := by
  unfold parseR at h ⊢
  split at h
  · cases h
  · next h1 =>
    rw [if_neg h1]
    split at h
    · cases h
    · next h2 =>
      rw [if_neg h2]
      split at h
      · cases h
      · next h3 =>
        rw [if_neg h3]
        cases ho : opsR L 13 ((openR L (a.toNat + 1)).2 + 1) [] with
        | error e =>
          rw [ho] at h
          exact absurd h (ops_bad _ _ _ _ _ ho)
        | ok x =>
          obtain ⟨ops, n⟩ := x
          obtain ⟨k1, k2, k3⟩ := ops_may 13 _ [] L ops n (by rfl) (by simp) ho
          simp [mayR, k1, k2, k3]
end Go.Proofs.YtmcfjlkjijaflaaDoor

/- What layer 10's awake asks, plainly. No program. (Made by gen_awake.py.) -/
namespace Go.Proofs.YtmcfjlkjijaflaaDoor

def pw1 : List Wd := [(1, [112, 114, 111, 103], 0, 0), (1, [102, 111, 114, 101, 118, 101, 114], 0, 5), (3, [123], 0, 13), (1, [108, 111, 99, 107], 0, 15), (2, [], 0, 20), (3, [59], 0, 21), (1, [99, 111, 109, 112, 117, 116, 101], 0, 23), (2, [], 2, 31), (3, [59], 0, 32), (1, [117, 110, 108, 111, 99, 107], 0, 34), (2, [], 0, 41), (3, [59], 0, 42), (3, [125], 0, 44), (1, [120], 0, 46)]
def pp1 : Prg := (true, [(2, 0, 0), (1, 2, 0), (6, 0, 0)])
abbrev pt1 : List By := [112, 114, 111, 103, 32, 102, 111, 114, 101, 118, 101, 114, 32, 123, 32, 108, 111, 99, 107, 32, 48, 59, 32, 99, 111, 109, 112, 117, 116, 101, 32, 50, 59, 32, 117, 110, 108, 111, 99, 107, 32, 48, 59, 32, 125]
theorem pw_scan : scanA [112, 114, 111, 103, 32, 102, 111, 114, 101, 118, 101, 114, 32, 123, 32, 108, 111, 99, 107, 32, 48, 59, 32, 99, 111, 109, 112, 117, 116, 101, 32, 50, 59, 32, 117, 110, 108, 111, 99, 107, 32, 48, 59, 32, 125, 32, 120] = (pw1, 0, 0) := by
  have e1 : oneR 112 [114, 111, 103, 32, 102, 111, 114, 101, 118, 101, 114, 32, 123, 32, 108, 111, 99, 107, 32, 48, 59, 32, 99, 111, 109, 112, 117, 116, 101, 32, 50, 59, 32, 117, 110, 108, 111, 99, 107, 32, 48, 59, 32, 125, 32, 120] 0 = ((1, [112, 114, 111, 103], 0, 0), 3, true) := by decide +kernel
  have e2 : oneR 102 [111, 114, 101, 118, 101, 114, 32, 123, 32, 108, 111, 99, 107, 32, 48, 59, 32, 99, 111, 109, 112, 117, 116, 101, 32, 50, 59, 32, 117, 110, 108, 111, 99, 107, 32, 48, 59, 32, 125, 32, 120] 5 = ((1, [102, 111, 114, 101, 118, 101, 114], 0, 5), 6, true) := by decide +kernel
  have e3 : oneR 123 [32, 108, 111, 99, 107, 32, 48, 59, 32, 99, 111, 109, 112, 117, 116, 101, 32, 50, 59, 32, 117, 110, 108, 111, 99, 107, 32, 48, 59, 32, 125, 32, 120] 13 = ((3, [123], 0, 13), 0, true) := by decide +kernel
  have e4 : oneR 108 [111, 99, 107, 32, 48, 59, 32, 99, 111, 109, 112, 117, 116, 101, 32, 50, 59, 32, 117, 110, 108, 111, 99, 107, 32, 48, 59, 32, 125, 32, 120] 15 = ((1, [108, 111, 99, 107], 0, 15), 3, true) := by decide +kernel
  have e5 : oneR 48 [59, 32, 99, 111, 109, 112, 117, 116, 101, 32, 50, 59, 32, 117, 110, 108, 111, 99, 107, 32, 48, 59, 32, 125, 32, 120] 20 = ((2, [], 0, 20), 0, true) := by decide +kernel
  have e6 : oneR 59 [32, 99, 111, 109, 112, 117, 116, 101, 32, 50, 59, 32, 117, 110, 108, 111, 99, 107, 32, 48, 59, 32, 125, 32, 120] 21 = ((3, [59], 0, 21), 0, true) := by decide +kernel
  have e7 : oneR 99 [111, 109, 112, 117, 116, 101, 32, 50, 59, 32, 117, 110, 108, 111, 99, 107, 32, 48, 59, 32, 125, 32, 120] 23 = ((1, [99, 111, 109, 112, 117, 116, 101], 0, 23), 6, true) := by decide +kernel
  have e8 : oneR 50 [59, 32, 117, 110, 108, 111, 99, 107, 32, 48, 59, 32, 125, 32, 120] 31 = ((2, [], 2, 31), 0, true) := by decide +kernel
  have e9 : oneR 59 [32, 117, 110, 108, 111, 99, 107, 32, 48, 59, 32, 125, 32, 120] 32 = ((3, [59], 0, 32), 0, true) := by decide +kernel
  have e10 : oneR 117 [110, 108, 111, 99, 107, 32, 48, 59, 32, 125, 32, 120] 34 = ((1, [117, 110, 108, 111, 99, 107], 0, 34), 5, true) := by decide +kernel
  have e11 : oneR 48 [59, 32, 125, 32, 120] 41 = ((2, [], 0, 41), 0, true) := by decide +kernel
  have e12 : oneR 59 [32, 125, 32, 120] 42 = ((3, [59], 0, 42), 0, true) := by decide +kernel
  have e13 : oneR 125 [32, 120] 44 = ((3, [125], 0, 44), 0, true) := by decide +kernel
  have e14 : oneR 120 [] 46 = ((1, [120], 0, 46), 0, true) := by decide +kernel
  have h : scanR [112, 114, 111, 103, 32, 102, 111, 114, 101, 118, 101, 114, 32, 123, 32, 108, 111, 99, 107, 32, 48, 59, 32, 99, 111, 109, 112, 117, 116, 101, 32, 50, 59, 32, 117, 110, 108, 111, 99, 107, 32, 48, 59, 32, 125, 32, 120] 0 false = .ok pw1 := by
    rw [scan_word (by decide) (by decide) _ _ _ (by rw [e1]; decide), e1]
    simp only [List.drop_succ_cons, List.drop_zero]
    rw [scan_blank (by decide)]
    rw [scan_word (by decide) (by decide) _ _ _ (by rw [e2]; decide), e2]
    simp only [List.drop_succ_cons, List.drop_zero]
    rw [scan_blank (by decide)]
    rw [scan_word (by decide) (by decide) _ _ _ (by rw [e3]; decide), e3]
    simp only [List.drop_zero]
    rw [scan_blank (by decide)]
    rw [scan_word (by decide) (by decide) _ _ _ (by rw [e4]; decide), e4]
    simp only [List.drop_succ_cons, List.drop_zero]
    rw [scan_blank (by decide)]
    rw [scan_word (by decide) (by decide) _ _ _ (by rw [e5]; decide), e5]
    simp only [List.drop_zero]
    rw [scan_word (by decide) (by decide) _ _ _ (by rw [e6]; decide), e6]
    simp only [List.drop_zero]
    rw [scan_blank (by decide)]
    rw [scan_word (by decide) (by decide) _ _ _ (by rw [e7]; decide), e7]
    simp only [List.drop_succ_cons, List.drop_zero]
    rw [scan_blank (by decide)]
    rw [scan_word (by decide) (by decide) _ _ _ (by rw [e8]; decide), e8]
    simp only [List.drop_zero]
    rw [scan_word (by decide) (by decide) _ _ _ (by rw [e9]; decide), e9]
    simp only [List.drop_zero]
    rw [scan_blank (by decide)]
    rw [scan_word (by decide) (by decide) _ _ _ (by rw [e10]; decide), e10]
    simp only [List.drop_succ_cons, List.drop_zero]
    rw [scan_blank (by decide)]
    rw [scan_word (by decide) (by decide) _ _ _ (by rw [e11]; decide), e11]
    simp only [List.drop_zero]
    rw [scan_word (by decide) (by decide) _ _ _ (by rw [e12]; decide), e12]
    simp only [List.drop_zero]
    rw [scan_blank (by decide)]
    rw [scan_word (by decide) (by decide) _ _ _ (by rw [e13]; decide), e13]
    simp only [List.drop_zero]
    rw [scan_blank (by decide)]
    rw [scan_word (by decide) (by decide) _ _ _ (by rw [e14]; decide), e14]
    simp only [List.drop_zero]
    rw [scan_nil]
    rfl
  unfold scanA
  rw [if_neg (by decide), h]
theorem pp_parse : parseR pw1 0 = (pp1, 13, 0) := by decide +kernel
theorem pp_parse1 : parseR pw1 1 = ((false, []), 1, 5) := by decide +kernel
theorem pp_may : mayR pp1 = true := by decide +kernel
theorem pp_words : wordsR pp1 = [(1, [112, 114, 111, 103], 0, 0), (1, [102, 111, 114, 101, 118, 101, 114], 0, 0), (3, [123], 0, 0), (1, [108, 111, 99, 107], 0, 0), (2, [], 0, 0), (3, [59], 0, 0), (1, [99, 111, 109, 112, 117, 116, 101], 0, 0), (2, [], 2, 0), (3, [59], 0, 0), (1, [117, 110, 108, 111, 99, 107], 0, 0), (2, [], 0, 0), (3, [59], 0, 0), (3, [125], 0, 0)] := by decide +kernel
theorem pp_join : joinA (wordsR pp1) = (pt1, 0) := by
  have t0 : textR (1, [112, 114, 111, 103], 0, 0) = some [112, 114, 111, 103] := by decide +kernel
  have t1 : textR (1, [102, 111, 114, 101, 118, 101, 114], 0, 0) = some [102, 111, 114, 101, 118, 101, 114] := by decide +kernel
  have t2 : textR (3, [123], 0, 0) = some [123] := by decide +kernel
  have t3 : textR (1, [108, 111, 99, 107], 0, 0) = some [108, 111, 99, 107] := by decide +kernel
  have t4 : textR (2, [], 0, 0) = some [48] := by
    unfold textR
    rw [if_pos rfl, if_pos (by decide), show (0 : Int).toNat = 0 from rfl, digits_small (by decide)]
    rfl
  have t5 : textR (3, [59], 0, 0) = some [59] := by decide +kernel
  have t6 : textR (1, [99, 111, 109, 112, 117, 116, 101], 0, 0) = some [99, 111, 109, 112, 117, 116, 101] := by decide +kernel
  have t7 : textR (2, [], 2, 0) = some [50] := by
    unfold textR
    rw [if_pos rfl, if_pos (by decide), show (2 : Int).toNat = 2 from rfl, digits_small (by decide)]
    rfl
  have t9 : textR (1, [117, 110, 108, 111, 99, 107], 0, 0) = some [117, 110, 108, 111, 99, 107] := by decide +kernel
  have t12 : textR (3, [125], 0, 0) = some [125] := by decide +kernel
  have h : joinF (wordsR pp1) [] = some pt1 := by
    rw [pp_words]
    simp only [joinF, t0, t1, t2, t3, t4, t5, t6, t7, t9, t12]
    decide +kernel
  unfold joinA
  rw [h]
  decide
theorem pp_name : nameR 1 = [99, 111, 109, 112, 117, 116, 101] := by decide +kernel
end Go.Proofs.YtmcfjlkjijaflaaDoor
