/-
  Scripts, cut into words: the plain functions, and what is joined is scanned again. No program.
-/
import Derived.Lib.Hide
namespace Go.Proofs.Ytmcfjlkjijaflaa

/-- A byte; a word: its kind, its text, its number, its place. -/
abbrev By := UInt8
abbrev Wd := Int × List By × Int × Int
def isLet (c : By) : Bool := decide (97 ≤ c.toNat) && decide (c.toNat ≤ 122)
def isDig (c : By) : Bool := decide (48 ≤ c.toNat) && decide (c.toNat ≤ 57)
def isMk (c : By) : Bool := decide (c.toNat = 123) || (decide (c.toNat = 125) || (decide (c.toNat = 59) || (decide (c.toNat = 46) || decide (c.toNat = 61))))
def isBl (c : By) : Bool := decide (c.toNat = 32) || (decide (c.toNat = 9) || decide (c.toNat = 10))
def not10 (c : By) : Bool := !decide (c.toNat = 10)
/-- What digits come to. -/
def numR (l : List By) : Nat := l.foldl (fun n c => n * 10 + (c.toNat - 48)) 0
/-- The word that begins with c, how many bytes it has behind c, and whether it is one. -/
def oneR (c : By) (t : List By) (p : Nat) : Wd × Nat × Bool :=
  if isLet c then ((1, c :: t.takeWhile isLet, 0, p), (t.takeWhile isLet).length, decide ((t.takeWhile isLet).length < 12))
  else if isDig c then ((2, [], numR ((c :: t.takeWhile isDig).take 9), p), (t.takeWhile isDig).length, decide ((t.takeWhile isDig).length < 9) && (!decide (c.toNat = 48) || decide ((t.takeWhile isDig).length = 0)))
  else ((3, [c], 0, p), 0, isMk c)
def prepR (ws : List Wd) : Except Nat (List Wd) → Except Nat (List Wd)
  | .ok l => .ok (ws ++ l)
  | .error p => .error p
theorem prepR_prepR (a b : List Wd) (r : Except Nat (List Wd)) : prepR a (prepR b r) = prepR (a ++ b) r := by
  cases r <;> simp [prepR]
theorem prepR_nil (r : Except Nat (List Wd)) : prepR [] r = r := by cases r <;> rfl
/-- All words from place p on; adj: a name or a number ends just here. -/
def scanR (l : List By) (p : Nat) (adj : Bool) : Except Nat (List Wd) :=
  match l with
  | [] => .ok []
  | c :: t =>
    if isBl c then scanR t (p + 1) false
    else if c.toNat = 35 then scanR (t.dropWhile not10) (p + 1 + (t.takeWhile not10).length) false
    else if (!(oneR c t p).2.2 || (adj && !decide ((oneR c t p).1.1 = 3))) then .error p
    else prepR [(oneR c t p).1] (scanR (t.drop (oneR c t p).2.1) (p + 1 + (oneR c t p).2.1) (!decide ((oneR c t p).1.1 = 3)))
termination_by l.length
decreasing_by
  all_goals simp_wf
  · have := (List.dropWhile_sublist (l := t) not10).length_le
    omega
  · omega
theorem scan_nil (p : Nat) (adj : Bool) : scanR [] p adj = .ok [] := by rw [scanR]
theorem scan_blank {c : By} (h : isBl c = true) (t : List By) (p : Nat) (adj : Bool) : scanR (c :: t) p adj = scanR t (p + 1) false := by rw [scanR, if_pos h]
theorem scan_remark {c : By} (h0 : isBl c = false) (h : c.toNat = 35) (t : List By) (p : Nat) (adj : Bool) : scanR (c :: t) p adj = scanR (t.dropWhile not10) (p + 1 + (t.takeWhile not10).length) false := by
  rw [scanR, if_neg (by simp [h0]), if_pos h]
theorem scan_bad {c : By} (h0 : isBl c = false) (h1 : ¬ c.toNat = 35) (t : List By) (p : Nat) (adj : Bool) (h : (!(oneR c t p).2.2 || (adj && !decide ((oneR c t p).1.1 = 3))) = true) : scanR (c :: t) p adj = .error p := by
  rw [scanR, if_neg (by simp [h0]), if_neg h1, if_pos h]
theorem scan_word {c : By} (h0 : isBl c = false) (h1 : ¬ c.toNat = 35) (t : List By) (p : Nat) (adj : Bool) (h : (!(oneR c t p).2.2 || (adj && !decide ((oneR c t p).1.1 = 3))) = false) :
    scanR (c :: t) p adj = prepR [(oneR c t p).1] (scanR (t.drop (oneR c t p).2.1) (p + 1 + (oneR c t p).2.1) (!decide ((oneR c t p).1.1 = 3))) := by
  rw [scanR, if_neg (by simp [h0]), if_neg h1, if_neg (by simp [h])]

theorem take_end {q : By → Bool} : ∀ {t r : List By}, (∀ c ∈ t, q c = true) → (r = [] ∨ ∃ c r', r = c :: r' ∧ q c = false) → (t ++ r).takeWhile q = t
  | [], r, _, h => by
    rcases h with rfl | ⟨c, r', rfl, h⟩
    · rfl
    · simp [h]
  | c :: t, r, ha, h => by
    simp only [List.cons_append, List.takeWhile_cons, ha c (by simp), if_true]
    rw [take_end (fun x hx => ha x (by simp [hx])) h]
theorem takeWhile_all {q : By → Bool} : ∀ (t : List By), ∀ c ∈ t.takeWhile q, q c = true
  | [], c, h => by simp at h
  | a :: t, c, h => by
    simp only [List.takeWhile_cons] at h
    split at h
    · rcases List.mem_cons.1 h with rfl | h
      · assumption
      · exact takeWhile_all t c h
    · simp at h

/-- Blanks behind a text change nothing. -/
theorem takeWhile_blanks {q : By → Bool} (hq : q 32 = false) (k : Nat) : ∀ t : List By, (t ++ List.replicate k 32).takeWhile q = t.takeWhile q
  | [] => by cases k <;> simp [List.replicate_succ, hq]
  | c :: t => by
    simp only [List.cons_append, List.takeWhile_cons]
    rw [takeWhile_blanks hq k t]
theorem scan_blanks (p : Nat) (adj : Bool) : ∀ k, scanR (List.replicate k 32) p adj = .ok []
  | 0 => scan_nil _ _
  | k + 1 => by
    rw [List.replicate_succ, scan_blank (by decide)]
    exact scan_blanks (p + 1) false k
theorem drop_blanks : ∀ k, (List.replicate k (32 : By)).dropWhile not10 = []
  | 0 => rfl
  | k + 1 => by
    rw [List.replicate_succ, List.dropWhile_cons, if_pos (by decide)]
    exact drop_blanks k
theorem dropWhile_blanks (k : Nat) : ∀ t : List By, ((t ++ List.replicate k 32).dropWhile not10 = t.dropWhile not10 ++ List.replicate k 32 ∧ (t ++ List.replicate k 32).takeWhile not10 = t.takeWhile not10) ∨ (t.dropWhile not10 = [] ∧ (t ++ List.replicate k 32).dropWhile not10 = [])
  | [] => .inr ⟨rfl, by rw [List.nil_append]; exact drop_blanks k⟩
  | c :: t => by
    simp only [List.cons_append, List.dropWhile_cons, List.takeWhile_cons]
    split
    · rcases dropWhile_blanks k t with ⟨h1, h2⟩ | h
      · exact .inl ⟨h1, by rw [h2]⟩
      · exact .inr h
    · exact .inl ⟨rfl, rfl⟩
theorem one_blanks (c : By) (t : List By) (p k : Nat) : oneR c (t ++ List.replicate k 32) p = oneR c t p := by
  unfold oneR
  rw [takeWhile_blanks (by decide), takeWhile_blanks (by decide)]
theorem one_le (c : By) (t : List By) (p : Nat) : (oneR c t p).2.1 ≤ t.length := by
  unfold oneR
  split
  · exact (List.takeWhile_sublist _).length_le
  · split
    · exact (List.takeWhile_sublist _).length_le
    · exact Nat.zero_le _
theorem scan_more (k : Nat) : ∀ (n : Nat) (l : List By) (p : Nat) (adj : Bool), l.length ≤ n → scanR (l ++ List.replicate k 32) p adj = scanR l p adj
  | _, [], p, adj, _ => by rw [List.nil_append, scan_blanks, scan_nil]
  | 0, _ :: _, _, _, h => by simp at h
  | n + 1, c :: t, p, adj, h => by
    simp only [List.length_cons] at h
    rw [List.cons_append]
    cases h0 : isBl c with
    | true => rw [scan_blank h0, scan_blank h0, scan_more k n t _ _ (by omega)]
    | false =>
      by_cases h1 : c.toNat = 35
      · rw [scan_remark h0 h1, scan_remark h0 h1]
        have hd := (List.dropWhile_sublist (l := t) not10).length_le
        rcases dropWhile_blanks k t with ⟨e, e'⟩ | ⟨e1, e2⟩
        · rw [e, e', scan_more k n _ _ _ (by omega)]
        · rw [e1, e2, scan_nil, scan_nil]
      · cases hb : (!(oneR c t p).2.2 || (adj && !decide ((oneR c t p).1.1 = 3))) with
        | true => rw [scan_bad h0 h1 t p adj hb, scan_bad h0 h1 _ p adj (by rw [one_blanks]; exact hb)]
        | false =>
          have hl := one_le c t p
          rw [scan_word h0 h1 t p adj hb, scan_word h0 h1 _ p adj (by rw [one_blanks]; exact hb), one_blanks, List.drop_append_of_le_length hl, scan_more k n _ _ _ (by rw [List.length_drop]; omega)]

/-- The digits of a number. -/
def digitsR (n : Nat) : List By := if n < 10 then [UInt8.ofNat (48 + n)] else digitsR (n / 10) ++ [UInt8.ofNat (48 + n % 10)]
termination_by n
decreasing_by omega
theorem digit_nat {d : Nat} (h : d < 10) : (UInt8.ofNat (48 + d)).toNat = 48 + d := by
  simp [UInt8.toNat_ofNat']
  omega
theorem digits_small {n : Nat} (h : n < 10) : digitsR n = [UInt8.ofNat (48 + n)] := by rw [digitsR, if_pos h]
theorem digits_great {n : Nat} (h : ¬ n < 10) : digitsR n = digitsR (n / 10) ++ [UInt8.ofNat (48 + n % 10)] := by rw [digitsR, if_neg h]
theorem digits_all (n : Nat) : ∀ c ∈ digitsR n, isDig c = true := by
  intro c hc
  by_cases h : n < 10
  · rw [digits_small h] at hc
    obtain rfl := List.mem_singleton.1 hc
    simp [isDig]
    omega
  · rw [digits_great h] at hc
    rcases List.mem_append.1 hc with hc | hc
    · exact digits_all (n / 10) c hc
    · obtain rfl := List.mem_singleton.1 hc
      have := Nat.mod_lt n (show 0 < 10 by omega)
      simp [isDig]
      omega
termination_by n
decreasing_by omega
theorem numR_snoc (l : List By) (c : By) : numR (l ++ [c]) = numR l * 10 + (c.toNat - 48) := by simp [numR, List.foldl_append]
theorem num_digits (n : Nat) : numR (digitsR n) = n := by
  by_cases h : n < 10
  · rw [digits_small h]
    simp [numR]
    omega
  · rw [digits_great h, numR_snoc, num_digits (n / 10), digit_nat (Nat.mod_lt n (by omega))]
    omega
termination_by n
decreasing_by omega
/-- How many digits; the first one. -/
theorem digits_form (n : Nat) : ∃ c t, digitsR n = c :: t ∧ (c.toNat = 48 → t = [] ∧ n = 0) := by
  by_cases h : n < 10
  · exact ⟨_, [], digits_small h, fun hc => by rw [digit_nat h] at hc; exact ⟨rfl, by omega⟩⟩
  · obtain ⟨c, t, e, hc⟩ := digits_form (n / 10)
    refine ⟨c, t ++ [UInt8.ofNat (48 + n % 10)], by rw [digits_great h, e]; rfl, fun h0 => ?_⟩
    have := (hc h0).2
    omega
termination_by n
decreasing_by omega
theorem digits_len : ∀ (k n : Nat), n < 10 ^ (k + 1) → (digitsR n).length ≤ k + 1
  | k, n, h => by
    by_cases h1 : n < 10
    · rw [digits_small h1]; simp
    · rw [digits_great h1, List.length_append]
      cases k with
      | zero => simp at h; omega
      | succ k =>
        have := digits_len k (n / 10) (by rw [Nat.pow_succ] at h; omega)
        simp
        omega

/-- A word as it stands in a script; none: it may not be one. -/
def textR (w : Wd) : Option (List By) :=
  if w.1 = 2 then if w.2.1 = [] ∧ 0 ≤ w.2.2.1 ∧ w.2.2.1 ≤ 999999999 then some (digitsR w.2.2.1.toNat) else none
  else if w.2.2.1 ≠ 0 then none
  else match w.2.1 with
    | [] => none
    | c :: t => if (w.1 = 1 ∨ w.1 = 3) ∧ (oneR c t 0).2.2 = true ∧ (oneR c t 0).2.1 = t.length ∧ (oneR c t 0).1.1 = w.1 then some (c :: t) else none
def placed (w : Wd) (p : Nat) : Wd := (w.1, w.2.1, w.2.2.1, (p : Int))
/-- What may stand behind a word of a kind. -/
def endsR (k : Int) (r : List By) : Prop := r = [] ∨ ∃ c r', r = c :: r' ∧ (k = 1 → isLet c = false) ∧ (k = 2 → isDig c = false)
theorem dig_let {c : By} (h : isDig c = true) : isLet c = false := by
  simp [isDig] at h
  simp [isLet]
  omega
theorem word_heads {c : By} (h : isLet c = true ∨ isDig c = true ∨ isMk c = true) : isBl c = false ∧ ¬ c.toNat = 35 := by
  rcases h with h | h | h
  · simp [isLet] at h
    refine ⟨by simp [isBl]; omega, by omega⟩
  · simp [isDig] at h
    refine ⟨by simp [isBl]; omega, by omega⟩
  · simp [isMk] at h
    refine ⟨by simp [isBl]; omega, by omega⟩
/-- A word that may be is read again. -/
theorem word_back {w : Wd} {s r : List By} (h : textR w = some s) (hr : endsR w.1 r) (p : Nat) : ∃ c t, s = c :: t ∧ oneR c (t ++ r) p = (placed w p, t.length, true) ∧ isBl c = false ∧ ¬ c.toNat = 35 := by
  obtain ⟨k, x, n, q⟩ := w
  simp only [textR] at h
  simp only at hr
  by_cases h2 : k = 2
  · subst h2
    rw [if_pos rfl] at h
    split at h
    · next hc =>
      obtain ⟨rfl, h0, h9⟩ := hc
      simp only [Option.some.injEq] at h
      obtain ⟨m, rfl⟩ := Int.eq_ofNat_of_zero_le h0
      rw [Int.toNat_natCast] at h
      obtain ⟨c, t, e, hz⟩ := digits_form m
      have hall := digits_all m
      have hlen := digits_len 8 m (by omega)
      have hnum := num_digits m
      rw [e] at h hall hlen hnum
      subst h
      have hcd := hall c (by simp)
      have htd : (t ++ r).takeWhile isDig = t := take_end (fun x hx => hall x (by simp [hx])) (by
        rcases hr with rfl | ⟨c', r', rfl, _, h2⟩
        · exact .inl rfl
        · exact .inr ⟨c', r', rfl, h2 rfl⟩)
      simp only [List.length_cons] at hlen
      refine ⟨c, t, rfl, ?_, word_heads (.inr (.inl hcd))⟩
      unfold oneR placed
      rw [if_neg (by simp [dig_let hcd]), if_pos hcd, htd, List.take_of_length_le (by simp; omega), hnum]
      have hb : (decide (t.length < 9) && (!decide (c.toNat = 48) || decide (t.length = 0))) = true := by
        by_cases hc0 : c.toNat = 48
        · obtain ⟨rfl, _⟩ := hz hc0
          simp
        · simp [hc0]; omega
      rw [hb]
    · cases h
  · rw [if_neg h2] at h
    split at h
    · cases h
    · next hn =>
      cases x with
      | nil => cases h
      | cons c t =>
        simp only at h
        split at h
        · next hc =>
          obtain ⟨hk, hok, hm, hkind⟩ := hc
          simp only [Option.some.injEq] at h
          subst h
          have hn0 : n = 0 := by simpa using hn
          subst hn0
          refine ⟨c, t, rfl, ?_⟩
          by_cases hl : isLet c = true
          · have e : oneR c t 0 = ((1, c :: t.takeWhile isLet, 0, ((0 : Nat) : Int)), (t.takeWhile isLet).length, decide ((t.takeWhile isLet).length < 12)) := by unfold oneR; rw [if_pos hl]
            rw [e] at hok hm hkind
            simp only at hok hm hkind
            subst hkind
            have htl : ∀ x ∈ t, isLet x = true := by
              have : t.takeWhile isLet = t := (List.takeWhile_sublist isLet).eq_of_length hm
              rw [← this]
              exact takeWhile_all t
            have htd : (t ++ r).takeWhile isLet = t := take_end htl (by
              rcases hr with rfl | ⟨c', r', rfl, h1, _⟩
              · exact .inl rfl
              · exact .inr ⟨c', r', rfl, h1 rfl⟩)
            refine ⟨?_, word_heads (.inl hl)⟩
            unfold oneR placed
            rw [if_pos hl, htd, ← hm, hok]
          · by_cases hd : isDig c = true
            · have e : (oneR c t 0).1.1 = 2 := by unfold oneR; rw [if_neg hl, if_pos hd]
              rw [e] at hkind
              exact absurd hkind.symm h2
            · have e : oneR c t 0 = ((3, [c], 0, ((0 : Nat) : Int)), 0, isMk c) := by unfold oneR; rw [if_neg hl, if_neg hd]
              rw [e] at hok hm hkind
              simp only at hok hm hkind
              subst hkind
              obtain rfl : t = [] := List.eq_nil_of_length_eq_zero hm.symm
              refine ⟨?_, word_heads (.inr (.inr hok))⟩
              unfold oneR placed
              rw [if_neg hl, if_neg hd, hok]
              rfl
        · cases h
end Go.Proofs.Ytmcfjlkjijaflaa
