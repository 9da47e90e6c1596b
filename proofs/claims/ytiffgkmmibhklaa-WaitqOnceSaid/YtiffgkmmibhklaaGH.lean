/-
  Binary heaps as lists: an open place that goes up and down, the places by number, what is taken and put. No program.
  Rows of items in any order: one taken out, one set; numbers that are apart. No program.
  What comes off a heap, one by one, as long as it is due. No program.
-/
import Derived.Test.YtiffgkmmibhklaaGA

/- Binary heaps as lists: an open place that goes up and down, the places by number, what is taken and put. No program. -/
namespace Go.Proofs.Ytiffgkmmibhklaa

/-- An item: when it is due, its number, its value. -/
abbrev Hm (α : Type) := Int × Int × α
section
variable {α : Type}

/-- The key at a place. -/
def keyN (L : List (Hm α)) (i : Nat) : Int × Int := match L[i]? with | some x => (x.1, x.2.1) | none => (0, 0)
abbrev keyOf' (x : Hm α) : Int × Int := (x.1, x.2.1)
/-- Is a due ahead of b? -/
def KLt (a b : Int × Int) : Prop := a.1 < b.1 ∨ a.1 = b.1 ∧ a.2 < b.2
instance (a b : Int × Int) : Decidable (KLt a b) := inferInstanceAs (Decidable (_ ∨ _))
theorem KLt.irr (a : Int × Int) : ¬ KLt a a := by unfold KLt; omega
theorem KLt.asym {a b : Int × Int} (h : KLt a b) : ¬ KLt b a := by unfold KLt at *; omega
theorem KLt.not_trans {a b c : Int × Int} (h : ¬ KLt a b) (g : ¬ KLt b c) : ¬ KLt a c := by unfold KLt at *; omega
theorem KLt.trans {a b c : Int × Int} (h : KLt a b) (g : KLt b c) : KLt a c := by unfold KLt at *; omega
theorem KLt.of_not {a b : Int × Int} (h : ¬ KLt a b) (hne : a ≠ b) : KLt b a := by
  unfold KLt at *
  have : ¬ (a.1 = b.1 ∧ a.2 = b.2) := fun e => hne (Prod.ext e.1 e.2)
  omega

theorem keyN_at {L : List (Hm α)} {i : Nat} (h : i < L.length) : keyN L i = (L[i].1, L[i].2.1) := by simp [keyN, h]
theorem keyN_set {L : List (Hm α)} {i j : Nat} {x : Hm α} (hi : i < L.length) : keyN (L.set i x) j = if j = i then (x.1, x.2.1) else keyN L j := by
  unfold keyN
  rw [List.getElem?_set]
  by_cases h : i = j
  · subst h; simp [hi]
  · simp [h, Ne.symm h]
theorem keyN_same {L : List (Hm α)} {i : Nat} {x : Hm α} (hi : i < L.length) : keyN (L.set i x) i = (x.1, x.2.1) := by rw [keyN_set hi, if_pos rfl]
theorem keyN_other {L : List (Hm α)} {i j : Nat} {x : Hm α} (hi : i < L.length) (h : j ≠ i) : keyN (L.set i x) j = keyN L j := by rw [keyN_set hi, if_neg h]

/-- The place above. -/
abbrev up (i : Nat) : Nat := (i - 1) / 2
/-- None comes ahead of the one above it. -/
def HeapOrd (L : List (Hm α)) : Prop := ∀ j, 0 < j → j < L.length → ¬ KLt (keyN L j) (keyN L (up j))
/-- .. but for an open place. -/
structure HoleOrd (L : List (Hm α)) (h : Nat) : Prop where
  lt : h < L.length
  ord : ∀ j, 0 < j → j < L.length → j ≠ h → up j ≠ h → ¬ KLt (keyN L j) (keyN L (up j))
  over : ∀ j, 0 < j → j < L.length → up j = h → 0 < h → ¬ KLt (keyN L j) (keyN L (up h))

theorem HeapOrd.hole {L : List (Hm α)} (o : HeapOrd L) {h : Nat} (hl : h < L.length) : HoleOrd L h := by
  refine ⟨hl, fun j h0 h1 _ _ => o j h0 h1, fun j h0 h1 hu hp => ?_⟩
  subst hu
  exact KLt.not_trans (o j h0 h1) (o _ hp hl)
theorem keyN_append_left {L M : List (Hm α)} {i : Nat} (h : i < L.length) : keyN (L ++ M) i = keyN L i := by
  simp [keyN, List.getElem?_append_left h]
theorem HeapOrd.grown {L : List (Hm α)} (o : HeapOrd L) (x : Hm α) : HoleOrd (L ++ [x]) L.length := by
  refine ⟨by simp, fun j h0 h1 h2 h3 => ?_, fun j h0 h1 hu hp => ?_⟩
  · simp only [List.length_append, List.length_cons, List.length_nil] at h1
    have hj : j < L.length := by omega
    have hu : up j < L.length := by unfold up; omega
    rw [keyN_append_left hj, keyN_append_left hu]
    exact o j h0 hj
  · simp only [List.length_append, List.length_cons, List.length_nil] at h1
    unfold up at hu
    omega
theorem keyN_take {L : List (Hm α)} {i k : Nat} (h : i < k) : keyN (L.take k) i = keyN L i := by
  simp [keyN, h]
theorem HeapOrd.cut {L : List (Hm α)} (o : HeapOrd L) (k : Nat) : HeapOrd (L.take k) := by
  intro j h0 h1
  rw [List.length_take] at h1
  have hu : up j < k := by unfold up; omega
  rw [keyN_take (by omega), keyN_take hu]
  exact o j h0 (by omega)

/-- The open place goes up. -/
theorem HoleOrd.rise {L : List (Hm α)} {h : Nat} (o : HoleOrd L h) (hp : 0 < h) {x : Hm α} (hx : (x.1, x.2.1) = keyN L (up h)) : HoleOrd (L.set h x) (up h) := by
  have hl := o.lt
  have hu : up h < h := by unfold up; omega
  refine ⟨by simp; omega, fun j h0 h1 h2 h3 => ?_, fun j h0 h1 h2 h3 => ?_⟩
  · rw [List.length_set] at h1
    by_cases e : j = h
    · subst e; exact absurd rfl h3
    · rw [keyN_other hl e]
      by_cases e2 : up j = h
      · rw [e2, keyN_same hl, hx]
        exact o.over j h0 h1 e2 hp
      · rw [keyN_other hl e2]
        exact o.ord j h0 h1 e e2
  · rw [List.length_set] at h1
    have hne : up (up h) ≠ h := by unfold up at *; omega
    have hne' : up h ≠ h := by omega
    have hg := o.ord (up h) h3 (by omega) hne' hne
    rw [keyN_other hl hne]
    by_cases e : j = h
    · subst e
      rw [keyN_same hl, hx]
      exact hg
    · rw [keyN_other hl e]
      exact KLt.not_trans (h2 ▸ o.ord j h0 h1 e (by rw [h2]; exact hne')) hg

/-- Of the places right below, the one of the item that comes first; itself, if there are none. -/
def lowN (L : List (Hm α)) (h : Nat) : Nat :=
  if L.length ≤ 2 * h + 1 then h else if L.length ≤ 2 * h + 2 ∨ KLt (keyN L (2 * h + 1)) (keyN L (2 * h + 2)) then 2 * h + 1 else 2 * h + 2
theorem lowN_lt {L : List (Hm α)} {h : Nat} (hl : h < L.length) : lowN L h < L.length := by
  unfold lowN
  split
  · exact hl
  · split <;> omega
theorem lowN_up {L : List (Hm α)} {h : Nat} (hne : lowN L h ≠ h) : up (lowN L h) = h ∧ h < lowN L h := by
  unfold lowN up at *
  split at hne
  · omega
  · rename_i h1
    rw [if_neg h1]
    split <;> omega
theorem lowN_least {L : List (Hm α)} {h j : Nat} (h0 : 0 < j) (h1 : j < L.length) (hu : up j = h) : lowN L h ≠ h ∧ ¬ KLt (keyN L j) (keyN L (lowN L h)) := by
  have hj : j = 2 * h + 1 ∨ j = 2 * h + 2 := by unfold up at hu; omega
  unfold lowN
  rw [if_neg (by omega)]
  split
  · rename_i hc
    refine ⟨by omega, ?_⟩
    rcases hj with rfl | rfl
    · exact KLt.irr _
    · rcases hc with hc | hc
      · omega
      · exact hc.asym
  · rename_i hc
    refine ⟨by omega, ?_⟩
    rcases hj with rfl | rfl
    · exact fun h => hc (.inr h)
    · exact KLt.irr _
/-- The open place goes down. -/
theorem HoleOrd.sink {L : List (Hm α)} {h : Nat} (o : HoleOrd L h) (hne : lowN L h ≠ h) {x : Hm α} (hx : (x.1, x.2.1) = keyN L (lowN L h)) : HoleOrd (L.set h x) (lowN L h) := by
  have hl := o.lt
  have hc := lowN_lt hl
  obtain ⟨hu, hgt⟩ := lowN_up hne
  refine ⟨by simp; exact hc, fun j h0 h1 h2 h3 => ?_, fun j h0 h1 h2 h3 => ?_⟩
  · rw [List.length_set] at h1
    by_cases e : j = h
    · subst e
      have hne2 : up j ≠ j := by unfold up; omega
      rw [keyN_same hl, keyN_other hl hne2, hx]
      exact o.over _ (by omega) hc hu h0
    · rw [keyN_other hl e]
      by_cases e2 : up j = h
      · rw [e2, keyN_same hl, hx]
        exact (lowN_least h0 h1 e2).2
      · rw [keyN_other hl e2]
        exact o.ord j h0 h1 e e2
  · rw [List.length_set] at h1
    have e : j ≠ h := by unfold up at h2 hu; omega
    rw [hu, keyN_other hl e, keyN_same hl, hx, ← h2]
    exact o.ord j h0 h1 e (by rw [h2]; omega)
/-- The item is put into the open place. -/
theorem HoleOrd.shut {L : List (Hm α)} {h : Nat} (o : HoleOrd L h) {x : Hm α} (hup : 0 < h → ¬ KLt (x.1, x.2.1) (keyN L (up h))) (hlow : lowN L h ≠ h → ¬ KLt (keyN L (lowN L h)) (x.1, x.2.1)) : HeapOrd (L.set h x) := by
  have hl := o.lt
  intro j h0 h1
  rw [List.length_set] at h1
  have hju : up j ≠ j := by unfold up; omega
  by_cases e : j = h
  · subst e
    rw [keyN_same hl, keyN_other hl hju]
    exact hup h0
  · rw [keyN_other hl e]
    by_cases e2 : up j = h
    · rw [e2, keyN_same hl]
      obtain ⟨h2, h3⟩ := lowN_least h0 h1 e2
      exact KLt.not_trans h3 (hlow h2)
    · rw [keyN_other hl e2]
      exact o.ord j h0 h1 e e2
/-- The first one is the least. -/
theorem HeapOrd.least {L : List (Hm α)} (o : HeapOrd L) : ∀ j, j < L.length → ¬ KLt (keyN L j) (keyN L 0) := by
  intro j
  induction j using Nat.strongRecOn with
  | _ j ih =>
    intro hj
    by_cases h0 : j = 0
    · subst h0; exact KLt.irr _
    · have hu : up j < j := by unfold up; omega
      exact KLt.not_trans (o j (by omega) hj) (ih _ hu (by omega))

/-! ### the places by number -/
/-- The places are those of all; of all but an open place's, x being the number of the one that is to come there. -/
structure PlaceOk (L : List (Hm α)) (f : Int → Option Int) : Prop where
  at_ : ∀ j (hj : j < L.length), f (L[j].2.1) = some (j : Int)
  all : ∀ i v, f i = some v → ∃ j, ∃ hj : j < L.length, L[j].2.1 = i
structure OpenOk (L : List (Hm α)) (h : Nat) (f : Int → Option Int) (x : Int) : Prop where
  at_ : ∀ j (hj : j < L.length), j ≠ h → f (L[j].2.1) = some (j : Int)
  all : ∀ i v, f i = some v → i ≠ x → ∃ j, ∃ hj : j < L.length, j ≠ h ∧ L[j].2.1 = i
  off : ∀ j (hj : j < L.length), j ≠ h → L[j].2.1 ≠ x
theorem PlaceOk.inj {L : List (Hm α)} {f : Int → Option Int} (p : PlaceOk L f) {i j : Nat} (hi : i < L.length) (hj : j < L.length) (h : L[i].2.1 = L[j].2.1) : i = j := by
  have := p.at_ i hi
  rw [h, p.at_ j hj] at this
  simp at this
  omega
theorem PlaceOk.place {L : List (Hm α)} {f : Int → Option Int} (p : PlaceOk L f) {i v : Int} (h : f i = some v) : ∃ j : Nat, ∃ hj : j < L.length, v = j ∧ L[j].2.1 = i := by
  obtain ⟨j, hj, hi⟩ := p.all i v h
  have := p.at_ j hj
  rw [hi, h] at this
  simp at this
  exact ⟨j, hj, this, hi⟩
theorem OpenOk.step {L : List (Hm α)} {h : Nat} {f : Int → Option Int} {x : Int} (p : OpenOk L h f x) (hl : h < L.length) {a : Nat} (ha : a < L.length) (hah : a ≠ h) :
    OpenOk (L.set h L[a]) a (updF f L[a].2.1 (some (h : Int))) x := by
  have hfa := p.at_ a ha hah
  refine ⟨fun j hj hja => ?_, fun i v hv hix => ?_, fun j hj hja => ?_⟩
  · rw [List.length_set] at hj
    rw [List.getElem_set]
    by_cases e : h = j
    · subst e
      rw [if_pos rfl, updF_same]
    · rw [if_neg e]
      have hfj := p.at_ j hj (Ne.symm e)
      rw [updF_other, hfj]
      intro he
      rw [he, hfa] at hfj
      simp at hfj
      omega
  · by_cases e : i = L[a].2.1
    · exact ⟨h, by simp; exact hl, Ne.symm hah, by simp [e]⟩
    · rw [updF_other e] at hv
      obtain ⟨j, hj, hjh, hji⟩ := p.all i v hv hix
      refine ⟨j, by simp; exact hj, ?_, ?_⟩
      · rintro rfl
        exact e hji.symm
      · rw [List.getElem_set, if_neg (Ne.symm hjh)]
        exact hji
  · rw [List.length_set] at hj
    rw [List.getElem_set]
    by_cases e : h = j
    · rw [if_pos e]
      exact p.off a ha hah
    · rw [if_neg e]
      exact p.off j hj (Ne.symm e)
theorem OpenOk.shut {L : List (Hm α)} {h : Nat} {f : Int → Option Int} {it : Hm α} (p : OpenOk L h f it.2.1) (hl : h < L.length) : PlaceOk (L.set h it) (updF f it.2.1 (some (h : Int))) := by
  refine ⟨fun j hj => ?_, fun i v hv => ?_⟩
  · rw [List.length_set] at hj
    rw [List.getElem_set]
    by_cases e : h = j
    · subst e
      rw [if_pos rfl, updF_same]
    · rw [if_neg e, updF_other (p.off j hj (Ne.symm e))]
      exact p.at_ j hj (Ne.symm e)
  · by_cases e : i = it.2.1
    · exact ⟨h, by simp; exact hl, by simp [e]⟩
    · rw [updF_other e] at hv
      obtain ⟨j, hj, hjh, hji⟩ := p.all i v hv e
      exact ⟨j, by simp; exact hj, by rw [List.getElem_set, if_neg (Ne.symm hjh)]; exact hji⟩

/-! ### both together: a heap that holds the items of M; one with an open place for 'it' -/
structure HeapOk (M L : List (Hm α)) (f : Int → Option Int) : Prop where
  ord : HeapOrd L
  place : PlaceOk L f
  perm : L.Perm M
structure HoleOk (it : Hm α) (M L : List (Hm α)) (h : Nat) (f : Int → Option Int) : Prop where
  ord : HoleOrd L h
  place : OpenOk L h f it.2.1
  perm : (L.set h it).Perm M
theorem set_swap_perm (L : List (Hm α)) (h a : Nat) (it : Hm α) (hl : h < L.length) (ha : a < L.length) (hne : a ≠ h) : ((L.set h L[a]).set a it).Perm (L.set h it) := by
  have h1 : h < (L.set h it).length := by simpa using hl
  have h2 : a < (L.set h it).length := by simpa using ha
  have := List.set_set_perm h1 h2
  have e1 : (L.set h it)[a] = L[a] := by rw [List.getElem_set, if_neg (Ne.symm hne)]
  have e2 : (L.set h it)[h] = it := by simp
  rw [e1, e2, List.set_set] at this
  exact this
theorem HoleOk.rise {it : Hm α} {M L : List (Hm α)} {h : Nat} {f : Int → Option Int} (o : HoleOk it M L h f) (hp : 0 < h) (ha : up h < L.length) :
    HoleOk it M (L.set h L[up h]) (up h) (updF f L[up h].2.1 (some (h : Int))) := by
  have hne : up h ≠ h := by unfold up; omega
  exact ⟨o.ord.rise hp (keyN_at ha).symm, o.place.step o.ord.lt ha hne, (set_swap_perm L h (up h) it o.ord.lt ha hne).trans o.perm⟩
theorem HoleOk.sink {it : Hm α} {M L : List (Hm α)} {h : Nat} {f : Int → Option Int} (o : HoleOk it M L h f) (hne : lowN L h ≠ h) (ha : lowN L h < L.length) :
    HoleOk it M (L.set h L[lowN L h]) (lowN L h) (updF f L[lowN L h].2.1 (some (h : Int))) :=
  ⟨o.ord.sink hne (keyN_at ha).symm, o.place.step o.ord.lt ha hne, (set_swap_perm L h (lowN L h) it o.ord.lt ha hne).trans o.perm⟩
theorem HoleOk.shut {it : Hm α} {M L : List (Hm α)} {h : Nat} {f : Int → Option Int} (o : HoleOk it M L h f) (hup : 0 < h → ¬ KLt (it.1, it.2.1) (keyN L (up h))) (hlow : lowN L h ≠ h → ¬ KLt (keyN L (lowN L h)) (it.1, it.2.1)) :
    HeapOk M (L.set h it) (updF f it.2.1 (some (h : Int))) := ⟨o.ord.shut hup hlow, o.place.shut o.ord.lt, o.perm⟩
/-- Push: a place more, open. -/
theorem HeapOk.opened {M L : List (Hm α)} {f : Int → Option Int} (o : HeapOk M L f) (z it : Hm α) (hno : f it.2.1 = none) : HoleOk it (M ++ [it]) (L ++ [z]) L.length f := by
  refine ⟨o.ord.grown z, ⟨fun j hj hne => ?_, fun i v hv _ => ?_, fun j hj hne => ?_⟩, ?_⟩
  · simp only [List.length_append, List.length_cons, List.length_nil] at hj
    have hj' : j < L.length := by omega
    rw [List.getElem_append_left hj']
    exact o.place.at_ j hj'
  · obtain ⟨j, hj, hji⟩ := o.place.all i v hv
    exact ⟨j, by simp; omega, by omega, by rw [List.getElem_append_left hj]; exact hji⟩
  · simp only [List.length_append, List.length_cons, List.length_nil] at hj
    have hj' : j < L.length := by omega
    rw [List.getElem_append_left hj']
    intro e
    have := o.place.at_ j hj'
    rw [e, hno] at this
    cases this
  · rw [List.set_append_right _ _ (Nat.le_refl _)]
    simp only [Nat.sub_self, List.set_cons_zero]
    exact o.perm.append_right _
/-- Move: an item's place is open for it anew. -/
theorem HeapOk.lifted {M L : List (Hm α)} {f : Int → Option Int} (o : HeapOk M L f) {h : Nat} (hl : h < L.length) (it : Hm α) (hid : L[h].2.1 = it.2.1) : HoleOk it (L.set h it) L h f := by
  refine ⟨o.ord.hole hl, ⟨fun j hj _ => o.place.at_ j hj, fun i v hv hne => ?_, fun j hj hne e => ?_⟩, List.Perm.refl _⟩
  · obtain ⟨j, hj, hji⟩ := o.place.all i v hv
    refine ⟨j, hj, ?_, hji⟩
    rintro rfl
    exact hne (hji.symm.trans hid)
  · exact hne (o.place.inj hj hl (e.trans hid.symm))
/-- Take: the last one is cut off, the one at a place is gone, and its number. -/
theorem HeapOk.cutLast {M L : List (Hm α)} {f : Int → Option Int} (o : HeapOk M L f) {n : Nat} (hn : L.length = n + 1) : HeapOk (L.take n) (L.take n) (updF f (L[n]'(by omega)).2.1 none) := by
  refine ⟨o.ord.cut n, ⟨fun j hj => ?_, fun i v hv => ?_⟩, List.Perm.refl _⟩
  · rw [List.length_take] at hj
    rw [List.getElem_take, updF_other]
    · exact o.place.at_ j (by omega)
    · intro e
      have := o.place.inj (by omega : j < L.length) (by omega : n < L.length) e
      omega
  · by_cases e : i = (L[n]'(by omega)).2.1
    · rw [e, updF_same] at hv; cases hv
    · rw [updF_other e] at hv
      obtain ⟨j, hj, hji⟩ := o.place.all i v hv
      have hjn : j ≠ n := by
        rintro rfl
        exact e hji.symm
      exact ⟨j, by rw [List.length_take]; omega, by rw [List.getElem_take]; exact hji⟩
theorem HeapOk.cutAt {M L : List (Hm α)} {f : Int → Option Int} (o : HeapOk M L f) {n h : Nat} (hn : L.length = n + 1) (hh : h < n) :
    HoleOk (L[n]'(by omega)) ((L.take n).set h (L[n]'(by omega))) (L.take n) h (updF f (L[h]'(by omega)).2.1 none) := by
  refine ⟨(o.ord.cut n).hole (by rw [List.length_take]; omega), ⟨fun j hj hne => ?_, fun i v hv hne => ?_, fun j hj hne e => ?_⟩, List.Perm.refl _⟩
  · rw [List.length_take] at hj
    rw [List.getElem_take, updF_other]
    · exact o.place.at_ j (by omega)
    · intro e
      exact hne (o.place.inj (by omega) (by omega) e)
  · by_cases e : i = (L[h]'(by omega)).2.1
    · rw [e, updF_same] at hv; cases hv
    · rw [updF_other e] at hv
      obtain ⟨j, hj, hji⟩ := o.place.all i v hv
      have hjn : j ≠ n := by
        rintro rfl
        exact hne hji.symm
      refine ⟨j, by rw [List.length_take]; omega, ?_, by rw [List.getElem_take]; exact hji⟩
      rintro rfl
      exact e hji.symm
  · rw [List.length_take] at hj
    rw [List.getElem_take] at e
    have := o.place.inj (by omega : j < L.length) (by omega : n < L.length) e
    omega

/-- What is left when the one at a place is taken. -/
theorem cut_perm (L : List (Hm α)) {n h : Nat} (hn : L.length = n + 1) (hh : h < n) : ((L.take n).set h (L[n]'(by omega))).Perm (L.eraseIdx h) := by
  have e0 : L = L.take n ++ [L[n]'(by omega)] := by
    conv => lhs; rw [← List.take_append_drop n L]
    rw [List.drop_eq_getElem_cons (by omega), List.drop_eq_nil_of_le (by omega)]
  have hlen : (L.take n).length = n := by rw [List.length_take]; omega
  obtain ⟨T, hT⟩ : ∃ T, L.take n = T := ⟨_, rfl⟩
  obtain ⟨z, hz⟩ : ∃ z, L[n]'(by omega) = z := ⟨_, rfl⟩
  rw [hT, hz] at e0 ⊢
  rw [hT] at hlen
  rw [e0, List.eraseIdx_append_of_lt_length (by omega)]
  have h1 : h < T.length := by omega
  rw [List.set_eq_take_append_cons_drop, if_pos h1, List.eraseIdx_eq_take_drop_succ]
  rw [List.append_assoc]
  exact List.Perm.append_left _ ((List.perm_append_singleton z (T.drop (h + 1))).symm)
end
end Go.Proofs.Ytiffgkmmibhklaa

/- Rows of items in any order: one taken out, one set; numbers that are apart. No program. -/
namespace Go.Proofs.Ytiffgkmmibhklaa

section
variable {α : Type}
theorem get_perm : ∀ (L : List α) (j : Nat) (h : j < L.length), L.Perm (L[j] :: L.eraseIdx j)
  | x :: L, 0, _ => List.Perm.refl _
  | x :: L, j + 1, h => ((get_perm L j (by simpa using h)).cons x).trans (List.Perm.swap _ _ _)
theorem set_perm' : ∀ (L : List α) (j : Nat) (y : α), j < L.length → (L.set j y).Perm (y :: L.eraseIdx j)
  | x :: L, 0, y, _ => List.Perm.refl _
  | x :: L, j + 1, y, h => ((set_perm' L j y (by simpa using h)).cons x).trans (List.Perm.swap _ _ _)
/-- Two rows of the same ones: of either one is taken. -/
theorem erase_perm {L D : List α} (p : L.Perm D) {j k : Nat} (hj : j < L.length) (hk : k < D.length) (e : L[j] = D[k]) : (L.eraseIdx j).Perm (D.eraseIdx k) := by
  have h := ((get_perm L j hj).symm.trans p).trans (get_perm D k hk)
  rw [e] at h
  exact h.cons_inv
/-- .. one is set. -/
theorem setBoth_perm {L D : List α} (p : L.Perm D) {j k : Nat} (hj : j < L.length) (hk : k < D.length) (e : L[j] = D[k]) (y : α) : (L.set j y).Perm (D.set k y) :=
  ((set_perm' L j y hj).trans ((erase_perm p hj hk e).cons y)).trans (set_perm' D k y hk).symm
end

section
variable {α : Type}
theorem HoleOk.len {it : Hm α} {M L : List (Hm α)} {h : Nat} {f : Int → Option Int} (o : HoleOk it M L h f) : L.length = M.length := by
  have := o.perm.length_eq
  simpa using this
theorem HoleOk.mem {it : Hm α} {M L : List (Hm α)} {h : Nat} {f : Int → Option Int} (o : HoleOk it M L h f) {j : Nat} (hj : j < L.length) (hne : j ≠ h) : L[j] ∈ M := by
  have e : (L.set h it)[j]'(by simpa using hj) = L[j] := by rw [List.getElem_set, if_neg (Ne.symm hne)]
  have : (L.set h it)[j]'(by simpa using hj) ∈ L.set h it := List.getElem_mem _
  rw [e] at this
  exact o.perm.mem_iff.1 this
theorem HeapOk.trans {M M' L : List (Hm α)} {f : Int → Option Int} (o : HeapOk M L f) (h : M.Perm M') : HeapOk M' L f := ⟨o.ord, o.place, o.perm.trans h⟩

/-- Of two items by one number there is but one. -/
theorem PlaceOk.one {D L : List (Hm α)} {f : Int → Option Int} (o : HeapOk D L f) {x y : Hm α} (hx : x ∈ D) (hy : y ∈ D) (e : x.2.1 = y.2.1) : x = y := by
  obtain ⟨i, hi, rfl⟩ := List.mem_iff_getElem.1 (o.perm.mem_iff.2 hx)
  obtain ⟨j, hj, rfl⟩ := List.mem_iff_getElem.1 (o.perm.mem_iff.2 hy)
  have := o.place.inj hi hj e
  subst this
  rfl
theorem HeapOk.some_of {D L : List (Hm α)} {f : Int → Option Int} (o : HeapOk D L f) {x : Hm α} (hx : x ∈ D) : ∃ j : Nat, ∃ hj : j < L.length, f x.2.1 = some (j : Int) ∧ L[j] = x := by
  obtain ⟨j, hj, rfl⟩ := List.mem_iff_getElem.1 (o.perm.mem_iff.2 hx)
  exact ⟨j, hj, o.place.at_ j hj, rfl⟩
theorem HeapOk.none_of {D L : List (Hm α)} {f : Int → Option Int} (o : HeapOk D L f) {i : Int} (h : ∀ x ∈ D, x.2.1 ≠ i) : f i = none := by
  cases hf : f i with
  | none => rfl
  | some v =>
    obtain ⟨j, hj, e⟩ := o.place.all i v hf
    exact absurd e (h _ (o.perm.mem_iff.1 (List.getElem_mem hj)))
theorem HeapOk.top {D L : List (Hm α)} {f : Int → Option Int} (o : HeapOk D L f) (h : 0 < L.length) : L[0] ∈ D ∧ ∀ y ∈ D, ¬ KLt (y.1, y.2.1) (L[0].1, L[0].2.1) := by
  refine ⟨o.perm.mem_iff.1 (List.getElem_mem h), fun y hy => ?_⟩
  obtain ⟨j, hj, rfl⟩ := List.mem_iff_getElem.1 (o.perm.mem_iff.2 hy)
  have := o.ord.least j hj
  rwa [keyN_at hj, keyN_at h] at this
/-- The numbers of D are apart. -/
def Apart (D : List (Hm α)) : Prop := ∀ x ∈ D, ∀ y ∈ D, x.2.1 = y.2.1 → x = y
end
end Go.Proofs.Ytiffgkmmibhklaa

/- What comes off a heap, one by one, as long as it is due. No program. -/
namespace Go.Proofs.Ytiffgkmmibhklaa

section
variable {α : Type}
/-- x is the one of D that is due first. -/
abbrev Least (D : List (Hm α)) (x : Hm α) : Prop := ∀ y ∈ D, ¬ KLt (y.1, y.2.1) (x.1, x.2.1)
/-- Of D the ones of xs come off, due at u or earlier, the first one first; D' is left. -/
inductive Pops (u : Int) (D : List (Hm α)) : List (Hm α) → List (Hm α) → Prop
  | none : Pops u D [] D
  | more {pre D' D'' : List (Hm α)} {x : Hm α} : Pops u D pre D' → D'.Perm (x :: D'') → Least D' x → x.1 ≤ u → Pops u D (pre ++ [x]) D''
theorem Pops.len {u : Int} {D xs D' : List (Hm α)} (h : Pops u D xs D') : D.length = xs.length + D'.length := by
  induction h with
  | none => simp
  | more _ p _ _ ih =>
    have := p.length_eq
    simp at this ⊢
    omega
theorem Pops.perm {u : Int} {D xs D' : List (Hm α)} (h : Pops u D xs D') : D.Perm (xs ++ D') := by
  induction h with
  | none => exact List.Perm.refl _
  | more _ p _ _ ih =>
    refine ih.trans ?_
    rw [List.append_assoc]
    exact p.append_left _
/-- The last one that came, taken back. -/
theorem Pops.split {u : Int} {D pre D'' : List (Hm α)} {x : Hm α} (h : Pops u D (pre ++ [x]) D'') : ∃ D', Pops u D pre D' ∧ D'.Perm (x :: D'') ∧ Least D' x ∧ x.1 ≤ u := by
  obtain ⟨zs, hz⟩ : ∃ zs, pre ++ [x] = zs := ⟨_, rfl⟩
  rw [hz] at h
  cases h with
  | none =>
    simp at hz
  | more h1 h2 h3 h4 =>
    obtain ⟨e1, e2⟩ := List.append_inj' hz rfl
    simp at e2
    subst e1 e2
    exact ⟨_, h1, h2, h3, h4⟩
/-- What is left behind a row of them is the same ones. -/
theorem Pops.left {u : Int} {D : List (Hm α)} : ∀ {xs A B : List (Hm α)}, Pops u D xs A → Pops u D xs B → A.Perm B := by
  intro xs A B h
  induction h generalizing B with
  | none =>
    intro g
    have := g.perm
    simpa using this
  | more h1 h2 h3 h4 ih =>
    intro g
    obtain ⟨D', g1, g2, _, _⟩ := g.split
    exact ((h2.symm.trans (ih g1)).trans g2).cons_inv
end
end Go.Proofs.Ytiffgkmmibhklaa
