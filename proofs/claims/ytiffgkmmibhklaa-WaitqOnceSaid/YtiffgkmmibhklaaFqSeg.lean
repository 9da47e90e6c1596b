/-
  Nodes that are linked by places: what stands between two places, in order; what a link turned, a node put, a node taken out make of it. No program.
-/
import Derived.Test.YtiffgkmmibhklaaAnCells
import Derived.Test.YtiffgkmmibhklaaGA
namespace Go.Proofs.Ytiffgkmmibhklaa

/-- Of one that stands in a queue: its place, its ticket, its value. -/
abbrev Pl (α : Type) := Nat × Int × α
section
variable {α : Type}
/-- The first one's place, or b; the last one's, or a. -/
def hdP (P : List (Pl α)) (b : Int) : Int := match P with | [] => b | x :: _ => (x.1 : Int)
def lsP : Int → List (Pl α) → Int
  | a, [] => a
  | _, x :: P => lsP (x.1 : Int) P
abbrev atP (P : List (Pl α)) : List Nat := P.map (·.1)
theorem hdP_append (A B : List (Pl α)) (b : Int) : hdP (A ++ B) b = hdP A (hdP B b) := by cases A <;> rfl
theorem lsP_append : ∀ (a : Int) (A B : List (Pl α)), lsP a (A ++ B) = lsP (lsP a A) B
  | a, [], B => rfl
  | a, x :: A, B => by simp only [List.cons_append, lsP]; exact lsP_append _ A B

/-- The nodes of P stand in S, linked: a is ahead of the first one, b behind the last one. -/
def Seg (S : List (Nd α × Bool)) : Int → List (Pl α) → Int → Prop
  | _, [], _ => True
  | a, x :: P, b => S[x.1]? = some ((x.2.2, x.2.1, a, hdP P b), true) ∧ Seg S x.1 P b
variable {S S' : List (Nd α × Bool)}
theorem seg_append : ∀ (a : Int) (A B : List (Pl α)) (b : Int), Seg S a (A ++ B) b ↔ Seg S a A (hdP B b) ∧ Seg S (lsP a A) B b
  | a, [], B, b => by simp [Seg, lsP]
  | a, x :: A, B, b => by
    simp only [List.cons_append, Seg, lsP, hdP_append, and_assoc]
    rw [seg_append]
theorem seg_frame : ∀ {a : Int} {P : List (Pl α)} {b : Int}, Seg S a P b → (∀ i ∈ atP P, S'[i]? = S[i]?) → Seg S' a P b
  | _, [], _, _, _ => trivial
  | a, x :: P, b, h, hs => ⟨by rw [hs _ (by simp)]; exact h.1, seg_frame h.2 (fun i hi => hs i (by simp at hi ⊢; exact .inr hi))⟩
theorem seg_get {a b : Int} {A B : List (Pl α)} {x : Pl α} (h : Seg S a (A ++ x :: B) b) : S[x.1]? = some ((x.2.2, x.2.1, lsP a A, hdP B b), true) := ((seg_append a A (x :: B) b).1 h).2.1

/-- What setBehind makes of nodes and of the first place. -/
def sbS (S : List (Nd α × Bool)) (i v : Int) : List (Nd α × Bool) := if isB S i then match S[i.toNat]? with | some (n, _) => S.set i.toNat ((n.1, n.2.1, n.2.2.1, v), true) | none => S else S
def sbF (S : List (Nd α × Bool)) (i v f : Int) : Int := if isB S i then f else v
/-- What setAhead makes of nodes and of the last place. -/
def saS (S : List (Nd α × Bool)) (i v : Int) : List (Nd α × Bool) := if isB S i then match S[i.toNat]? with | some (n, _) => S.set i.toNat ((n.1, n.2.1, v, n.2.2.2), true) | none => S else S
def saL (S : List (Nd α × Bool)) (i v l : Int) : Int := if isB S i then l else v
theorem sbS_no {i v : Int} (h : isB S i = false) : sbS S i v = S := by simp [sbS, h]
theorem saS_no {i v : Int} (h : isB S i = false) : saS S i v = S := by simp [saS, h]
theorem sbS_yes {j : Nat} {n : Nd α} {v : Int} (h : S[j]? = some (n, true)) : sbS S (j : Int) v = S.set j ((n.1, n.2.1, n.2.2.1, v), true) := by
  simp [sbS, isB_mk h, h]
theorem saS_yes {j : Nat} {n : Nd α} {v : Int} (h : S[j]? = some (n, true)) : saS S (j : Int) v = S.set j ((n.1, n.2.1, v, n.2.2.2), true) := by
  simp [saS, isB_mk h, h]
theorem sbS_len (i v : Int) : (sbS S i v).length = S.length := by
  unfold sbS
  split
  · split <;> simp
  · rfl
theorem saS_len (i v : Int) : (saS S i v).length = S.length := by
  unfold saS
  split
  · split <;> simp
  · rfl
theorem isB_neg : isB S (-1) = false := by simp [isB]
theorem set_other {i j : Nat} {x : Nd α × Bool} (h : i ≠ j) : (S.set j x)[i]? = S[i]? := List.getElem?_set_ne (Ne.symm h)
theorem set_here {j : Nat} {x y : Nd α × Bool} (h : S[j]? = some y) : (S.set j x)[j]? = some x := by
  rw [List.getElem?_set_self (List.getElem?_eq_some_iff.1 h).1]

theorem seg_behind {P : List (Pl α)} {b v : Int} (h : Seg S (-1) P b) (nd : (atP P).Nodup) :
    Seg (sbS S (lsP (-1) P) v) (-1) P v ∧ sbF S (lsP (-1) P) v (hdP P b) = hdP P v ∧ ∀ i, i ∉ atP P → (sbS S (lsP (-1) P) v)[i]? = S[i]? := by
  rcases List.eq_nil_or_concat P with rfl | ⟨A, x, rfl⟩
  · simp [Seg, lsP, sbF, isB_neg, hdP, sbS_no isB_neg]
  · simp only [List.concat_eq_append] at *
    have hx := seg_get (B := []) h
    have hl : lsP (-1) (A ++ [x]) = (x.1 : Int) := by rw [lsP_append]; rfl
    have hnx : x.1 ∉ atP A := by
      simp only [atP, List.map_append, List.map_cons, List.map_nil] at nd
      rw [List.nodup_append] at nd
      exact fun hm => nd.2.2 _ hm _ (by simp) rfl
    rw [hl, sbS_yes hx, sbF, isB_mk hx]
    refine ⟨?_, ?_, fun i hi => set_other (fun e => hi (by simp [e]))⟩
    · have h1 := (seg_append (-1) A [x] b).1 h
      refine (seg_append (-1) A [x] v).2 ⟨seg_frame h1.1 (fun i hi => set_other (fun e => hnx (e ▸ hi))), ?_, trivial⟩
      rw [set_here hx]
      rfl
    · rw [if_pos rfl, hdP_append, hdP_append]
      rfl
theorem seg_ahead {P : List (Pl α)} {a v : Int} (h : Seg S a P (-1)) (nd : (atP P).Nodup) :
    Seg (saS S (hdP P (-1)) v) v P (-1) ∧ saL S (hdP P (-1)) v (lsP a P) = lsP v P ∧ ∀ i, i ∉ atP P → (saS S (hdP P (-1)) v)[i]? = S[i]? := by
  cases P with
  | nil => simp [Seg, lsP, saL, isB_neg, hdP, saS_no isB_neg]
  | cons x B =>
    have hx := h.1
    have hnx : x.1 ∉ atP B := by
      simp only [atP, List.map_cons, List.nodup_cons] at nd
      exact nd.1
    simp only [hdP]
    rw [saS_yes hx, saL, isB_mk hx]
    refine ⟨⟨?_, seg_frame h.2 (fun i hi => set_other (fun e => hnx (e ▸ hi)))⟩, by simp [lsP], fun i hi => set_other (fun e => hi (by simp [e]))⟩
    rw [set_here hx]

/-- The place of a ticket. -/
def lookP (P : List (Pl α)) (t : Int) : Option Int := (P.find? (fun x => decide (x.2.1 = t))).map (fun x => (x.1 : Int))
theorem lookP_nil (t : Int) : lookP ([] : List (Pl α)) t = none := rfl
theorem lookP_some {P : List (Pl α)} {t v : Int} (h : lookP P t = some v) : ∃ A x B, P = A ++ x :: B ∧ x.2.1 = t ∧ v = x.1 ∧ ∀ y ∈ A, y.2.1 ≠ t := by
  unfold lookP at h
  rw [Option.map_eq_some_iff] at h
  obtain ⟨x, hx, rfl⟩ := h
  rw [List.find?_eq_some_iff_append] at hx
  obtain ⟨h1, A, B, rfl, h2⟩ := hx
  exact ⟨A, x, B, rfl, by simpa using h1, rfl, fun y hy => by simpa using h2 y hy⟩
theorem lookP_none {P : List (Pl α)} {t : Int} (h : lookP P t = none) : ∀ y ∈ P, y.2.1 ≠ t := by
  unfold lookP at h
  rw [Option.map_eq_none_iff, List.find?_eq_none] at h
  exact fun y hy => by simpa using h y hy
theorem lookP_mid {A B : List (Pl α)} {x : Pl α} (h : ∀ y ∈ A, y.2.1 ≠ x.2.1) : lookP (A ++ x :: B) x.2.1 = some (x.1 : Int) := by
  unfold lookP
  rw [List.find?_append, List.find?_eq_none.2 (fun y hy => by simpa using h y hy)]
  simp
theorem lookP_push {P : List (Pl α)} {x : Pl α} (h : ∀ y ∈ P, y.2.1 ≠ x.2.1) : lookP (P ++ [x]) = updF (lookP P) x.2.1 (some (x.1 : Int)) := by
  funext t
  by_cases e : t = x.2.1
  · subst e
    rw [updF_same, lookP_mid h]
  · rw [updF_other e]
    unfold lookP
    rw [List.find?_append]
    simp [Ne.symm e]
theorem lookP_drop {A B : List (Pl α)} {x : Pl α} (h : ∀ y ∈ A ++ B, y.2.1 ≠ x.2.1) : lookP (A ++ B) = updF (lookP (A ++ x :: B)) x.2.1 none := by
  funext t
  by_cases e : t = x.2.1
  · subst e
    rw [updF_same]
    unfold lookP
    rw [List.find?_eq_none.2 (fun y hy => by simpa using h y hy)]
    rfl
  · rw [updF_other e]
    unfold lookP
    rw [List.find?_append, List.find?_append, List.find?_cons]
    simp [Ne.symm e]

/-- All is as it should be with a queue: room m, last ticket l; nodes S, free places F; P stands in it, in order. -/
structure QOk (m l : Int) (S : List (Nd α × Bool)) (F : List Nat) (P : List (Pl α)) (f : Int → Option Int) (fst lst : Int) : Prop where
  seg : Seg S (-1) P (-1)
  first : fst = hdP P (-1)
  last : lst = lsP (-1) P
  nd : (F ++ atP P).Nodup
  inb : ∀ i ∈ F ++ atP P, i < S.length
  len : S.length = F.length + P.length
  cap : S.length ≤ 4096
  room : (P.length : Int) ≤ m
  top : m ≤ 4096
  asc : (P.map (·.2.1)).Pairwise (· < ·)
  bnd : ∀ x ∈ P, 1 ≤ x.2.1 ∧ x.2.1 ≤ l
  fs : f = lookP P

variable {m l : Int} {F : List Nat} {P : List (Pl α)} {f : Int → Option Int} {fst lst : Int}
theorem QOk.new {q : Int} : QOk (min (max q 0) 4096) 0 ([] : List (Nd α × Bool)) [] [] (fun _ => none) (-1) (-1) :=
  ⟨trivial, rfl, rfl, by simp, by simp, rfl, by simp, by simp; omega, by omega, by simp, by simp, rfl⟩

theorem QOk.pushed (h : QOk m l S F P f fst lst) (hm : (P.length : Int) < m) (hl : 0 ≤ l) (v : α) :
    QOk m (l + 1) (sbS (anS S F (v, l + 1, lst, -1)) lst (anAt S F)) F.dropLast (P ++ [(anAt S F, l + 1, v)]) (updF f (l + 1) (some (anAt S F : Int))) (sbF (anS S F (v, l + 1, lst, -1)) lst (anAt S F) fst) (anAt S F) := by
  obtain ⟨seg, first, last, nd, inb, len, cap, room, top, asc, bnd, fs⟩ := h
  have hP : (atP P).Nodup := (List.nodup_append.1 nd).2.1
  -- the new node's place
  have key : (anAt S F) ∉ atP P ∧ (∀ i ∈ atP P, (anS S F (v, l + 1, lst, -1))[i]? = S[i]?) ∧ (anS S F (v, l + 1, lst, -1))[anAt S F]? = some ((v, l + 1, lst, -1), true) ∧
      (F.dropLast ++ (atP P ++ [anAt S F])).Nodup ∧ (∀ i ∈ F.dropLast ++ (atP P ++ [anAt S F]), i < (anS S F (v, l + 1, lst, -1)).length) ∧ (anS S F (v, l + 1, lst, -1)).length = F.dropLast.length + P.length + 1 ∧ (anS S F (v, l + 1, lst, -1)).length ≤ 4096 := by
    rcases List.eq_nil_or_concat F with rfl | ⟨G, g, rfl⟩
    · simp only [anS, anAt, List.getLast?_nil, List.dropLast_nil, List.nil_append, List.length_nil, Nat.zero_add] at *
      have hnot : S.length ∉ atP P := fun hh => by have := inb _ hh; omega
      refine ⟨hnot, fun i hi => ?_, by simp, ?_, fun i hi => ?_, by simp; omega, by simp; omega⟩
      · rw [List.getElem?_append_left (inb i hi)]
      · rw [List.nodup_append]
        exact ⟨hP, by simp, fun a ha b hb e => by simp at hb; subst hb; subst e; exact hnot ha⟩
      · rcases List.mem_append.1 hi with hi | hi
        · have := inb i hi
          simp; omega
        · simp at hi ⊢; omega
    · simp only [List.concat_eq_append, anS, anAt, List.getLast?_append, List.getLast?_singleton, Option.some_or, List.dropLast_concat] at *
      have hg : g < S.length := inb g (by simp)
      have hnot : g ∉ atP P := fun hh => (List.nodup_append.1 nd).2.2 g (by simp) g hh rfl
      have hperm : (G ++ (atP P ++ [g])).Perm (G ++ [g] ++ atP P) := by
        rw [List.append_assoc]
        exact (List.perm_append_comm (l₁ := atP P) (l₂ := [g])).append_left G
      refine ⟨hnot, fun i hi => set_other (fun e => hnot (e ▸ hi)), by simp [hg], hperm.symm.nodup nd, fun i hi => ?_, ?_, ?_⟩
      · rw [List.length_set]
        exact inb i (hperm.mem_iff.1 hi)
      · simp at len ⊢; omega
      · simpa using cap
  obtain ⟨k1, k2, k3, k4, k5, k6, k7⟩ := key
  have sg := seg_frame seg k2
  obtain ⟨b1, b2, b3⟩ := seg_behind (v := (anAt S F : Int)) sg hP
  subst first last fs
  refine ⟨?_, ?_, ?_, by simpa [atP] using k4, by rw [sbS_len]; simpa [atP] using k5, by rw [sbS_len, k6]; simp; omega, by rw [sbS_len]; exact k7, by simp; omega, top, ?_, ?_, ?_⟩
  · refine (seg_append _ _ _ _).2 ⟨b1, ?_, trivial⟩
    rw [b3 _ k1, k3]
    rfl
  · rw [hdP_append]
    exact b2
  · rw [lsP_append]
    rfl
  · rw [List.map_append, List.pairwise_append]
    refine ⟨asc, by simp, fun a ha b hb => ?_⟩
    obtain ⟨x, hx, rfl⟩ := List.mem_map.1 ha
    have := bnd x hx
    simp at hb
    omega
  · intro x hx
    rcases List.mem_append.1 hx with hx | hx
    · have := bnd x hx
      omega
    · simp at hx
      subst hx
      simp only
      omega
  · rw [lookP_push]
    intro y hy
    have := bnd y hy
    simp only
    omega

theorem QOk.lens (h : QOk m l S F P f fst lst) : S.length ≤ 5000 ∧ F.length ≤ 5000 ∧ P.length ≤ 5000 ∧ (S.length : Int) - F.length = P.length := by
  have h1 := h.len
  have h2 := h.cap
  refine ⟨by omega, by omega, by omega, by omega⟩
theorem QOk.split {A B : List (Pl α)} {x : Pl α} (h : QOk m l S F (A ++ x :: B) f fst lst) :
    S[x.1]? = some ((x.2.2, x.2.1, lsP (-1) A, hdP B (-1)), true) ∧ f x.2.1 = some (x.1 : Int) ∧ ∀ y ∈ A ++ B, y.2.1 ≠ x.2.1 := by
  have hne : ∀ y ∈ A ++ B, y.2.1 ≠ x.2.1 := by
    have := h.asc
    simp only [List.map_append, List.map_cons, List.pairwise_append, List.pairwise_cons] at this
    obtain ⟨_, ⟨h2, _⟩, h3⟩ := this
    intro y hy
    rcases List.mem_append.1 hy with hy | hy
    · have := h3 y.2.1 (List.mem_map.2 ⟨y, hy, rfl⟩) x.2.1 (by simp)
      omega
    · have := h2 y.2.1 (List.mem_map.2 ⟨y, hy, rfl⟩)
      omega
  refine ⟨seg_get h.seg, ?_, hne⟩
  rw [h.fs, lookP_mid (fun y hy => hne y (List.mem_append_left _ hy))]

theorem QOk.dropped {A B : List (Pl α)} {x : Pl α} (h : QOk m l S F (A ++ x :: B) f fst lst) (z : Nd α) :
    QOk m l (saS (sbS (S.set x.1 (z, false)) (lsP (-1) A) (hdP B (-1))) (hdP B (-1)) (lsP (-1) A)) (F ++ [x.1]) (A ++ B) (updF f x.2.1 none)
      (sbF (S.set x.1 (z, false)) (lsP (-1) A) (hdP B (-1)) fst) (saL (sbS (S.set x.1 (z, false)) (lsP (-1) A) (hdP B (-1))) (hdP B (-1)) (lsP (-1) A) lst) := by
  have hne := h.split.2.2
  obtain ⟨seg, first, last, nd, inb, len, cap, room, top, asc, bnd, fs⟩ := h
  have ndp : (atP (A ++ x :: B)).Nodup := (List.nodup_append.1 nd).2.1
  simp only [atP, List.map_append, List.map_cons] at ndp
  have ndA : (atP A).Nodup := (List.nodup_append.1 ndp).1
  have ndB : (atP B).Nodup := (List.nodup_cons.1 (List.nodup_append.1 ndp).2.1).2
  have xA : x.1 ∉ atP A := fun hx => (List.nodup_append.1 ndp).2.2 _ hx _ (by simp) rfl
  have xB : x.1 ∉ atP B := (List.nodup_cons.1 (List.nodup_append.1 ndp).2.1).1
  have AB : ∀ i ∈ atP A, i ∉ atP B := fun i hi hj => (List.nodup_append.1 ndp).2.2 i hi i (List.mem_cons_of_mem _ hj) rfl
  obtain ⟨s1, s2, s3⟩ := (seg_append (-1) A (x :: B) (-1)).1 seg
  have s1' := seg_frame (S' := S.set x.1 (z, false)) s1 (fun i hi => set_other (fun e => xA (e ▸ hi)))
  have s3' := seg_frame (S' := S.set x.1 (z, false)) s3 (fun i hi => set_other (fun e => xB (e ▸ hi)))
  obtain ⟨b1, b2, b3⟩ := seg_behind (v := hdP B (-1)) s1' ndA
  have s3'' := seg_frame s3' (fun i hi => b3 i (fun hj => AB i hj hi))
  obtain ⟨c1, c2, c3⟩ := seg_ahead (v := lsP (-1) A) s3'' ndB
  have hperm : (F ++ [x.1] ++ atP (A ++ B)).Perm (F ++ atP (A ++ x :: B)) := by
    rw [List.append_assoc]
    refine List.Perm.append_left F ?_
    simp only [atP, List.map_append, List.map_cons, List.cons_append, List.nil_append]
    exact List.perm_middle.symm
  subst first last fs
  refine ⟨(seg_append _ _ _ _).2 ⟨seg_frame b1 (fun i hi => c3 i (AB i hi)), c1⟩, ?_, ?_, hperm.symm.nodup nd, ?_, ?_, ?_, ?_, top, ?_, ?_, ?_⟩
  · rw [hdP_append, hdP_append]
    exact b2
  · rw [lsP_append, lsP_append]
    exact c2
  · intro i hi
    rw [saS_len, sbS_len, List.length_set]
    exact inb i (hperm.mem_iff.1 hi)
  · rw [saS_len, sbS_len, List.length_set, len]
    simp
    omega
  · rw [saS_len, sbS_len, List.length_set]
    exact cap
  · simp at room ⊢
    omega
  · simp only [List.map_append, List.map_cons] at asc ⊢
    exact asc.sublist ((List.sublist_cons_self _ _).append_left _)
  · intro y hy
    refine bnd y ?_
    rcases List.mem_append.1 hy with hy | hy
    · exact List.mem_append_left _ hy
    · exact List.mem_append_right _ (List.mem_cons_of_mem _ hy)
  · rw [lookP_drop hne]
end
end Go.Proofs.Ytiffgkmmibhklaa
