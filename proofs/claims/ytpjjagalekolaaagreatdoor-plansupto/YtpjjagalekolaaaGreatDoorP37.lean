/- GJ, GK: in one text. -/
import Derived.Test.YtpjjagalekolaaaGreatDoorP32
/- The steps of a plan as they are drawn up, said plainly. No program in this text. -/
namespace Go.Proofs.YtpjjagalekolaaaGreatDoor
open Go.RowKit
set_option linter.unusedVariables false
set_option linter.unusedSimpArgs false

/-- So many of the first n are such. -/
def cN (p : Nat → Bool) : Nat → Nat
  | 0 => 0
  | n + 1 => cN p n + if p n then 1 else 0
theorem cN_split (p : Nat → Bool) : ∀ n, cN p n + cN (fun i => !p i) n = n
  | 0 => rfl
  | n + 1 => by
    rw [cN, cN]
    have := cN_split p n
    cases p n <;> simp <;> omega
theorem cN_le (p : Nat → Bool) (n : Nat) : cN p n ≤ n := by
  have := cN_split p n
  omega

/-- One waits for another, if there is one. -/
def wt (o : Option Nat) (k : Nat) (fd : Nat → List Nat) : Nat → List Nat := match o with | none => fd | some y => upN fd y (fd y ++ [k])
theorem wt_mem {o : Option Nat} {k : Nat} {fd : Nat → List Nat} {x y : Nat} : y ∈ wt o k fd x ↔ y ∈ fd x ∨ (o = some x ∧ y = k) := by
  cases o with
  | none => simp [wt]
  | some z =>
    show y ∈ upN fd z (fd z ++ [k]) x ↔ _
    by_cases e : x = z
    · subst e
      rw [upN_at]
      simp
    · rw [upN_ne _ _ e]
      constructor
      · exact .inl
      · rintro (h | ⟨h, _⟩)
        · exact h
        · cases h; exact absurd rfl e
theorem snoc_get {ms : List Mean} {m m' : Mean} {k : Nat} : (ms ++ [m])[k]? = some m' ↔ ms[k]? = some m' ∨ (k = ms.length ∧ m' = m) := by
  by_cases h : k < ms.length
  · rw [List.getElem?_append_left h]
    constructor
    · exact .inl
    · rintro (h' | ⟨h', _⟩)
      · exact h'
      · omega
  · rw [List.getElem?_append_right (by omega)]
    constructor
    · intro h'
      have : k - ms.length < [m].length := (List.getElem?_eq_some_iff.1 h').1
      have hk : k = ms.length := by simp at this; omega
      subst hk
      simp at h'
      exact .inr ⟨rfl, h'.symm⟩
    · rintro (h' | ⟨rfl, rfl⟩)
      · have := (List.getElem?_eq_some_iff.1 h').1
        omega
      · simp

def EdgeA (ms : List Mean) (cm : Nat → Option Nat) (x y : Nat) : Prop := (∃ i j, ms[y]? = some (Mean.chm i j) ∧ cm j = some x) ∨ (∃ j h, ms[y]? = some (Mean.cpy j h) ∧ cm h = some x)
/-- A draft, as far as it has come: a: of s, what goes is taken away; c1, c2: what stays is renamed, its mode changed; d, f: of t, directories made, files filled. -/
structure DA (fold : Bool) (s t : List EntD) (to fr : Nat → Option Nat) (ms : List Mean) (lv cm : Nat → Option Nat) (md : Nat → List Nat) (a c1 c2 d f : Nat) : Prop where
  del1 : ∀ i, i < a → i < s.length → to i = none → ∃ k, lv i = some k
  mov1 : ∀ i j x y, i < c1 → to i = some j → s[i]? = some x → t[j]? = some y → sameB fold x.pl y.pl = false → ∃ k, lv i = some k
  ren1 : ∀ i j x y, i < c1 → to i = some j → s[i]? = some x → t[j]? = some y → sameB fold x.pl y.pl = false ∨ lastL x.pl ≠ lastL y.pl → ∃ k, cm j = some k
  chm1 : ∀ i j x y, i < c2 → to i = some j → s[i]? = some x → t[j]? = some y → x.mode ≠ y.mode → ∃ k : Nat, ms[k]? = some (Mean.chm i j)
  new1 : ∀ (j : Nat) (b : EntD), t[j]? = some b → fr j = none → (b.dir = true ∧ j < d) ∨ (b.dir = false ∧ j < f) → ∃ k, cm j = some k
  lv1 : ∀ (i k : Nat), lv i = some k → (to i = none ∧ i < s.length ∧ ms[k]? = some (Mean.del i)) ∨ (∃ j a b, to i = some j ∧ s[i]? = some a ∧ t[j]? = some b ∧ sameB fold a.pl b.pl = false ∧ ms[k]? = some (Mean.ren i j))
  cm1 : ∀ (j k : Nat), cm j = some k → (∃ i, fr j = some i ∧ ms[k]? = some (Mean.ren i j)) ∨ (fr j = none ∧ j < t.length ∧ (ms[k]? = some (Mean.mkd j) ∨ ms[k]? = some (Mean.wri j) ∨ ∃ h, ms[k]? = some (Mean.cpy j h)))
  delS : ∀ (k i : Nat), ms[k]? = some (Mean.del i) → lv i = some k ∧ i < a
  renS : ∀ (k i j : Nat), ms[k]? = some (Mean.ren i j) → (to i = some j ∧ cm j = some k ∧ ∀ a b, s[i]? = some a → t[j]? = some b → sameB fold a.pl b.pl = false → lv i = some k) ∧ i < c1
  chmS : ∀ (k i j : Nat), ms[k]? = some (Mean.chm i j) → to i = some j ∧ i < c2
  mkdS : ∀ (k j : Nat), ms[k]? = some (Mean.mkd j) → (fr j = none ∧ cm j = some k ∧ ∃ b, t[j]? = some b ∧ b.dir = true) ∧ j < d
  wriS : ∀ (k j : Nat), ms[k]? = some (Mean.wri j) → (fr j = none ∧ cm j = some k ∧ ∃ b, t[j]? = some b ∧ b.dir = false ∧ ∀ a ∈ s, a.dir = false → a.id ≠ b.id) ∧ j < f
  cpyS : ∀ (k j h : Nat), ms[k]? = some (Mean.cpy j h) → (fr j = none ∧ cm j = some k ∧ ∃ b c i, t[j]? = some b ∧ t[h]? = some c ∧ b.dir = false ∧ c.id = b.id ∧ fr h = some i) ∧ j < f
  renN : ∀ (k i j : Nat) (a b : EntD), ms[k]? = some (Mean.ren i j) → s[i]? = some a → t[j]? = some b → sameB fold a.pl b.pl = false ∨ lastL a.pl ≠ lastL b.pl
  chmN : ∀ (k i j : Nat) (a b : EntD), ms[k]? = some (Mean.chm i j) → s[i]? = some a → t[j]? = some b → a.mode ≠ b.mode
  mdI : ∀ x y, y ∈ md x ↔ EdgeA ms cm x y
  len : ms.length ≤ cN (fun i => (to i).isNone) a + cN (fun i => !(to i).isNone) c1 + cN (fun i => !(to i).isNone) c2 + cN (fun j => (eg t j).dir) d + cN (fun j => !(eg t j).dir) f

section
variable {fold : Bool} {s t : List EntD} {to fr : Nat → Option Nat} {ms : List Mean} {lv cm : Nat → Option Nat} {md : Nat → List Nat} {a c1 c2 d f : Nat}

theorem DA.start : DA fold s t to fr [] (fun _ => none) (fun _ => none) (fun _ => []) 0 0 0 0 0 where
  del1 := fun i h => by omega
  mov1 := fun i j x y h => by omega
  ren1 := fun i j x y h => by omega
  chm1 := fun i j x y h => by omega
  new1 := fun j b _ _ h => by omega
  lv1 := fun i k h => by cases h
  cm1 := fun i k h => by cases h
  delS := fun k i h => by simp at h
  renS := fun k i j h => by simp at h
  chmS := fun k i j h => by simp at h
  mkdS := fun k j h => by simp at h
  wriS := fun k j h => by simp at h
  cpyS := fun k j h h => by simp at h
  renN := fun k i j a b h => by simp at h
  chmN := fun k i j a b h => by simp at h
  mdI := fun x y => by simp [EdgeA]
  len := by simp

/-- One round without a step. -/
theorem DA.skip {a' c1' c2' d' f' : Nat} (h : DA fold s t to fr ms lv cm md a c1 c2 d f) (ha : a ≤ a') (hc1 : c1 ≤ c1') (hc2 : c2 ≤ c2') (hd : d ≤ d') (hf : f ≤ f')
    (h1 : ∀ i, i < a' → i < s.length → to i = none → i < a)
    (h2 : ∀ i j x y, i < c1' → to i = some j → s[i]? = some x → t[j]? = some y → sameB fold x.pl y.pl = false ∨ lastL x.pl ≠ lastL y.pl → i < c1)
    (h3 : ∀ i j x y, i < c2' → to i = some j → s[i]? = some x → t[j]? = some y → x.mode ≠ y.mode → i < c2)
    (h4 : ∀ (j : Nat) (b : EntD), t[j]? = some b → fr j = none → (b.dir = true ∧ j < d') ∨ (b.dir = false ∧ j < f') → (b.dir = true ∧ j < d) ∨ (b.dir = false ∧ j < f)) :
    DA fold s t to fr ms lv cm md a' c1' c2' d' f' where
  del1 := fun i hi hl hn => h.del1 i (h1 i hi hl hn) hl hn
  mov1 := fun i j x y hi ht hx hy hs => h.mov1 i j x y (h2 i j x y hi ht hx hy (.inl hs)) ht hx hy hs
  ren1 := fun i j x y hi ht hx hy hs => h.ren1 i j x y (h2 i j x y hi ht hx hy hs) ht hx hy hs
  chm1 := fun i j x y hi ht hx hy hs => h.chm1 i j x y (h3 i j x y hi ht hx hy hs) ht hx hy hs
  new1 := fun j b hb hf hh => h.new1 j b hb hf (h4 j b hb hf hh)
  lv1 := h.lv1
  cm1 := h.cm1
  delS := fun k i hk => ⟨(h.delS k i hk).1, by have := (h.delS k i hk).2; omega⟩
  renS := fun k i j hk => ⟨(h.renS k i j hk).1, by have := (h.renS k i j hk).2; omega⟩
  chmS := fun k i j hk => ⟨(h.chmS k i j hk).1, by have := (h.chmS k i j hk).2; omega⟩
  mkdS := fun k j hk => ⟨(h.mkdS k j hk).1, by have := (h.mkdS k j hk).2; omega⟩
  wriS := fun k j hk => ⟨(h.wriS k j hk).1, by have := (h.wriS k j hk).2; omega⟩
  cpyS := fun k j q hk => ⟨(h.cpyS k j q hk).1, by have := (h.cpyS k j q hk).2; omega⟩
  renN := h.renN
  chmN := h.chmN
  mdI := h.mdI
  len := by
    have mono : ∀ (p : Nat → Bool) (n m : Nat), n ≤ m → cN p n ≤ cN p m := fun p n m hnm => by
      induction hnm with
      | refl => exact Nat.le_refl _
      | step _ ih => rw [cN]; omega
    have := h.len
    have := mono (fun i => (to i).isNone) a a' ha
    have := mono (fun i => !(to i).isNone) c1 c1' hc1
    have := mono (fun i => !(to i).isNone) c2 c2' hc2
    have := mono (fun j => (eg t j).dir) d d' hd
    have := mono (fun j => !(eg t j).dir) f f' hf
    omega

/-- One round with a step. -/
theorem DA.ext {a' c1' c2' d' f' : Nat} {m : Mean} {lv' cm' : Nat → Option Nat} {md' : Nat → List Nat} (h : DA fold s t to fr ms lv cm md a c1 c2 d f) (ha : a ≤ a') (hc1 : c1 ≤ c1') (hc2 : c2 ≤ c2') (hd : d ≤ d') (hf : f ≤ f')
    (hl : ∀ i k, lv i = some k → lv' i = some k) (hc : ∀ j k, cm j = some k → cm' j = some k)
    (h1 : ∀ i, i < a' → i < s.length → to i = none → i < a ∨ ∃ k, lv' i = some k)
    (h2 : ∀ i j x y, i < c1' → to i = some j → s[i]? = some x → t[j]? = some y → i < c1 ∨ ((sameB fold x.pl y.pl = false → ∃ k, lv' i = some k) ∧ ∃ k, cm' j = some k))
    (h3 : ∀ i j x y, i < c2' → to i = some j → s[i]? = some x → t[j]? = some y → x.mode ≠ y.mode → i < c2 ∨ m = .chm i j)
    (h4 : ∀ (j : Nat) (b : EntD), t[j]? = some b → fr j = none → (b.dir = true ∧ j < d') ∨ (b.dir = false ∧ j < f') → ((b.dir = true ∧ j < d) ∨ (b.dir = false ∧ j < f)) ∨ ∃ k, cm' j = some k)
    (hl' : ∀ i k, lv' i = some k → lv i = some k ∨ (k = ms.length ∧ ((to i = none ∧ i < s.length ∧ m = .del i) ∨ (∃ j a b, to i = some j ∧ s[i]? = some a ∧ t[j]? = some b ∧ sameB fold a.pl b.pl = false ∧ m = .ren i j))))
    (hc' : ∀ j k, cm' j = some k → cm j = some k ∨ (k = ms.length ∧ ((∃ i, fr j = some i ∧ m = .ren i j) ∨ (fr j = none ∧ j < t.length ∧ (m = .mkd j ∨ m = .wri j ∨ ∃ h, m = .cpy j h)))))
    (hmD : ∀ i, m = .del i → lv' i = some ms.length ∧ i < a')
    (hmR : ∀ i j, m = .ren i j → (to i = some j ∧ cm' j = some ms.length ∧ ∀ a b, s[i]? = some a → t[j]? = some b → sameB fold a.pl b.pl = false → lv' i = some ms.length) ∧ i < c1')
    (hmC : ∀ i j, m = .chm i j → to i = some j ∧ i < c2')
    (hmK : ∀ j, m = .mkd j → (fr j = none ∧ cm' j = some ms.length ∧ ∃ b, t[j]? = some b ∧ b.dir = true) ∧ j < d')
    (hmW : ∀ j, m = .wri j → (fr j = none ∧ cm' j = some ms.length ∧ ∃ b, t[j]? = some b ∧ b.dir = false ∧ ∀ a ∈ s, a.dir = false → a.id ≠ b.id) ∧ j < f')
    (hmY : ∀ j h, m = .cpy j h → (fr j = none ∧ cm' j = some ms.length ∧ ∃ b c i, t[j]? = some b ∧ t[h]? = some c ∧ b.dir = false ∧ c.id = b.id ∧ fr h = some i) ∧ j < f')
    (hnR : ∀ i j a b, m = .ren i j → s[i]? = some a → t[j]? = some b → sameB fold a.pl b.pl = false ∨ lastL a.pl ≠ lastL b.pl)
    (hnC : ∀ i j (a b : EntD), m = .chm i j → s[i]? = some a → t[j]? = some b → a.mode ≠ b.mode)
    (hmd : ∀ x y, y ∈ md' x ↔ EdgeA (ms ++ [m]) cm' x y)
    (hlen : ms.length + 1 ≤ cN (fun i => (to i).isNone) a' + cN (fun i => !(to i).isNone) c1' + cN (fun i => !(to i).isNone) c2' + cN (fun j => (eg t j).dir) d' + cN (fun j => !(eg t j).dir) f') :
    DA fold s t to fr (ms ++ [m]) lv' cm' md' a' c1' c2' d' f' where
  del1 := fun i hi hln hn => by
    rcases h1 i hi hln hn with h' | h'
    · obtain ⟨k, hk⟩ := h.del1 i h' hln hn
      exact ⟨k, hl i k hk⟩
    · exact h'
  mov1 := fun i j x y hi ht hx hy hs => by
    rcases h2 i j x y hi ht hx hy with h' | h'
    · obtain ⟨k, hk⟩ := h.mov1 i j x y h' ht hx hy hs
      exact ⟨k, hl i k hk⟩
    · exact h'.1 hs
  ren1 := fun i j x y hi ht hx hy hs => by
    rcases h2 i j x y hi ht hx hy with h' | h'
    · obtain ⟨k, hk⟩ := h.ren1 i j x y h' ht hx hy hs
      exact ⟨k, hc j k hk⟩
    · exact h'.2
  chm1 := fun i j x y hi ht hx hy hs => by
    rcases h3 i j x y hi ht hx hy hs with h' | h'
    · obtain ⟨k, hk⟩ := h.chm1 i j x y h' ht hx hy hs
      exact ⟨k, snoc_get.2 (.inl hk)⟩
    · exact ⟨ms.length, snoc_get.2 (.inr ⟨rfl, h'.symm⟩)⟩
  new1 := fun j b hb hf hh => by
    rcases h4 j b hb hf hh with h' | h'
    · obtain ⟨k, hk⟩ := h.new1 j b hb hf h'
      exact ⟨k, hc j k hk⟩
    · exact h'
  lv1 := fun i k hk => by
    rcases hl' i k hk with h' | ⟨rfl, h'⟩
    · rcases h.lv1 i k h' with ⟨g1, g2, g3⟩ | ⟨j, x, y, g1, g2, g3, g4, g5⟩
      · exact .inl ⟨g1, g2, snoc_get.2 (.inl g3)⟩
      · exact .inr ⟨j, x, y, g1, g2, g3, g4, snoc_get.2 (.inl g5)⟩
    · rcases h' with ⟨g1, g2, g3⟩ | ⟨j, x, y, g1, g2, g3, g4, g5⟩
      · exact .inl ⟨g1, g2, snoc_get.2 (.inr ⟨rfl, g3.symm⟩)⟩
      · exact .inr ⟨j, x, y, g1, g2, g3, g4, snoc_get.2 (.inr ⟨rfl, g5.symm⟩)⟩
  cm1 := fun j k hk => by
    rcases hc' j k hk with h' | ⟨rfl, h'⟩
    · rcases h.cm1 j k h' with ⟨i, g1, g2⟩ | ⟨g1, g2, g3 | g3 | ⟨q, g3⟩⟩
      · exact .inl ⟨i, g1, snoc_get.2 (.inl g2)⟩
      · exact .inr ⟨g1, g2, .inl (snoc_get.2 (.inl g3))⟩
      · exact .inr ⟨g1, g2, .inr (.inl (snoc_get.2 (.inl g3)))⟩
      · exact .inr ⟨g1, g2, .inr (.inr ⟨q, snoc_get.2 (.inl g3)⟩)⟩
    · rcases h' with ⟨i, g1, g2⟩ | ⟨g1, g2, g3 | g3 | ⟨q, g3⟩⟩
      · exact .inl ⟨i, g1, snoc_get.2 (.inr ⟨rfl, g2.symm⟩)⟩
      · exact .inr ⟨g1, g2, .inl (snoc_get.2 (.inr ⟨rfl, g3.symm⟩))⟩
      · exact .inr ⟨g1, g2, .inr (.inl (snoc_get.2 (.inr ⟨rfl, g3.symm⟩)))⟩
      · exact .inr ⟨g1, g2, .inr (.inr ⟨q, snoc_get.2 (.inr ⟨rfl, g3.symm⟩)⟩)⟩
  delS := fun k i hk => by
    rcases snoc_get.1 hk with h' | ⟨rfl, h'⟩
    · have := h.delS k i h'
      exact ⟨hl i k this.1, by omega⟩
    · exact hmD i h'.symm
  renS := fun k i j hk => by
    rcases snoc_get.1 hk with h' | ⟨rfl, h'⟩
    · obtain ⟨⟨g1, g2, g3⟩, g4⟩ := h.renS k i j h'
      exact ⟨⟨g1, hc j k g2, fun x y hx hy hs => hl i k (g3 x y hx hy hs)⟩, by omega⟩
    · exact hmR i j h'.symm
  chmS := fun k i j hk => by
    rcases snoc_get.1 hk with h' | ⟨rfl, h'⟩
    · have := h.chmS k i j h'
      exact ⟨this.1, by omega⟩
    · exact hmC i j h'.symm
  mkdS := fun k j hk => by
    rcases snoc_get.1 hk with h' | ⟨rfl, h'⟩
    · obtain ⟨⟨g1, g2, g3⟩, g4⟩ := h.mkdS k j h'
      exact ⟨⟨g1, hc j k g2, g3⟩, by omega⟩
    · exact hmK j h'.symm
  wriS := fun k j hk => by
    rcases snoc_get.1 hk with h' | ⟨rfl, h'⟩
    · obtain ⟨⟨g1, g2, g3⟩, g4⟩ := h.wriS k j h'
      exact ⟨⟨g1, hc j k g2, g3⟩, by omega⟩
    · exact hmW j h'.symm
  cpyS := fun k j q hk => by
    rcases snoc_get.1 hk with h' | ⟨rfl, h'⟩
    · obtain ⟨⟨g1, g2, g3⟩, g4⟩ := h.cpyS k j q h'
      exact ⟨⟨g1, hc j k g2, g3⟩, by omega⟩
    · exact hmY j q h'.symm
  renN := fun k i j x y hk hx hy => by
    rcases snoc_get.1 hk with h' | ⟨rfl, h'⟩
    · exact h.renN k i j x y h' hx hy
    · exact hnR i j x y h'.symm hx hy
  chmN := fun k i j x y hk hx hy => by
    rcases snoc_get.1 hk with h' | ⟨rfl, h'⟩
    · exact h.chmN k i j x y h' hx hy
    · exact hnC i j x y h'.symm hx hy
  mdI := hmd
  len := by rw [List.length_append]; exact hlen

/-- A step of which no one waits. -/
theorem edgeA_ext {m : Mean} {cm' : Nat → Option Nat} (hmd : ∀ x y, y ∈ md x ↔ EdgeA ms cm x y) (h1 : ∀ i j, m ≠ .chm i j) (h2 : ∀ j h, m ≠ .cpy j h) (hc : ∀ j k, cm j = some k → cm' j = some k) (hn : ∀ j k, cm' j = some k → cm j = some k ∨ ((∀ (y i : Nat), ms[y]? ≠ some (Mean.chm i j)) ∧ ∀ (y i : Nat), ms[y]? ≠ some (Mean.cpy i j))) : ∀ x y, y ∈ md x ↔ EdgeA (ms ++ [m]) cm' x y := by
  intro x y
  rw [hmd]
  constructor
  · rintro (⟨i, j, g1, g2⟩ | ⟨j, q, g1, g2⟩)
    · exact .inl ⟨i, j, snoc_get.2 (.inl g1), hc _ _ g2⟩
    · exact .inr ⟨j, q, snoc_get.2 (.inl g1), hc _ _ g2⟩
  · rintro (⟨i, j, g1, g2⟩ | ⟨j, q, g1, g2⟩)
    · rcases snoc_get.1 g1 with g1 | ⟨_, g1⟩
      · rcases hn j x g2 with g | g
        · exact .inl ⟨i, j, g1, g⟩
        · exact absurd g1 (g.1 y i)
      · exact absurd g1.symm (h1 i j)
    · rcases snoc_get.1 g1 with g1 | ⟨_, g1⟩
      · rcases hn q x g2 with g | g
        · exact .inr ⟨j, q, g1, g⟩
        · exact absurd g1 (g.2 y j)
      · exact absurd g1.symm (h2 j q)
end
end Go.Proofs.YtpjjagalekolaaaGreatDoor

/- The steps of a plan as they are drawn up: each kind of step. No program in this text. -/
namespace Go.Proofs.YtpjjagalekolaaaGreatDoor
open Go.RowKit
set_option linter.unusedVariables false
set_option linter.unusedSimpArgs false

section
variable {fold : Bool} {s t : List EntD} {to fr : Nat → Option Nat} {ms : List Mean} {lv cm : Nat → Option Nat} {md : Nat → List Nat} {a c1 c2 d f : Nat}
theorem up_new {g : Nat → Option Nat} {i v i' k : Nat} (h : upN g i (some v) i' = some k) : g i' = some k ∨ (i' = i ∧ k = v) := by
  by_cases e : i' = i
  · subst e
    rw [upN_at] at h
    cases h
    exact .inr ⟨rfl, rfl⟩
  · rw [upN_ne _ _ e] at h
    exact .inl h
theorem cN_one {p : Nat → Bool} {n : Nat} (h : p n = true) : cN p (n + 1) = cN p n + 1 := by rw [cN, if_pos h]

theorem DA.del (M : Mat fold s t to fr) (h : DA fold s t to fr ms lv cm md a c1 c2 d f) (hi : a < s.length) (ht : to a = none) : DA fold s t to fr (ms ++ [.del a]) (upN lv a (some ms.length)) cm md (a + 1) c1 c2 d f := by
  have hlv : lv a = none := by
    cases hx : lv a with
    | none => rfl
    | some k =>
      rcases h.lv1 a k hx with ⟨_, _, g⟩ | ⟨j, _, _, g, _⟩
      · have := (h.delS k a g).2
        omega
      · rw [ht] at g; cases g
  refine h.ext (Nat.le_succ _) (Nat.le_refl _) (Nat.le_refl _) (Nat.le_refl _) (Nat.le_refl _) (fun i k hk => upN_keep hlv hk) (fun j k hk => hk) (fun i h1 h2 h3 => ?_) (fun i j x y h1 _ _ _ => .inl h1) (fun i j x y h1 _ _ _ _ => .inl h1) (fun j b _ _ h => .inl h) (fun i k hk => ?_) (fun j k hk => .inl hk) (fun i e => ?_) (fun i j e => by cases e) (fun i j e => by cases e) (fun j e => by cases e) (fun j e => by cases e) (fun j h e => by cases e) (fun i j _ _ e => by cases e) (fun i j _ _ e => by cases e) ?_ ?_
  · by_cases e : i = a
    · exact .inr ⟨_, by rw [e]; exact upN_at _ _ _⟩
    · exact .inl (by omega)
  · rcases up_new hk with g | ⟨rfl, rfl⟩
    · exact .inl g
    · exact .inr ⟨rfl, .inl ⟨ht, hi, rfl⟩⟩
  · cases e
    exact ⟨upN_at _ _ _, by omega⟩
  · exact edgeA_ext h.mdI (fun i j e => by cases e) (fun i j e => by cases e) (fun _ _ h => h) (fun _ _ h => .inl h)
  · rw [cN_one (by rw [ht]; rfl)]
    have := h.len
    omega

/-- A thing is renamed. -/
theorem DA.ren (M : Mat fold s t to fr) (h : DA fold s t to fr ms lv cm md a c1 c2 d f) (h12 : c2 ≤ c1) (hf0 : f = 0) {j : Nat} {x y : EntD} (ht : to c1 = some j) (hx : s[c1]? = some x) (hy : t[j]? = some y) {lv' : Nat → Option Nat} (hlv' : lv' = if sameB fold x.pl y.pl then lv else upN lv c1 (some ms.length)) (hnd : sameB fold x.pl y.pl = false ∨ lastL x.pl ≠ lastL y.pl) : DA fold s t to fr (ms ++ [.ren c1 j]) lv' (upN cm j (some ms.length)) md a (c1 + 1) c2 d f := by
  have hfr := (M.inv c1 j).1 ht
  have hcm : cm j = none := by
    cases hz : cm j with
    | none => rfl
    | some k =>
      rcases h.cm1 j k hz with ⟨i, g1, g2⟩ | ⟨g, _⟩
      · rw [hfr] at g1
        cases g1
        have := (h.renS k c1 j g2).2
        omega
      · rw [hfr] at g; cases g
  have hlv : lv c1 = none := by
    cases hz : lv c1 with
    | none => rfl
    | some k =>
      rcases h.lv1 c1 k hz with ⟨g, _⟩ | ⟨j', _, _, g, _, _, _, g5⟩
      · rw [ht] at g; cases g
      · have := (h.renS k c1 j' g5).2
        omega
  have hkeep : ∀ i k, lv i = some k → lv' i = some k := fun i k hk => by
    rw [hlv']
    split
    · exact hk
    · exact upN_keep hlv hk
  have hnew : sameB fold x.pl y.pl = false → lv' c1 = some ms.length := fun e => by
    rw [hlv', e]
    simp [upN_at]
  refine h.ext (Nat.le_refl _) (Nat.le_succ _) (Nat.le_refl _) (Nat.le_refl _) (Nat.le_refl _) hkeep (fun j k hk => upN_keep hcm hk) (fun i h1 h2 h3 => .inl h1) (fun i j' x' y' h1 h2 h3 h4 => ?_) (fun i j x y h1 _ _ _ _ => .inl h1) (fun j b _ _ h => .inl h) (fun i k hk => ?_) (fun j' k hk => ?_) (fun i e => by cases e) (fun i j' e => ?_) (fun i j e => by cases e) (fun j e => by cases e) (fun j e => by cases e) (fun j h e => by cases e) (fun i j' a' b' e ha' hb' => ?_) (fun i j _ _ e => by cases e) ?_ ?_
  · by_cases e : i = c1
    · subst e
      rw [ht] at h2
      cases h2
      rw [hx] at h3
      rw [hy] at h4
      cases h3
      cases h4
      exact .inr ⟨fun e => ⟨_, hnew e⟩, _, upN_at _ _ _⟩
    · exact .inl (by omega)
  · rw [hlv'] at hk
    split at hk
    · exact .inl hk
    · rename_i hs
      rcases up_new hk with g | ⟨rfl, rfl⟩
      · exact .inl g
      · exact .inr ⟨rfl, .inr ⟨j, x, y, ht, hx, hy, by simpa using hs, rfl⟩⟩
  · rcases up_new hk with g | ⟨rfl, rfl⟩
    · exact .inl g
    · exact .inr ⟨rfl, .inl ⟨c1, hfr, rfl⟩⟩
  · cases e
    refine ⟨⟨ht, upN_at _ _ _, fun a' b' ha' hb' hs => ?_⟩, by omega⟩
    rw [hx] at ha'
    rw [hy] at hb'
    cases ha'
    cases hb'
    exact hnew hs
  · cases e
    rw [hx] at ha'
    rw [hy] at hb'
    cases ha'
    cases hb'
    exact hnd
  · refine edgeA_ext h.mdI (fun i j e => by cases e) (fun i j e => by cases e) (fun j' k hk => upN_keep hcm hk) (fun j' k hk => ?_)
    rcases up_new hk with g | ⟨rfl, rfl⟩
    · exact .inl g
    · refine .inr ⟨fun y' i e => ?_, fun y' i e => ?_⟩
      · obtain ⟨g1, g2⟩ := h.chmS y' i _ e
        have := (M.inv i _).1 g1
        rw [hfr] at this
        cases this
        omega
      · have := (h.cpyS y' i _ e).2
        omega
  · have : cN (fun i => !(to i).isNone) (c1 + 1) = cN (fun i => !(to i).isNone) c1 + 1 := cN_one (by rw [ht]; rfl)
    rw [this]
    have := h.len
    omega

/-- Its mode is changed. -/
theorem DA.chm (M : Mat fold s t to fr) (h : DA fold s t to fr ms lv cm md a c1 c2 d f) {j : Nat} {x y : EntD} (ht : to c2 = some j) (hx : s[c2]? = some x) (hy : t[j]? = some y) (hmo : x.mode ≠ y.mode) : DA fold s t to fr (ms ++ [.chm c2 j]) lv cm (wt (cm j) ms.length md) a c1 (c2 + 1) d f := by
  refine h.ext (Nat.le_refl _) (Nat.le_refl _) (Nat.le_succ _) (Nat.le_refl _) (Nat.le_refl _) (fun _ _ h => h) (fun _ _ h => h) (fun i h1 h2 h3 => .inl h1) (fun i j' x' y' h1 h2 h3 h4 => .inl h1) (fun i j' x y h1 h2 _ _ _ => ?_) (fun j b _ _ h => .inl h) (fun i k hk => .inl hk) (fun j' k hk => .inl hk) (fun i e => by cases e) (fun i j' e => by cases e) (fun i j' e => ?_) (fun j e => by cases e) (fun j e => by cases e) (fun j h e => by cases e) (fun i j _ _ e => by cases e) (fun i j' a' b' e ha' hb' => ?_) (fun x' y' => ?_) ?_
  · by_cases e : i = c2
    · subst e
      rw [ht] at h2
      cases h2
      exact .inr rfl
    · exact .inl (by omega)
  · cases e
    exact ⟨ht, by omega⟩
  · cases e
    rw [hx] at ha'
    rw [hy] at hb'
    cases ha'
    cases hb'
    exact hmo
  · rw [wt_mem, h.mdI]
    constructor
    · rintro ((⟨i, j', g1, g2⟩ | ⟨j', q, g1, g2⟩) | ⟨g1, rfl⟩)
      · exact .inl ⟨i, j', snoc_get.2 (.inl g1), g2⟩
      · exact .inr ⟨j', q, snoc_get.2 (.inl g1), g2⟩
      · exact .inl ⟨c2, j, snoc_get.2 (.inr ⟨rfl, rfl⟩), g1⟩
    · rintro (⟨i, j', g1, g2⟩ | ⟨j', q, g1, g2⟩)
      · rcases snoc_get.1 g1 with g3 | ⟨rfl, g3⟩
        · exact .inl (.inl ⟨i, j', g3, g2⟩)
        · cases g3
          exact .inr ⟨g2, rfl⟩
      · rcases snoc_get.1 g1 with g3 | ⟨rfl, g3⟩
        · exact .inl (.inr ⟨j', q, g3, g2⟩)
        · cases g3
  · have : cN (fun i => !(to i).isNone) (c2 + 1) = cN (fun i => !(to i).isNone) c2 + 1 := cN_one (by rw [ht]; rfl)
    rw [this]
    have := h.len
    omega

theorem DA.cm_none (h : DA fold s t to fr ms lv cm md a c1 c2 d f) {j : Nat} {b : EntD} (hb : t[j]? = some b) (hf : fr j = none) (hn : (b.dir = true ∧ d ≤ j) ∨ (b.dir = false ∧ f ≤ j)) : cm j = none := by
  cases hz : cm j with
  | none => rfl
  | some k =>
    rcases h.cm1 j k hz with ⟨i, g1, g2⟩ | ⟨_, _, g | g | ⟨q, g⟩⟩
    · rw [hf] at g1; cases g1
    · obtain ⟨⟨_, _, b', hb', hd⟩, g2⟩ := h.mkdS k j g
      rw [hb] at hb'
      cases hb'
      rcases hn with ⟨_, _⟩ | ⟨hn, _⟩
      · omega
      · rw [hd] at hn; cases hn
    · obtain ⟨⟨_, _, b', hb', hd, _⟩, g2⟩ := h.wriS k j g
      rw [hb] at hb'
      cases hb'
      rcases hn with ⟨hn, _⟩ | ⟨_, _⟩
      · rw [hd] at hn; cases hn
      · omega
    · obtain ⟨⟨_, _, b', c', i', hb', _, hd, _⟩, g2⟩ := h.cpyS k j q g
      rw [hb] at hb'
      cases hb'
      rcases hn with ⟨hn, _⟩ | ⟨_, _⟩
      · rw [hd] at hn; cases hn
      · omega
/-- None waits for what is new. -/
theorem DA.fresh (M : Mat fold s t to fr) (h : DA fold s t to fr ms lv cm md a c1 c2 d f) {j : Nat} (hf : fr j = none) : (∀ (y i : Nat), ms[y]? ≠ some (Mean.chm i j)) ∧ ∀ (y i : Nat), ms[y]? ≠ some (Mean.cpy i j) := by
  refine ⟨fun y i e => ?_, fun y i e => ?_⟩
  · have := (M.inv i j).1 (h.chmS y i j e).1
    rw [hf] at this
    cases this
  · obtain ⟨⟨_, _, _, _, i', _, _, _, _, g⟩, _⟩ := h.cpyS y i j e
    rw [hf] at g
    cases g
theorem DA.mkd (M : Mat fold s t to fr) (h : DA fold s t to fr ms lv cm md a c1 c2 d f) {b : EntD} (hb : t[d]? = some b) (hd : b.dir = true) (hf : fr d = none) : DA fold s t to fr (ms ++ [.mkd d]) lv (upN cm d (some ms.length)) md a c1 c2 (d + 1) f := by
  have hcm := h.cm_none hb hf (.inl ⟨hd, Nat.le_refl _⟩)
  refine h.ext (Nat.le_refl _) (Nat.le_refl _) (Nat.le_refl _) (Nat.le_succ _) (Nat.le_refl _) (fun _ _ h => h) (fun j k hk => upN_keep hcm hk) (fun i h1 h2 h3 => .inl h1) (fun i j' x' y' h1 h2 h3 h4 => .inl h1) (fun i j' x y h1 h2 _ _ _ => .inl h1) (fun j b' hb' hfj hh => ?_) (fun i k hk => .inl hk) (fun j' k hk => ?_) (fun i e => by cases e) (fun i j' e => by cases e) (fun i j' e => by cases e) (fun j e => ?_) (fun j e => by cases e) (fun j h e => by cases e) (fun i j _ _ e => by cases e) (fun i j _ _ e => by cases e) ?_ ?_
  · by_cases e : j = d
    · exact .inr ⟨_, by rw [e]; exact upN_at _ _ _⟩
    · refine .inl (hh.imp (fun g => ⟨g.1, by omega⟩) id)
  · rcases up_new hk with g | ⟨rfl, rfl⟩
    · exact .inl g
    · exact .inr ⟨rfl, .inr ⟨hf, (List.getElem?_eq_some_iff.1 hb).1, .inl rfl⟩⟩
  · cases e
    exact ⟨⟨hf, upN_at _ _ _, b, hb, hd⟩, by omega⟩
  · refine edgeA_ext h.mdI (fun i j e => by cases e) (fun i j e => by cases e) (fun j' k hk => upN_keep hcm hk) (fun j' k hk => ?_)
    rcases up_new hk with g | ⟨rfl, rfl⟩
    · exact .inl g
    · exact .inr (h.fresh M hf)
  · have : cN (fun j => (eg t j).dir) (d + 1) = cN (fun j => (eg t j).dir) d + 1 := cN_one (by show (eg t d).dir = true; rw [eg_at hb]; exact hd)
    rw [this]
    have := h.len
    omega
theorem DA.wri (M : Mat fold s t to fr) (h : DA fold s t to fr ms lv cm md a c1 c2 d f) {b : EntD} (hb : t[f]? = some b) (hd : b.dir = false) (hf : fr f = none) (hno : ∀ a ∈ s, a.dir = false → a.id ≠ b.id) : DA fold s t to fr (ms ++ [.wri f]) lv (upN cm f (some ms.length)) md a c1 c2 d (f + 1) := by
  have hcm := h.cm_none hb hf (.inr ⟨hd, Nat.le_refl _⟩)
  refine h.ext (Nat.le_refl _) (Nat.le_refl _) (Nat.le_refl _) (Nat.le_refl _) (Nat.le_succ _) (fun _ _ h => h) (fun j k hk => upN_keep hcm hk) (fun i h1 h2 h3 => .inl h1) (fun i j' x' y' h1 h2 h3 h4 => .inl h1) (fun i j' x y h1 h2 _ _ _ => .inl h1) (fun j b' hb' hfj hh => ?_) (fun i k hk => .inl hk) (fun j' k hk => ?_) (fun i e => by cases e) (fun i j' e => by cases e) (fun i j' e => by cases e) (fun j e => by cases e) (fun j e => ?_) (fun j h e => by cases e) (fun i j _ _ e => by cases e) (fun i j _ _ e => by cases e) ?_ ?_
  · by_cases e : j = f
    · exact .inr ⟨_, by rw [e]; exact upN_at _ _ _⟩
    · refine .inl (hh.imp id (fun g => ⟨g.1, by omega⟩))
  · rcases up_new hk with g | ⟨rfl, rfl⟩
    · exact .inl g
    · exact .inr ⟨rfl, .inr ⟨hf, (List.getElem?_eq_some_iff.1 hb).1, .inr (.inl rfl)⟩⟩
  · cases e
    exact ⟨⟨hf, upN_at _ _ _, b, hb, hd, hno⟩, by omega⟩
  · refine edgeA_ext h.mdI (fun i j e => by cases e) (fun i j e => by cases e) (fun j' k hk => upN_keep hcm hk) (fun j' k hk => ?_)
    rcases up_new hk with g | ⟨rfl, rfl⟩
    · exact .inl g
    · exact .inr (h.fresh M hf)
  · have : cN (fun j => !(eg t j).dir) (f + 1) = cN (fun j => !(eg t j).dir) f + 1 := cN_one (by show (!(eg t f).dir) = true; rw [eg_at hb, hd]; rfl)
    rw [this]
    have := h.len
    omega
theorem DA.cpy (M : Mat fold s t to fr) (h : DA fold s t to fr ms lv cm md a c1 c2 d f) {b c : EntD} {q i : Nat} (hb : t[f]? = some b) (hd : b.dir = false) (hf : fr f = none) (hc : t[q]? = some c) (hid : c.id = b.id) (hq : fr q = some i) : DA fold s t to fr (ms ++ [.cpy f q]) lv (upN cm f (some ms.length)) (wt (upN cm f (some ms.length) q) ms.length md) a c1 c2 d (f + 1) := by
  have hcm := h.cm_none hb hf (.inr ⟨hd, Nat.le_refl _⟩)
  have hqf : q ≠ f := fun e => by rw [e, hf] at hq; cases hq
  refine h.ext (Nat.le_refl _) (Nat.le_refl _) (Nat.le_refl _) (Nat.le_refl _) (Nat.le_succ _) (fun _ _ h => h) (fun j k hk => upN_keep hcm hk) (fun i h1 h2 h3 => .inl h1) (fun i j' x' y' h1 h2 h3 h4 => .inl h1) (fun i j' x y h1 h2 _ _ _ => .inl h1) (fun j b' hb' hfj hh => ?_) (fun i k hk => .inl hk) (fun j' k hk => ?_) (fun i e => by cases e) (fun i j' e => by cases e) (fun i j' e => by cases e) (fun j e => by cases e) (fun j e => by cases e) (fun j h e => ?_) (fun i j _ _ e => by cases e) (fun i j _ _ e => by cases e) (fun x y => ?_) ?_
  · by_cases e : j = f
    · exact .inr ⟨_, by rw [e]; exact upN_at _ _ _⟩
    · refine .inl (hh.imp id (fun g => ⟨g.1, by omega⟩))
  · rcases up_new hk with g | ⟨rfl, rfl⟩
    · exact .inl g
    · exact .inr ⟨rfl, .inr ⟨hf, (List.getElem?_eq_some_iff.1 hb).1, .inr (.inr ⟨q, rfl⟩)⟩⟩
  · cases e
    exact ⟨⟨hf, upN_at _ _ _, b, c, i, hb, hc, hd, hid, hq⟩, by omega⟩
  · rw [wt_mem, h.mdI]
    constructor
    · rintro ((⟨i, j', g1, g2⟩ | ⟨j', q', g1, g2⟩) | ⟨g1, rfl⟩)
      · exact .inl ⟨i, j', snoc_get.2 (.inl g1), upN_keep hcm g2⟩
      · exact .inr ⟨j', q', snoc_get.2 (.inl g1), upN_keep hcm g2⟩
      · exact .inr ⟨f, q, snoc_get.2 (.inr ⟨rfl, rfl⟩), g1⟩
    · rintro (⟨i, j', g1, g2⟩ | ⟨j', q', g1, g2⟩)
      · rcases snoc_get.1 g1 with g3 | ⟨rfl, g3⟩
        · rcases up_new g2 with g | ⟨rfl, _⟩
          · exact .inl (.inl ⟨i, j', g3, g⟩)
          · exact absurd g3 ((h.fresh M hf).1 _ _)
        · cases g3
      · rcases snoc_get.1 g1 with g3 | ⟨rfl, g3⟩
        · rcases up_new g2 with g | ⟨rfl, _⟩
          · exact .inl (.inr ⟨j', q', g3, g⟩)
          · exact absurd g3 ((h.fresh M hf).2 _ _)
        · cases g3
          exact .inr ⟨g2, rfl⟩
  · have : cN (fun j => !(eg t j).dir) (f + 1) = cN (fun j => !(eg t j).dir) f + 1 := cN_one (by show (!(eg t f).dir) = true; rw [eg_at hb, hd]; rfl)
    rw [this]
    have := h.len
    omega
theorem DA.few (h : DA fold s t to fr ms lv cm md s.length s.length s.length t.length t.length) : ms.length ≤ 2 * s.length + t.length := by
  have := h.len
  have h1 := cN_split (fun i => (to i).isNone) s.length
  have h2 := cN_split (fun j => (eg t j).dir) t.length
  have h3 := cN_le (fun i => !(to i).isNone) s.length
  omega
end
end Go.Proofs.YtpjjagalekolaaaGreatDoor

