/- Plain: the order of paths by bytes is their order by names. No program in this text. -/
import Derived.Test.YtjaepomjdknieaaDoorCE
namespace Go.Proofs.YtjaepomjdknieaaDoor
open Go.RowKit
set_option linter.unusedVariables false
set_option linter.unusedSimpArgs false

theorem spl_47 (l : List UInt8) : spl (47 :: l) = [] :: spl l := spl_cut [] l (by simp)
theorem spl_head (l : List UInt8) : ∃ h t, spl l = h :: t := by
  cases hs : spl l with
  | nil => have := spl_pos l; rw [hs] at this; simp at this
  | cons h t => exact ⟨h, t, rfl⟩
theorem spl_cons (c : UInt8) (l : List UInt8) (h : List UInt8) (t : List (List UInt8)) (hc : c ≠ 47) (hs : spl l = h :: t) : spl (c :: l) = (c :: h) :: t := by
  rcases indexByte_split l 47 with ⟨_, hn⟩ | ⟨i, _, _, he, hn⟩
  · rw [spl_none l hn] at hs
    obtain ⟨rfl, rfl⟩ := List.cons.inj hs
    exact spl_none _ (by intro x hx; rcases List.mem_cons.1 hx with rfl | hx; exact hc; exact hn x hx)
  · rw [he, spl_cut _ _ hn] at hs
    obtain ⟨e1, e2⟩ := List.cons.inj hs
    have : c :: l = (c :: l.take i) ++ 47 :: l.drop (i + 1) := by rw [List.cons_append, ← he]
    rw [this, spl_cut _ _ (by intro x hx; rcases List.mem_cons.1 hx with rfl | hx; exact hc; exact hn x hx), e1, e2]

theorem lessN_pos (l : List (List UInt8)) (h : 1 ≤ l.length) : lessN [] l = true := by
  cases l with
  | nil => simp at h
  | cons a t => rfl

theorem less_cmp (a b : List UInt8) : lessN (spl a) (spl b) = decide (cmpL a b < 0) := by
  induction a generalizing b with
  | nil =>
    cases b with
    | nil => rfl
    | cons d b =>
      by_cases hd : d = 47
      · subst hd
        rw [spl_47]
        show lessN [[]] ([] :: spl b) = _
        rw [lessN, if_pos rfl, lessN_pos _ (spl_pos b)]; rfl
      · obtain ⟨h, t, hs⟩ := spl_head b
        rw [spl_cons d b h t hd hs]
        show lessN [[]] ((d :: h) :: t) = _
        rw [lessN, if_neg (by simp)]; rfl
  | cons c a ih =>
    obtain ⟨h, t, hs⟩ := spl_head a
    cases b with
    | nil =>
      by_cases hc : c = 47
      · subst hc
        rw [spl_47]
        show lessN ([] :: spl a) [[]] = _
        rw [lessN, if_pos rfl, hs]; rfl
      · rw [spl_cons c a h t hc hs]
        show lessN ((c :: h) :: t) [[]] = _
        rw [lessN, if_neg (by simp)]; rfl
    | cons d b =>
      obtain ⟨h', t', hs'⟩ := spl_head b
      rw [cmpL]
      by_cases he : c = d
      · subst he
        rw [if_pos rfl, ← ih]
        by_cases hc : c = 47
        · subst hc
          rw [spl_47, spl_47, lessN, if_pos rfl]
        · rw [spl_cons c a h t hc hs, spl_cons c b h' t' hc hs', hs, hs', lessN, lessN]
          by_cases hh : h = h'
          · rw [if_pos hh, if_pos (by rw [hh])]
          · rw [if_neg hh, if_neg (by simpa using hh), Op.bytesLess]; simp
      · rw [if_neg he]
        by_cases hc : c = 47
        · subst hc
          have hd : d ≠ 47 := fun e => he e.symm
          rw [if_pos rfl, spl_47, spl_cons d b h' t' hd hs', lessN, if_neg (by simp)]; rfl
        · rw [if_neg hc, spl_cons c a h t hc hs]
          by_cases hd : d = 47
          · subst hd
            rw [if_pos rfl, spl_47, lessN, if_neg (by simp)]; rfl
          · rw [if_neg hd, spl_cons d b h' t' hd hs', lessN, if_neg (by simp [he]), Op.bytesLess]
            have : (c == d) = false := by simpa using he
            rw [this]
            by_cases hlt : c < d
            · rw [if_pos hlt]; simp [hlt]
            · rw [if_neg hlt]; simp [hlt]

/-- The order by numbers of bytes, the slash the least. -/
def rk (c : UInt8) : Nat := if c = 47 then 0 else c.toNat + 1
def key (l : List UInt8) : List Nat := l.map rk
theorem rk_inj {c d : UInt8} (h : rk c = rk d) : c = d := by
  unfold rk at h
  split at h <;> split at h
  · next a b => rw [a, b]
  · omega
  · omega
  · exact UInt8.toNat_inj.1 (by omega)
theorem rk_cmp {c d : UInt8} (h : c ≠ d) : (if c = 47 then (-1 : Int) else if d = 47 then 1 else if c < d then -1 else 1) = if rk c < rk d then -1 else 1 := by
  unfold rk
  by_cases h1 : c = 47
  · have h2 : d ≠ 47 := fun e => h (h1.trans e.symm)
    simp [h1, h2]
  · by_cases h2 : d = 47
    · simp [h1, h2]
    · have : c < d ↔ c.toNat < d.toNat := UInt8.lt_iff_toNat_lt
      simp [h1, h2, this]
theorem cmpL_key (a b : List UInt8) : (cmpL a b < 0 ↔ key a < key b) ∧ (0 < cmpL a b ↔ key b < key a) ∧ (cmpL a b = 0 ↔ a = b) := by
  induction a generalizing b with
  | nil =>
    cases b with
    | nil => simp [cmpL, key]
    | cons d b => simp [cmpL, key]
  | cons c a ih =>
    cases b with
    | nil => simp [cmpL, key]
    | cons d b =>
      rw [cmpL]
      simp only [key, List.map_cons, List.cons_lt_cons_iff]
      by_cases he : c = d
      · subst he
        rw [if_pos rfl]
        have := ih b
        simp only [key] at this
        simpa using this
      · rw [if_neg he, rk_cmp he]
        have hne : rk c ≠ rk d := fun e => he (rk_inj e)
        by_cases hlt : rk c < rk d
        · rw [if_pos hlt]
          simp only [hlt, true_or, he, List.cons.injEq, false_and]
          refine ⟨by simp, ⟨fun h => by omega, fun h => by omega⟩, ⟨fun h => by omega, fun h => h.elim⟩⟩
        · rw [if_neg hlt]
          have hgt : rk d < rk c := by omega
          simp only [hlt, hgt, true_or, he, List.cons.injEq, false_and]
          refine ⟨⟨fun h => by omega, fun h => by rcases h with h | h; exact h.elim; exact absurd h.1 hne⟩, by simp, ⟨fun h => by omega, fun h => h.elim⟩⟩
theorem key_inj {a b : List UInt8} (h : key a = key b) : a = b := by
  have h1 := (cmpL_key a b).1
  have h2 := (cmpL_key a b).2.1
  rw [h] at h1 h2
  have i := List.lt_irrefl (key b)
  exact (cmpL_key a b).2.2.1 (by have : ¬ cmpL a b < 0 := fun x => i (h1.1 x); have : ¬ 0 < cmpL a b := fun x => i (h2.1 x); omega)
theorem key_prefix (a : List UInt8) (b : List UInt8) (h : b ≠ []) : key a < key (a ++ b) := by
  induction a with
  | nil => cases b with
    | nil => exact absurd rfl h
    | cons c b => simp [key]
  | cons c a ih => simp only [key, List.map_cons, List.cons_append, List.cons_lt_cons_iff] at ih ⊢; simpa using ih
theorem parentL_lt (l : List UInt8) (h : parentL l ≠ []) : key (parentL l) < key l := by
  rcases indexByte_split l.reverse 47 with ⟨_, hn⟩ | ⟨i, _, _, he, hn⟩
  · exact absurd (parentL_none l (fun c hc => hn c (by simpa using hc))) h
  · have e2 : l = (l.reverse.drop (i + 1)).reverse ++ 47 :: (l.reverse.take i).reverse := by
      have := congrArg List.reverse he
      rw [List.reverse_reverse] at this
      refine this.trans ?_
      rw [List.reverse_append, List.reverse_cons, List.append_assoc, List.singleton_append]
    have hp : parentL l = (l.reverse.drop (i + 1)).reverse := by
      rw [e2, parentL_cut]
      · rw [← e2]
      · intro c hc; exact hn c (by simpa using hc)
    rw [hp]
    conv => rhs; rw [e2]
    exact key_prefix _ _ (by simp)
end Go.Proofs.YtjaepomjdknieaaDoor
