/- Plain facts on lists of bytes: the pieces between the slashes. No program in this text. -/
import Derived.Lib.Split
import Derived.Lib.SplitLaws
namespace Go.Proofs.YtandkhainljeoaaDoor
open Go.Lib

/-- The pieces of a list of bytes between the bytes 47, read from the left: those that are done, and the one under way. -/
def splStep (st : List (List UInt8) × List UInt8) (c : UInt8) : List (List UInt8) × List UInt8 :=
  if c = 47 then (st.1 ++ [st.2], []) else (st.1, st.2 ++ [c])
def splSt (l : List UInt8) : List (List UInt8) × List UInt8 := l.foldl splStep ([], [])
def spl (l : List UInt8) : List (List UInt8) := (splSt l).1 ++ [(splSt l).2]

theorem splSt_snoc (l : List UInt8) (c : UInt8) : splSt (l ++ [c]) = splStep (splSt l) c := by
  simp [splSt, List.foldl_append]

theorem fold_pre (l : List UInt8) : ∀ (d : List (List UInt8)) (u : List UInt8), l.foldl splStep (d, u) = (d ++ (l.foldl splStep ([], u)).1, (l.foldl splStep ([], u)).2) := by
  induction l with
  | nil => intro d u; simp
  | cons c l ih =>
    intro d u
    simp only [List.foldl_cons, splStep]
    split
    · rw [ih (d ++ [u]) [], ih ([] ++ [u]) []]; simp
    · rw [ih d (u ++ [c])]

theorem fold_none (l : List UInt8) (h : ∀ c ∈ l, c ≠ 47) : ∀ u, l.foldl splStep ([], u) = ([], u ++ l) := by
  induction l with
  | nil => intro u; simp
  | cons c l ih =>
    intro u
    simp only [List.foldl_cons, splStep]
    rw [if_neg (h c (by simp)), ih (fun d hd => h d (by simp [hd]))]
    simp

theorem spl_none (l : List UInt8) (h : ∀ c ∈ l, c ≠ 47) : spl l = [l] := by
  have := fold_none l h []
  simp [spl, splSt, this]

theorem spl_cut (a b : List UInt8) (h : ∀ c ∈ a, c ≠ 47) : spl (a ++ 47 :: b) = a :: spl b := by
  have e := fold_none a h []
  simp only [spl, splSt, List.foldl_append, List.foldl_cons, e]
  simp only [splStep, if_pos]
  rw [fold_pre b]
  simp

theorem spl_pos (l : List UInt8) : 1 ≤ (spl l).length := by simp [spl]

theorem occ_one (l : List UInt8) (j : Nat) : occAt l [47] j = (l[j]? == some 47) := by
  by_cases h : j + 1 ≤ l.length
  · rw [occAt_iff_take l [47] j (by simpa using h)]
    rw [List.drop_eq_getElem_cons (by omega : j < l.length), List.getElem?_eq_getElem (by omega : j < l.length)]
    show (List.take 1 _ == _) = _
    rw [List.take_succ_cons, List.take_zero]
    rw [Bool.eq_iff_iff]; simp
  · have e : l[j]? = none := List.getElem?_eq_none (by omega)
    rw [e]
    cases ho : occAt l [47] j
    · simp
    · have := occAt_head (c := 47) (t := []) rfl ho
      rw [e] at this; cases this

/-- The library's cut is ours, as far as it goes. -/
theorem index_split (l : List UInt8) : (index l [47] = -1 ∧ ∀ c ∈ l, c ≠ 47) ∨ ∃ i : Nat, index l [47] = i ∧ ∃ b, l = l.take i ++ 47 :: b ∧ l.drop (i + 1) = b ∧ ∀ c ∈ l.take i, c ≠ 47 := by
  by_cases h : ∃ j : Nat, l[j]? = some 47
  · right
    have hex : ∃ j : Nat, j ≤ l.length ∧ l[j]? = some 47 := by
      obtain ⟨j, hj⟩ := h
      exact ⟨j, by have := (List.getElem?_eq_some_iff.1 hj).1; omega, hj⟩
    obtain ⟨i, hi, hmin⟩ : ∃ i : Nat, l[i]? = some 47 ∧ ∀ j : Nat, j < i → l[j]? ≠ some 47 := by
      obtain ⟨j, hj⟩ := h
      clear hex
      induction j using Nat.strongRecOn with
      | _ j ih =>
        by_cases hs : ∃ k : Nat, k < j ∧ l[k]? = some 47
        · obtain ⟨k, hk, hk2⟩ := hs
          exact ih k hk hk2
        · exact ⟨j, hj, fun k hk e => hs ⟨k, hk, e⟩⟩
    have hlt := (List.getElem?_eq_some_iff.1 hi).1
    refine ⟨i, index_first (by omega) (by rw [occ_one, hi]; rfl) (fun j hj => by rw [occ_one]; simpa using hmin j hj), l.drop (i + 1), ?_, rfl, ?_⟩
    · have e : l[i] = 47 := (List.getElem?_eq_some_iff.1 hi).2
      rw [← e, ← List.drop_eq_getElem_cons hlt, List.take_append_drop]
    · intro c hc e
      obtain ⟨k, hk⟩ := List.mem_iff_getElem?.1 hc
      rw [List.getElem?_take] at hk
      split at hk
      · exact hmin k ‹_› (by rw [hk, e])
      · cases hk
  · left
    refine ⟨index_none fun j _ => ?_, fun c hc e => ?_⟩
    · rw [occ_one]
      cases hb : (l[j]? == some 47)
      · rfl
      · exact absurd ⟨j, by simpa using hb⟩ h
    · obtain ⟨j, hj⟩ := List.mem_iff_getElem?.1 hc
      exact h ⟨j, by rw [hj, e]⟩

theorem splitK_le (k : Nat) : ∀ l : List UInt8, (spl l).length ≤ k + 1 → splitK [47] 0 k l = spl l := by
  induction k with
  | zero =>
    intro l hl
    rcases index_split l with ⟨_, hn⟩ | ⟨i, _, b, hl2, _, hn⟩
    · rw [spl_none l hn]; rfl
    · rw [hl2, spl_cut _ _ hn] at hl
      have := spl_pos b
      simp only [List.length_cons] at hl
      omega
  | succ k ih =>
    intro l hl
    rcases index_split l with ⟨hi, hn⟩ | ⟨i, hi, b, hl2, hb, hn⟩
    · rw [spl_none l hn, splitK, if_pos (by rw [hi]; rfl)]
    · rw [splitK, if_neg (by rw [hi]; simp), hi]
      have e := spl_cut (l.take i) b hn
      rw [← hl2] at e
      rw [e] at hl ⊢
      simp only [List.length_cons] at hl
      have hd : List.drop ((i : Int).toNat + [(47 : UInt8)].length) l = b := by simpa using hb
      rw [hd, ih b (by omega)]
      simp

theorem splitK_gt (k : Nat) : ∀ l : List UInt8, k + 1 ≤ (spl l).length → (splitK [47] 0 k l).length = k + 1 := by
  induction k with
  | zero => intro l _; rfl
  | succ k ih =>
    intro l hl
    rcases index_split l with ⟨hi, hn⟩ | ⟨i, hi, b, hl2, hb, hn⟩
    · rw [spl_none l hn] at hl
      simp at hl
    · rw [splitK, if_neg (by rw [hi]; simp), hi]
      have e := spl_cut (l.take i) b hn
      rw [← hl2] at e
      rw [e] at hl
      simp only [List.length_cons] at hl
      have hd : List.drop ((i : Int).toNat + [(47 : UInt8)].length) l = b := by simpa using hb
      rw [hd, List.length_cons, ih b (by omega)]

theorem spl_length_le (l : List UInt8) : (spl l).length ≤ l.length + 1 := by
  have h : ∀ (l : List UInt8) (st : List (List UInt8) × List UInt8), (l.foldl splStep st).1.length ≤ st.1.length + l.length := by
    intro l
    induction l with
    | nil => intro st; simp
    | cons c l ih =>
      intro st
      have := ih (splStep st c)
      have e : (splStep st c).1.length ≤ st.1.length + 1 := by unfold splStep; split <;> simp
      simp only [List.foldl_cons, List.length_cons]
      omega
  have := h l ([], [])
  simp only [spl, splSt, List.length_append, List.length_cons, List.length_nil] at *
  omega

end Go.Proofs.YtandkhainljeoaaDoor
