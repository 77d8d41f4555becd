/- Plain facts on lists of bytes: the pieces between the slashes. No program in this text. -/
import Derived.Lib.IndexLaws
namespace Go.Proofs.YtpjjagalekolaaaGreatDoor
open Go.Lib

/-- The pieces of a list of bytes between the bytes 47, read from the left: those that are done, and the one under way. -/
def splStep (st : List (List UInt8) × List UInt8) (c : UInt8) : List (List UInt8) × List UInt8 :=
  if c = 47 then (st.1 ++ [st.2], []) else (st.1, st.2 ++ [c])
def splSt (l : List UInt8) : List (List UInt8) × List UInt8 := l.foldl splStep ([], [])
def spl (l : List UInt8) : List (List UInt8) := (splSt l).1 ++ [(splSt l).2]

theorem splSt_snoc (l : List UInt8) (c : UInt8) : splSt (l ++ [c]) = splStep (splSt l) c := by
  simp [splSt, List.foldl_append]

theorem fold_pre (l : List UInt8) : ∀ (d : List (List UInt8)) (u : List UInt8), l.foldl splStep (d, u) = (d ++ (l.foldl splStep ([], u)).1, (l.foldl splStep ([], u)).2) := by
  induction l with
  | nil => intro d u; simp
  | cons c l ih =>
    intro d u
    simp only [List.foldl_cons, splStep]
    split
    · rw [ih (d ++ [u]) [], ih ([] ++ [u]) []]; simp
    · rw [ih d (u ++ [c])]

theorem fold_none (l : List UInt8) (h : ∀ c ∈ l, c ≠ 47) : ∀ u, l.foldl splStep ([], u) = ([], u ++ l) := by
  induction l with
  | nil => intro u; simp
  | cons c l ih =>
    intro u
    simp only [List.foldl_cons, splStep]
    rw [if_neg (h c (by simp)), ih (fun d hd => h d (by simp [hd]))]
    simp

theorem spl_none (l : List UInt8) (h : ∀ c ∈ l, c ≠ 47) : spl l = [l] := by
  have := fold_none l h []
  simp [spl, splSt, this]

theorem spl_cut (a b : List UInt8) (h : ∀ c ∈ a, c ≠ 47) : spl (a ++ 47 :: b) = a :: spl b := by
  have e := fold_none a h []
  simp only [spl, splSt, List.foldl_append, List.foldl_cons, e]
  simp only [splStep, if_pos]
  rw [fold_pre b]
  simp

theorem spl_pos (l : List UInt8) : 1 ≤ (spl l).length := by simp [spl]

theorem indexByte_split (l : List UInt8) (c : UInt8) : (indexByte l c = -1 ∧ ∀ x ∈ l, x ≠ c) ∨ ∃ i : Nat, indexByte l c = i ∧ i < l.length ∧ l = l.take i ++ c :: l.drop (i + 1) ∧ ∀ x ∈ l.take i, x ≠ c := by
  have hge := indexByte_ge l c
  by_cases h : indexByte l c = -1
  · refine .inl ⟨h, fun x hx e => ?_⟩
    obtain ⟨k, hk⟩ := List.mem_iff_getElem?.1 hx
    exact indexByte_none h k (by rw [hk, e])
  · right
    obtain ⟨i, hi⟩ : ∃ i : Nat, indexByte l c = i := ⟨(indexByte l c).toNat, by omega⟩
    obtain ⟨h1, h2⟩ := indexByte_some hi
    obtain ⟨hlt, he⟩ := List.getElem?_eq_some_iff.1 h1
    refine ⟨i, hi, hlt, ?_, fun x hx e => ?_⟩
    · rw [← he, ← List.drop_eq_getElem_cons hlt, List.take_append_drop]
    · obtain ⟨k, hk⟩ := List.mem_iff_getElem?.1 hx
      rw [List.getElem?_take] at hk
      split at hk
      · exact h2 k ‹_› (by rw [hk, e])
      · cases hk

theorem spl_length_le (l : List UInt8) : (spl l).length ≤ l.length + 1 := by
  have h : ∀ (l : List UInt8) (st : List (List UInt8) × List UInt8), (l.foldl splStep st).1.length ≤ st.1.length + l.length := by
    intro l
    induction l with
    | nil => intro st; simp
    | cons c l ih =>
      intro st
      have := ih (splStep st c)
      have e : (splStep st c).1.length ≤ st.1.length + 1 := by unfold splStep; split <;> simp
      simp only [List.foldl_cons, List.length_cons]
      omega
  have := h l ([], [])
  simp only [spl, splSt, List.length_append, List.length_cons, List.length_nil] at *
  omega

end Go.Proofs.YtpjjagalekolaaaGreatDoor

