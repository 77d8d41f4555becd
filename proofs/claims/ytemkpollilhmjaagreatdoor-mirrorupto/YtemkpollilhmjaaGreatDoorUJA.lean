/- Plain: what differs between two trees; and what is found by paths as two trees are gone through side by side. No program in this text. -/
import Derived.Test.YtemkpollilhmjaaGreatDoorU08
namespace Go.Proofs.YtemkpollilhmjaaGreatDoor
open Go.RowKit
set_option linter.unusedVariables false
set_option linter.unusedSimpArgs false

structure ChD where
  path : ByteArray
  kind : Int
  src : ByteArray
def ChD.cells (c : ChD) : List Value := [.string c.path, .int .i64 c.kind, .string c.src]
def flatC (l : List ChD) : List Value := (l.map ChD.cells).flatten
theorem flatC_length (l : List ChD) : (flatC l).length = l.length * 3 := by
  induction l with
  | nil => rfl
  | cons o l ih => simp only [flatC, List.map_cons, List.flatten_cons, List.length_append, List.length_cons] at *; rw [ih]; simp [ChD.cells]; omega
theorem flatC_snoc (l : List ChD) (c : ChD) : flatC (l ++ [c]) = flatC l ++ c.cells := by simp [flatC]
theorem flatC_get (l : List ChD) : ∀ (k : Nat) (h : k < l.length) (j : Nat) (hj : j < 3), (flatC l)[k * 3 + j]? = l[k].cells[j]? := by
  induction l with
  | nil => intro k h; simp at h
  | cons o l ih =>
    intro k h j hj
    simp only [flatC, List.map_cons, List.flatten_cons]
    cases k with
    | zero =>
      rw [List.getElem?_append_left (by simp [ChD.cells]; omega)]; simp
    | succ k =>
      rw [List.getElem?_append_right (by simp [ChD.cells]; omega)]
      have e : (k + 1) * 3 + j - o.cells.length = k * 3 + j := by simp [ChD.cells]; omega
      rw [e]
      exact ih k (by simpa using h) j hj
theorem chCells_one (c : ChD) : ∀ u ∈ c.cells, u.oneCell' = true := by
  intro u hu
  simp only [ChD.cells, List.mem_cons, List.not_mem_nil, or_false] at hu
  rcases hu with rfl | rfl | rfl <;> rfl

def idIs (id : Int) (o : EntD) : Bool := decide (o.id = id)
def pathIs (p : ByteArray) (o : EntD) : Bool := o.path.data.toList == p.data.toList
def srcB (S : List EntD) (e : EntD) : ByteArray := if e.dir then ⟨#[]⟩ else ((S.find? (idIs e.id)).map (·.path)).getD ⟨#[]⟩
def eqB (a b : EntD) : Bool := (a.path.data.toList == b.path.data.toList) && (a.dir == b.dir) && decide (a.id = b.id) && decide (a.size = b.size) && decide (a.mode = b.mode)
def chgB (S : List EntD) (a b : EntD) : ChD :=
  if a.dir ≠ b.dir then ⟨b.path, 3, srcB S b⟩ else if a.id ≠ b.id ∨ a.size ≠ b.size then ⟨b.path, 4, srcB S b⟩ else ⟨b.path, 5, ⟨#[]⟩⟩

def diffL (S : List EntD) : List EntD → List EntD → List ChD
  | [], [] => []
  | a :: s, [] => ⟨a.path, 2, ⟨#[]⟩⟩ :: diffL S s []
  | [], b :: t => ⟨b.path, 1, srcB S b⟩ :: diffL S [] t
  | a :: s, b :: t =>
    if cmpL a.path.data.toList b.path.data.toList < 0 then ⟨a.path, 2, ⟨#[]⟩⟩ :: diffL S s (b :: t)
    else if 0 < cmpL a.path.data.toList b.path.data.toList then ⟨b.path, 1, srcB S b⟩ :: diffL S (a :: s) t
    else if eqB a b then diffL S s t else chgB S a b :: diffL S s t
termination_by s t => s.length + t.length

theorem diffL_len (S : List EntD) : ∀ (n : Nat) (s t : List EntD), s.length + t.length ≤ n → (diffL S s t).length ≤ s.length + t.length := by
  intro n
  induction n with
  | zero =>
    intro s t h
    cases s with
    | nil => cases t with
      | nil => rw [diffL]; simp
      | cons b t => simp at h
    | cons a s => simp at h
  | succ n ih =>
    intro s t h
    cases s with
    | nil => cases t with
      | nil => rw [diffL]; simp
      | cons b t =>
        rw [diffL]
        have := ih [] t (by simp at h ⊢; omega)
        simp at this ⊢; omega
    | cons a s => cases t with
      | nil =>
        rw [diffL]
        have := ih s [] (by simp at h ⊢; omega)
        simp at this ⊢; omega
      | cons b t =>
        rw [diffL]
        have h1 := ih s (b :: t) (by simp at h ⊢; omega)
        have h2 := ih (a :: s) t (by simp at h ⊢; omega)
        have h3 := ih s t (by simp at h ⊢; omega)
        simp only [List.length_cons] at h1 h2 h3 ⊢
        split
        · simp only [List.length_cons]; omega
        · split
          · simp only [List.length_cons]; omega
          · split
            · omega
            · simp only [List.length_cons]; omega

theorem diffL_gone (S s t : List EntD) (i j : Nat) (hi : i < s.length) (hj : ∀ h : j < t.length, cmpL s[i].path.data.toList t[j].path.data.toList < 0) :
    diffL S (s.drop i) (t.drop j) = ⟨s[i].path, 2, ⟨#[]⟩⟩ :: diffL S (s.drop (i + 1)) (t.drop j) := by
  rw [List.drop_eq_getElem_cons hi]
  by_cases h : j < t.length
  · rw [List.drop_eq_getElem_cons h, diffL, if_pos (hj h)]
  · rw [List.drop_of_length_le (by omega : t.length ≤ j), diffL]
theorem diffL_made (S s t : List EntD) (i j : Nat) (hj : j < t.length) (hi : ∀ h : i < s.length, 0 < cmpL s[i].path.data.toList t[j].path.data.toList) :
    diffL S (s.drop i) (t.drop j) = ⟨t[j].path, 1, srcB S t[j]⟩ :: diffL S (s.drop i) (t.drop (j + 1)) := by
  rw [List.drop_eq_getElem_cons hj]
  by_cases h : i < s.length
  · rw [List.drop_eq_getElem_cons h, diffL, if_neg (by have := hi h; omega), if_pos (hi h)]
  · rw [List.drop_of_length_le (by omega : s.length ≤ i), diffL]
theorem diffL_both (S s t : List EntD) (i j : Nat) (hi : i < s.length) (hj : j < t.length) (h : cmpL s[i].path.data.toList t[j].path.data.toList = 0) :
    diffL S (s.drop i) (t.drop j) = if eqB s[i] t[j] then diffL S (s.drop (i + 1)) (t.drop (j + 1)) else chgB S s[i] t[j] :: diffL S (s.drop (i + 1)) (t.drop (j + 1)) := by
  rw [List.drop_eq_getElem_cons hj, List.drop_eq_getElem_cons hi, diffL, if_neg (by omega), if_neg (by omega)]
theorem diffL_end (S s t : List EntD) (i j : Nat) (hi : s.length ≤ i) (hj : t.length ≤ j) : diffL S (s.drop i) (t.drop j) = [] := by
  rw [List.drop_of_length_le hi, List.drop_of_length_le hj, diffL]

/-- Where two trees are gone through side by side: what is behind is less than what is ahead. -/
structure Mrg (S T : List EntD) (i k : Nat) : Prop where
  st : ∀ (j : Nat) (hj : j < S.length), j < i → ∀ (m : Nat) (hm : m < T.length), k ≤ m → key S[j].path.data.toList < key T[m].path.data.toList
  ts : ∀ (j : Nat) (hj : j < T.length), j < k → ∀ (m : Nat) (hm : m < S.length), i ≤ m → key T[j].path.data.toList < key S[m].path.data.toList
theorem Mrg.start (S T : List EntD) : Mrg S T 0 0 := ⟨fun j _ h => by omega, fun j _ h => by omega⟩

section
variable {S T : List EntD} {i k : Nat}
theorem le_last (hT : TreeOk T) (x : List UInt8) (hk : k < T.length) (h : key x < key T[k].path.data.toList) : ∀ (m : Nat) (hm : m < T.length), k ≤ m → key x < key T[m].path.data.toList := by
  intro m hm hkm
  by_cases e : k = m
  · subst e; exact h
  · exact List.lt_trans h (hT.order k m hk hm (by omega))
theorem Mrg.gone (h : Mrg S T i k) (hT : TreeOk T) (hi : i < S.length) (hk : ∀ h : k < T.length, cmpL S[i].path.data.toList T[k].path.data.toList < 0) : Mrg S T (i + 1) k := by
  refine ⟨fun j hj hji m hm hkm => ?_, fun j hj hjk m hm him => h.ts j hj hjk m hm (by omega)⟩
  by_cases e : j = i
  · subst e
    have hk' : k < T.length := by omega
    exact le_last hT _ hk' ((cmpL_key _ _).1.1 (hk hk')) m hm hkm
  · exact h.st j hj (by omega) m hm hkm
theorem Mrg.made (h : Mrg S T i k) (hS : TreeOk S) (hk : k < T.length) (hi : ∀ h : i < S.length, 0 < cmpL S[i].path.data.toList T[k].path.data.toList) : Mrg S T i (k + 1) := by
  refine ⟨fun j hj hji m hm hkm => h.st j hj hji m hm (by omega), fun j hj hjk m hm him => ?_⟩
  by_cases e : j = k
  · subst e
    have hi' : i < S.length := by omega
    exact le_last hS _ hi' ((cmpL_key _ _).2.1.1 (hi hi')) m hm him
  · exact h.ts j hj (by omega) m hm him
theorem Mrg.both (h : Mrg S T i k) (hS : TreeOk S) (hT : TreeOk T) (hi : i < S.length) (hk : k < T.length) (he : cmpL S[i].path.data.toList T[k].path.data.toList = 0) : Mrg S T (i + 1) (k + 1) := by
  have e0 := (cmpL_key _ _).2.2.1 he
  refine ⟨fun j hj hji m hm hkm => ?_, fun j hj hjk m hm him => ?_⟩
  · by_cases e : j = i
    · subst e; rw [e0]; exact hT.order k m hk hm (by omega)
    · exact h.st j hj (by omega) m hm (by omega)
  · by_cases e : j = k
    · subst e; rw [← e0]; exact hS.order i m hi hm (by omega)
    · exact h.ts j hj (by omega) m hm (by omega)

theorem pathIs_false {p : ByteArray} {o : EntD} (h : key o.path.data.toList ≠ key p.data.toList) : pathIs p o = false := by
  cases hp : pathIs p o with
  | false => rfl
  | true => unfold pathIs at hp; rw [eq_of_beq hp] at h; exact absurd rfl h
theorem any_false_of (p : ByteArray) (l : List EntD) (h : ∀ o ∈ l, key o.path.data.toList ≠ key p.data.toList) : l.any (pathIs p) = false := by
  rw [List.any_eq_false]
  intro o ho
  rw [pathIs_false (h o ho)]; simp
theorem ne_of_klt {a b : List Nat} (h : a < b) : a ≠ b := fun e => List.lt_irrefl _ (e ▸ h)
theorem ne_of_kgt {a b : List Nat} (h : a < b) : b ≠ a := fun e => List.lt_irrefl _ (e ▸ h)

theorem find_here (hS : TreeOk S) (hi : i < S.length) (p : ByteArray) (hp : S[i].path = p) : fstI (pathIs p) S = i := by
  refine fstI_hit _ S i hi (by unfold pathIs; rw [hp]; simp) ?_
  refine any_false_of _ _ fun o ho => ?_
  obtain ⟨j, hj, hji, rfl⟩ := of_mem_take S i o ho
  rw [← hp]
  exact ne_of_klt (hS.order j i hj hi hji)
theorem find_notT (h : Mrg S T i k) (hT : TreeOk T) (hi : i < S.length) (p : ByteArray) (hp : S[i].path = p) (hk : ∀ h : k < T.length, cmpL S[i].path.data.toList T[k].path.data.toList < 0) : fstI (pathIs p) T = -1 := by
  refine fstI_none _ _ (any_false_of _ _ fun o ho => ?_)
  obtain ⟨j, hj, rfl⟩ := List.mem_iff_getElem.1 ho
  rw [← hp]
  by_cases hjk : j < k
  · exact ne_of_klt (h.ts j hj hjk i hi (Nat.le_refl _))
  · have hk' : k < T.length := by omega
    exact ne_of_kgt (le_last hT _ hk' ((cmpL_key _ _).1.1 (hk hk')) j hj (by omega))
theorem find_notS (h : Mrg S T i k) (hS : TreeOk S) (hk : k < T.length) (p : ByteArray) (hp : T[k].path = p) (hi : ∀ h : i < S.length, 0 < cmpL S[i].path.data.toList T[k].path.data.toList) : fstI (pathIs p) S = -1 := by
  refine fstI_none _ _ (any_false_of _ _ fun o ho => ?_)
  obtain ⟨j, hj, rfl⟩ := List.mem_iff_getElem.1 ho
  rw [← hp]
  by_cases hji : j < i
  · exact ne_of_klt (h.st j hj hji k hk (Nat.le_refl _))
  · have hi' : i < S.length := by omega
    exact ne_of_kgt (le_last hS _ hi' ((cmpL_key _ _).2.1.1 (hi hi')) j hj (by omega))
end

theorem path_nonempty {l : List UInt8} (h : pathL l = true) : l ≠ [] := by
  intro e
  subst e
  revert h
  decide
theorem ba_ext {a b : ByteArray} (h : a.data.toList = b.data.toList) : a = b := by rw [← eta a, ← eta b, h]
end Go.Proofs.YtemkpollilhmjaaGreatDoor
