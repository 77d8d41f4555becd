/- CH, CI, CJ, FG, FH, FI, VA, VB: in one text. -/
import Derived.Test.YtpjjagalekolaaaGreatDoorY07
import Derived.Deep.RegionHeld3
/- The reference's look at one entry: the entries ahead. -/
namespace Go.Proofs.YtpjjagalekolaaaGreatDoor
open Go.RowKit
set_option linter.unusedVariables false
set_option linter.unusedSimpArgs false

theorem upB_snoc (l : List EntD) (up : ByteArray) (k : Nat) (h : k < l.length) : upB (l.take (k + 1)) up = (upB (l.take k) up || (l[k].dir && (l[k].path.data.toList == up.data.toList))) := by
  rw [upB, any_snoc _ _ _ h, upB, Bool.or_assoc]
theorem twiceB_snoc (l : List EntD) (e : EntD) (k : Nat) (h : k < l.length) : twiceB (l.take (k + 1)) e = (twiceB (l.take k) e || (l[k].path.data.toList == e.path.data.toList)) := by
  rw [twiceB, any_snoc _ _ _ h, twiceB]
theorem sizeB_snoc (l : List EntD) (e : EntD) (k : Nat) (h : k < l.length) : sizeB (l.take (k + 1)) e = (sizeB (l.take k) e || (!e.dir && !l[k].dir && decide (l[k].id = e.id) && decide (l[k].size ≠ e.size))) := by
  rw [sizeB, any_snoc _ _ _ h, sizeB]
theorem take_any_mono (pr : EntD → Bool) (l : List EntD) (k i : Nat) (h : k ≤ i) (hk : (l.take k).any pr = true) : (l.take i).any pr = true := by
  rw [List.any_eq_true] at hk ⊢
  obtain ⟨x, hx, hp⟩ := hk
  refine ⟨x, ?_, hp⟩
  have : l.take k = (l.take i).take k := by rw [List.take_take, Nat.min_eq_left h]
  rw [this] at hx
  exact List.mem_of_mem_take hx

end Go.Proofs.YtpjjagalekolaaaGreatDoor

/- The reference's Check, of trees that do not fold; it tells an error just where the program's does. -/
namespace Go.Proofs.YtpjjagalekolaaaGreatDoor
open Go.RowKit
set_option linter.unusedVariables false
set_option linter.unusedSimpArgs false

theorem fieldsB_true (e : EntD) (h : fieldsB e = true) : 0 ≤ e.mode ∧ e.mode ≤ 511 ∧ ((e.dir = true ∧ e.id = 0 ∧ e.size = 0) ∨ (e.dir = false ∧ 1 ≤ e.id ∧ e.id ≤ 9999 ∧ 0 ≤ e.size ∧ e.size ≤ 100)) := by
  cases hd : e.dir
  · simp [fieldsB, hd] at h
    refine ⟨by omega, by omega, .inr ⟨rfl, by omega, by omega, by omega, by omega⟩⟩
  · simp [fieldsB, hd] at h
    refine ⟨by omega, by omega, .inl ⟨rfl, by omega, by omega⟩⟩

def refGo (l : List EntD) : List EntD → Nat → Int × Int
  | [], _ => (0, 0)
  | e :: t, i => if refErr l i e = 0 then refGo l t (i + 1) else (refErr l i e, i)
def refP (l : List EntD) : Int × Int := if 60 < l.length then (5, 0) else refGo l l 0
theorem refGo_at (l : List EntD) (k : Nat) (h : k < l.length) : refGo l (l.drop k) k = if refErr l k l[k] = 0 then refGo l (l.drop (k + 1)) (k + 1) else (refErr l k l[k], (k : Int)) := by
  rw [List.drop_eq_getElem_cons h, refGo]

/-! Plain: both tell an error of the same lists. -/
theorem chkGo_zero (l : List EntD) : ∀ (t : List EntD) (i : Nat), ((chkGo l t i).1 = 0 ↔ ∀ (k : Nat) (h : k < t.length), chkAt l (i + k) t[k] = 0) := by
  intro t
  induction t with
  | nil => intro i; simp [chkGo]
  | cons e t ih =>
    intro i
    rw [chkGo]
    split
    · next h0 =>
      rw [ih]
      constructor
      · intro h k hk
        cases k with
        | zero => exact h0
        | succ k => have := h k (by simpa using hk); rw [show i + (k + 1) = i + 1 + k by omega]; exact this
      · intro h k hk
        have := h (k + 1) (by simpa using hk)
        rw [show i + 1 + k = i + (k + 1) by omega]; exact this
    · next h0 =>
      constructor
      · intro h; exact absurd h h0
      · intro h; exact absurd (h 0 (by simp)) h0
theorem refGo_zero (l : List EntD) : ∀ (t : List EntD) (i : Nat), ((refGo l t i).1 = 0 ↔ ∀ (k : Nat) (h : k < t.length), refErr l (i + k) t[k] = 0) := by
  intro t
  induction t with
  | nil => intro i; simp [refGo]
  | cons e t ih =>
    intro i
    rw [refGo]
    split
    · next h0 =>
      rw [ih]
      constructor
      · intro h k hk
        cases k with
        | zero => exact h0
        | succ k => have := h k (by simpa using hk); rw [show i + (k + 1) = i + 1 + k by omega]; exact this
      · intro h k hk
        have := h (k + 1) (by simpa using hk)
        rw [show i + 1 + k = i + (k + 1) by omega]; exact this
    · next h0 =>
      constructor
      · intro h; exact absurd h h0
      · intro h; exact absurd (h 0 (by simp)) h0

/-- What a tree is, said plainly. -/
structure TreeOk (l : List EntD) : Prop where
  few : l.length ≤ 60
  names : ∀ o ∈ l, pathL o.path.data.toList = true
  fields : ∀ o ∈ l, fieldsB o = true
  order : ∀ (i j : Nat) (hi : i < l.length) (hj : j < l.length), i < j → key l[i].path.data.toList < key l[j].path.data.toList

theorem order_of_steps (l : List EntD) (h : ∀ (i : Nat) (hi : i + 1 < l.length), key l[i].path.data.toList < key l[i + 1].path.data.toList) : ∀ (i j : Nat) (hi : i < l.length) (hj : j < l.length), i < j → key l[i].path.data.toList < key l[j].path.data.toList := by
  intro i j hi
  induction j with
  | zero => intro hj h0; omega
  | succ j ih =>
    intro hj hij
    by_cases he : i = j
    · subst he; exact h i hj
    · exact List.lt_trans (ih (by omega) (by omega)) (h j hj)
end Go.Proofs.YtpjjagalekolaaaGreatDoor

/- Plain: the program and the reference take the same lists for trees. No program in this text. -/
namespace Go.Proofs.YtpjjagalekolaaaGreatDoor
open Go.RowKit
set_option linter.unusedVariables false
set_option linter.unusedSimpArgs false

theorem entErr_zero (l : List EntD) (i : Nat) (e : EntD) : entErr l i e false = 0 ↔ fieldsB e = true ∧ (0 < i → cmpL ((l[i - 1]?.map (·.path.data.toList)).getD []) e.path.data.toList < 0) ∧ hasParB l e.path = true ∧ otherB (l.take i) e = false := by
  unfold entErr
  by_cases h1 : fieldsB e = true
  · rw [h1, if_neg (by simp)]
    by_cases h2 : 0 < i ∧ 0 ≤ cmpL ((l[i - 1]?.map (·.path.data.toList)).getD []) e.path.data.toList
    · rw [if_pos h2]
      constructor
      · intro h; omega
      · rintro ⟨_, h, _⟩; have := h h2.1; omega
    · rw [if_neg h2]
      have h2' : 0 < i → cmpL ((l[i - 1]?.map (·.path.data.toList)).getD []) e.path.data.toList < 0 := fun h => by
        by_cases hx : cmpL ((l[i - 1]?.map (·.path.data.toList)).getD []) e.path.data.toList < 0
        · exact hx
        · exact absurd ⟨h, by omega⟩ h2
      by_cases h3 : hasParB l e.path = true
      · rw [h3, if_neg (by simp), if_neg (by simp)]
        by_cases h4 : otherB (l.take i) e = true
        · rw [if_pos h4]; simp [h4]
        · rw [if_neg h4]; simp only [Bool.not_eq_true] at h4; simp [h4]; exact h2'
      · simp only [Bool.not_eq_true] at h3
        rw [if_pos h3]; simp [h3]
  · simp only [Bool.not_eq_true] at h1
    rw [if_pos h1]; simp [h1]
theorem refErr_zero (l : List EntD) (i : Nat) (e : EntD) : refErr l i e = 0 ↔ pathL e.path.data.toList = true ∧ fieldsB e = true ∧ (0 < i → cmpL ((l[i - 1]?.map (·.path.data.toList)).getD []) e.path.data.toList < 0) ∧ upB (l.take i) (parentB e.path) = true ∧ twiceB (l.take i) e = false ∧ sizeB (l.take i) e = false := by
  unfold refErr
  rw [less_cmp]
  by_cases h0 : pathL e.path.data.toList = true
  · rw [h0, if_neg (by simp)]
    by_cases h1 : fieldsB e = true
    · rw [h1, if_neg (by simp)]
      by_cases h2 : 0 < i ∧ decide (cmpL ((l[i - 1]?.map (·.path.data.toList)).getD []) e.path.data.toList < 0) = false
      · rw [if_pos h2]
        constructor
        · intro h; omega
        · rintro ⟨_, _, h, _⟩; have := h h2.1; have h3 := h2.2; simp at h3; omega
      · rw [if_neg h2]
        have h2' : 0 < i → cmpL ((l[i - 1]?.map (·.path.data.toList)).getD []) e.path.data.toList < 0 := fun h => by
          by_cases hx : cmpL ((l[i - 1]?.map (·.path.data.toList)).getD []) e.path.data.toList < 0
          · exact hx
          · exact absurd ⟨h, by simpa using hx⟩ h2
        by_cases h3 : upB (l.take i) (parentB e.path) = true
        · rw [h3, if_neg (by simp)]
          by_cases h4 : twiceB (l.take i) e = true
          · rw [if_pos h4]; simp [h4]
          · rw [if_neg h4]
            simp only [Bool.not_eq_true] at h4
            by_cases h5 : sizeB (l.take i) e = true
            · rw [if_pos h5]; simp [h5]
            · rw [if_neg h5]; simp only [Bool.not_eq_true] at h5; simp [h4, h5]; exact h2'
        · simp only [Bool.not_eq_true] at h3
          rw [if_pos h3]; simp [h3]
    · simp only [Bool.not_eq_true] at h1
      rw [if_pos h1]; simp [h1]
  · simp only [Bool.not_eq_true] at h0
    rw [if_pos h0]; simp [h0]

theorem prev_at (l : List EntD) (i : Nat) (h : i + 1 < l.length) : (l[i + 1 - 1]?.map (·.path.data.toList)).getD [] = l[i].path.data.toList := by
  rw [show i + 1 - 1 = i by omega, List.getElem?_eq_getElem (by omega : i < l.length)]; rfl
theorem mem_take (l : List EntD) (k j : Nat) (hj : j < l.length) (h : j < k) : l[j] ∈ l.take k := List.mem_take_iff_getElem.2 ⟨j, by omega, rfl⟩
theorem of_mem_take (l : List EntD) (k : Nat) (o : EntD) (h : o ∈ l.take k) : ∃ (j : Nat) (hj : j < l.length), j < k ∧ l[j] = o := by
  obtain ⟨j, hj, he⟩ := List.mem_take_iff_getElem.1 h
  exact ⟨j, by omega, by omega, he⟩
theorem par_toList (p : ByteArray) : (parentB p).toList = parentL p.data.toList := by rw [ba_toList, parentB_eq]

theorem chk_ref (l : List EntD) (h : ∀ (k : Nat) (h : k < l.length), chkAt l k l[k] = 0) : ∀ (k : Nat) (h : k < l.length), refErr l k l[k] = 0 := by
  have A : ∀ (k : Nat) (hk : k < l.length), pathL l[k].path.data.toList = true ∧ entErr l k l[k] false = 0 := by
    intro k hk
    have := h k hk
    unfold chkAt at this
    by_cases hp : pathL l[k].path.data.toList = true
    · rw [hp, if_neg (by simp)] at this; exact ⟨hp, this⟩
    · rw [if_pos (by simpa using hp)] at this; omega
  have ord := order_of_steps l (fun i hi => by
    have := ((entErr_zero _ _ _).1 (A (i + 1) hi).2).2.1 (by omega)
    rw [prev_at l i hi] at this
    exact (cmpL_key _ _).1.1 this)
  intro k hk
  obtain ⟨hp, he⟩ := A k hk
  obtain ⟨hf, ho, hpar, hoth⟩ := (entErr_zero _ _ _).1 he
  refine (refErr_zero _ _ _).2 ⟨hp, hf, ho, ?_, ?_, ?_⟩
  · unfold hasParB at hpar
    unfold upB
    rw [parentB_eq]
    rw [par_toList, parentB_eq] at hpar
    by_cases h0 : parentL l[k].path.data.toList = []
    · rw [h0]; simp
    · rw [if_neg (by simpa using h0)] at hpar
      cases hfd : l.find? (fun o => sameB false o.path.data.toList (parentL l[k].path.data.toList)) with
      | none => rw [hfd] at hpar; cases hpar
      | some o =>
        rw [hfd] at hpar
        obtain ⟨hpr, j, hj, hjo, _⟩ := List.find?_eq_some_iff_getElem.1 hfd
        have hpe : o.path.data.toList = parentL l[k].path.data.toList := by simpa [sameB] using hpr
        have hlt := parentL_lt _ h0
        have hjk : j < k := by
          rcases Nat.lt_trichotomy j k with h1 | h1 | h1
          · exact h1
          · exfalso
            subst h1
            rw [hjo] at hlt
            rw [hjo] at hpe
            rw [← hpe] at hlt
            exact List.lt_irrefl _ hlt
          · exfalso
            have := ord k j hk hj h1
            rw [hjo, hpe] at this
            exact List.lt_irrefl _ (List.lt_trans this hlt)
        rw [Bool.or_eq_true, List.any_eq_true]
        exact .inr ⟨o, hjo ▸ mem_take l k j hj hjk, by simp [hpar, hpe]⟩
  · cases ht : twiceB (l.take k) l[k] with
    | false => rfl
    | true =>
      exfalso
      unfold twiceB at ht
      obtain ⟨o, ho, hp⟩ := List.any_eq_true.1 ht
      obtain ⟨j, hj, hjk, hjo⟩ := of_mem_take l k o ho
      have := ord j k hj hk hjk
      rw [hjo, eq_of_beq hp] at this
      exact List.lt_irrefl _ this
  · cases ht : sizeB (l.take k) l[k] with
    | false => rfl
    | true =>
      exfalso
      unfold sizeB at ht
      obtain ⟨o, ho, hp⟩ := List.any_eq_true.1 ht
      have : otherB (l.take k) l[k] = true := by
        unfold otherB
        rw [List.any_eq_true]
        refine ⟨o, ho, ?_⟩
        simp only [Bool.and_eq_true] at hp
        simp only [Bool.and_eq_true]
        exact ⟨hp.1.2, hp.2⟩
      rw [hoth] at this; cases this

theorem ref_chk (l : List EntD) (h : ∀ (k : Nat) (h : k < l.length), refErr l k l[k] = 0) : ∀ (k : Nat) (h : k < l.length), chkAt l k l[k] = 0 := by
  have A := fun k hk => (refErr_zero _ _ _).1 (h k hk)
  have ord := order_of_steps l (fun i hi => by
    have := (A (i + 1) hi).2.2.1 (by omega)
    rw [prev_at l i hi] at this
    exact (cmpL_key _ _).1.1 this)
  intro k hk
  obtain ⟨hp, hf, ho, hup, htw, hsz⟩ := A k hk
  unfold chkAt
  rw [hp, if_neg (by simp)]
  refine (entErr_zero _ _ _).2 ⟨hf, ho, ?_, ?_⟩
  · unfold hasParB
    unfold upB at hup
    rw [par_toList, parentB_eq]
    rw [parentB_eq] at hup
    by_cases h0 : parentL l[k].path.data.toList = []
    · rw [h0]; simp
    · rw [if_neg (by simpa using h0)]
      rw [Bool.or_eq_true, List.any_eq_true] at hup
      rcases hup with hup | ⟨o, ho1, ho2⟩
      · exact absurd (eq_of_beq hup) h0
      · obtain ⟨j, hj, hjk, hjo⟩ := of_mem_take l k o ho1
        rw [Bool.and_eq_true] at ho2
        have hpe := eq_of_beq ho2.2
        cases hfd : l.find? (fun o => sameB false o.path.data.toList (parentL l[k].path.data.toList)) with
        | none =>
          rw [List.find?_eq_none] at hfd
          exact absurd (by simpa [sameB] using hpe) (hfd o (hjo ▸ List.getElem_mem hj))
        | some o' =>
          obtain ⟨hpr, j', hj', hjo', _⟩ := List.find?_eq_some_iff_getElem.1 hfd
          have hpe' : o'.path.data.toList = parentL l[k].path.data.toList := by simpa [sameB] using hpr
          have : j = j' := by
            rcases Nat.lt_trichotomy j j' with h1 | h1 | h1
            · have := ord j j' hj hj' h1
              rw [hjo, hjo', hpe, hpe'] at this
              exact absurd this (List.lt_irrefl _)
            · exact h1
            · have := ord j' j hj' hj h1
              rw [hjo, hjo', hpe, hpe'] at this
              exact absurd this (List.lt_irrefl _)
          subst this
          have : o = o' := hjo.symm.trans hjo'
          subst this
          exact ho2.1
  · cases ht : otherB (l.take k) l[k] with
    | false => rfl
    | true =>
      exfalso
      unfold otherB at ht
      obtain ⟨o, ho, hp⟩ := List.any_eq_true.1 ht
      obtain ⟨j, hj, hjk, hjo⟩ := of_mem_take l k o ho
      have hfo := (A j hj).2.1
      rw [hjo] at hfo
      obtain ⟨_, _, f1⟩ := fieldsB_true _ hf
      obtain ⟨_, _, f2⟩ := fieldsB_true _ hfo
      simp only [Bool.and_eq_true, decide_eq_true_eq] at hp
      rcases f1 with ⟨d1, i1, z1⟩ | ⟨d1, i1, i2, z1, z2⟩
      · rcases f2 with ⟨d2, i3, z3⟩ | ⟨d2, i3, i4, z3, z4⟩
        · exact hp.2 (by omega)
        · omega
      · rcases f2 with ⟨d2, i3, z3⟩ | ⟨d2, i3, i4, z3, z4⟩
        · omega
        · have : sizeB (l.take k) l[k] = true := by
            unfold sizeB
            rw [List.any_eq_true]
            exact ⟨o, ho, by simp [d1, d2, hp.1]; exact hp.2⟩
          rw [hsz] at this; cases this

theorem tree_same (l : List EntD) : treeB l = ((refP l).1 == 0) := by
  rw [Bool.eq_iff_iff]
  unfold treeB chkP refP
  rw [beq_iff_eq, beq_iff_eq]
  by_cases h6 : 60 < l.length
  · rw [if_pos h6, if_pos h6]
  · rw [if_neg h6, if_neg h6, chkGo_zero, refGo_zero]
    simp only [Nat.zero_add]
    exact ⟨chk_ref l, ref_chk l⟩
theorem tree_ok (l : List EntD) (h : treeB l = true) : TreeOk l := by
  unfold treeB chkP at h
  rw [beq_iff_eq] at h
  by_cases h6 : 60 < l.length
  · rw [if_pos h6] at h; cases h
  · rw [if_neg h6, chkGo_zero] at h
    simp only [Nat.zero_add] at h
    have A := fun k hk => (refErr_zero _ _ _).1 (chk_ref l h k hk)
    refine ⟨by omega, fun o ho => ?_, fun o ho => ?_, order_of_steps l (fun i hi => ?_)⟩
    · obtain ⟨k, hk, rfl⟩ := List.mem_iff_getElem.1 ho
      exact (A k hk).1
    · obtain ⟨k, hk, rfl⟩ := List.mem_iff_getElem.1 ho
      exact (A k hk).2.1
    · have := (A (i + 1) hi).2.2.1 (by omega)
      rw [prev_at l i hi] at this
      exact (cmpL_key _ _).1.1 this
end Go.Proofs.YtpjjagalekolaaaGreatDoor

/- The reference's look at one entry, of trees that fold. -/
namespace Go.Proofs.YtpjjagalekolaaaGreatDoor
open Go.RowKit
set_option linter.unusedVariables false
set_option linter.unusedSimpArgs false

def twiceT (l : List EntD) (e : EntD) : Bool := l.any fun o => sameB true o.path.data.toList e.path.data.toList
def refErT (l : List EntD) (i : Nat) (e : EntD) : Int :=
  if pathL e.path.data.toList = false then 1
  else if fieldsB e = false then 4
  else if 0 < i ∧ lessN (spl ((l[i - 1]?.map (·.path.data.toList)).getD [])) (spl e.path.data.toList) = false then 3
  else if upB (l.take i) (parentB e.path) = false then 2
  else if twiceT (l.take i) e = true then 8
  else if sizeB (l.take i) e = true then 6 else 0

end Go.Proofs.YtpjjagalekolaaaGreatDoor

/- The reference's look at one entry of trees that fold: the entries ahead. -/
namespace Go.Proofs.YtpjjagalekolaaaGreatDoor
open Go.RowKit
set_option linter.unusedVariables false
set_option linter.unusedSimpArgs false

theorem twiceT_snoc (l : List EntD) (e : EntD) (k : Nat) (h : k < l.length) : twiceT (l.take (k + 1)) e = (twiceT (l.take k) e || sameB true l[k].path.data.toList e.path.data.toList) := by
  rw [twiceT, any_snoc _ _ _ h, twiceT]
end Go.Proofs.YtpjjagalekolaaaGreatDoor

/- The reference's Check, of trees that fold. -/
namespace Go.Proofs.YtpjjagalekolaaaGreatDoor
open Go.RowKit
set_option linter.unusedVariables false
set_option linter.unusedSimpArgs false

def refGoT (l : List EntD) : List EntD → Nat → Int × Int
  | [], _ => (0, 0)
  | e :: t, i => if refErT l i e = 0 then refGoT l t (i + 1) else (refErT l i e, i)
def refPT (l : List EntD) : Int × Int := if 60 < l.length then (5, 0) else refGoT l l 0
theorem refGoT_at (l : List EntD) (k : Nat) (h : k < l.length) : refGoT l (l.drop k) k = if refErT l k l[k] = 0 then refGoT l (l.drop (k + 1)) (k + 1) else (refErT l k l[k], (k : Int)) := by
  rw [List.drop_eq_getElem_cons h, refGoT]

theorem refGoT_zero (l : List EntD) : ∀ (t : List EntD) (i : Nat), ((refGoT l t i).1 = 0 ↔ ∀ (k : Nat) (h : k < t.length), refErT l (i + k) t[k] = 0) := by
  intro t
  induction t with
  | nil => intro i; simp [refGoT]
  | cons e t ih =>
    intro i
    rw [refGoT]
    split
    · next h0 =>
      rw [ih]
      constructor
      · intro h k hk
        cases k with
        | zero => exact h0
        | succ k => have := h k (by simpa using hk); rw [show i + (k + 1) = i + 1 + k by omega]; exact this
      · intro h k hk
        have := h (k + 1) (by simpa using hk)
        rw [show i + 1 + k = i + (k + 1) by omega]; exact this
    · next h0 =>
      constructor
      · intro h; exact absurd h h0
      · intro h; exact absurd (h 0 (by simp)) h0

end Go.Proofs.YtpjjagalekolaaaGreatDoor

/- Plain: paths by folding, what is below a path, lists in the order of paths. No program in this text. -/
namespace Go.Proofs.YtpjjagalekolaaaGreatDoor
open Go.RowKit
set_option linter.unusedVariables false
set_option linter.unusedSimpArgs false

abbrev BL := List UInt8
def EntD.pl (o : EntD) : BL := o.path.data.toList
def EntD.withP (o : EntD) (l : BL) : EntD := { o with path := ⟨l.toArray⟩ }
theorem pl_withP (o : EntD) (l : BL) : (o.withP l).pl = l := by simp [EntD.pl, EntD.withP]
theorem withP_pl (o : EntD) : o.withP o.pl = o := by
  cases o
  simp [EntD.pl, EntD.withP]
theorem ent_ext {a b : EntD} (h1 : a.pl = b.pl) (h2 : a.dir = b.dir) (h3 : a.id = b.id) (h4 : a.size = b.size) (h5 : a.mode = b.mode) : a = b := by
  have hp : a.path = b.path := by rw [← eta a.path, ← eta b.path]; exact congrArg (fun l : BL => (⟨l.toArray⟩ : ByteArray)) h1
  cases a
  cases b
  simp_all

/-! By folding. -/
def fl (fold : Bool) (l : BL) : BL := if fold then l.map foldB else l
theorem sameB_iff (fold : Bool) (a b : BL) : sameB fold a b = true ↔ fl fold a = fl fold b := by
  unfold sameB fl
  cases fold <;> simp
theorem sameB_refl (fold : Bool) (a : BL) : sameB fold a a = true := (sameB_iff _ _ _).2 rfl
theorem sameB_symm {fold : Bool} {a b : BL} (h : sameB fold a b = true) : sameB fold b a = true := (sameB_iff _ _ _).2 ((sameB_iff _ _ _).1 h).symm
theorem sameB_trans {fold : Bool} {a b c : BL} (h : sameB fold a b = true) (h' : sameB fold b c = true) : sameB fold a c = true := (sameB_iff _ _ _).2 (((sameB_iff _ _ _).1 h).trans ((sameB_iff _ _ _).1 h'))
theorem sameB_comm (fold : Bool) (a b : BL) : sameB fold a b = sameB fold b a := by
  rw [Bool.eq_iff_iff]; exact ⟨sameB_symm, sameB_symm⟩
theorem fl_length (fold : Bool) (a : BL) : (fl fold a).length = a.length := by unfold fl; cases fold <;> simp
theorem sameB_length {fold : Bool} {a b : BL} (h : sameB fold a b = true) : a.length = b.length := by
  have := congrArg List.length ((sameB_iff _ _ _).1 h)
  rwa [fl_length, fl_length] at this
theorem fl_append (fold : Bool) (a b : BL) : fl fold (a ++ b) = fl fold a ++ fl fold b := by unfold fl; cases fold <;> simp
theorem fl_take (fold : Bool) (a : BL) (n : Nat) : fl fold (a.take n) = (fl fold a).take n := by unfold fl; cases fold <;> simp [List.map_take]
theorem fl_drop (fold : Bool) (a : BL) (n : Nat) : fl fold (a.drop n) = (fl fold a).drop n := by unfold fl; cases fold <;> simp [List.map_drop]
theorem foldB_47 (c : UInt8) : foldB c = 47 ↔ c = 47 := by
  unfold foldB
  split
  · next h =>
    constructor
    · intro e
      have h1 := congrArg UInt8.toNat e
      rw [UInt8.toNat_add] at h1
      have h2 : (32 : UInt8).toNat = 32 := rfl
      have h3 : (47 : UInt8).toNat = 47 := rfl
      omega
    · intro e
      subst e
      have h3 : (47 : UInt8).toNat = 47 := rfl
      omega
  · exact Iff.rfl
theorem foldB_not (c : UInt8) : foldB c = c ∨ c ≠ 47 := by
  by_cases h : c = 47
  · left; subst h; rfl
  · exact .inr h
theorem fl_cons (fold : Bool) (c : UInt8) (l : BL) : fl fold (c :: l) = (if fold then foldB c else c) :: fl fold l := by unfold fl; cases fold <;> simp
theorem fl_head (fold : Bool) (c : UInt8) : (if fold then foldB c else c) = 47 ↔ c = 47 := by
  cases fold
  · simp
  · simpa using foldB_47 c
theorem fl_47 (fold : Bool) (l : BL) : fl fold (47 :: l) = 47 :: fl fold l := by
  rw [fl_cons, (fl_head fold 47).2 rfl]

/-- Is a path below another? -/
def belowL (fold : Bool) (s top : BL) : Bool := decide (top.length < s.length) && (s[top.length]? == some 47) && sameB fold (s.take top.length) top
theorem belowL_iff (fold : Bool) (s top : BL) : belowL fold s top = true ↔ ∃ t r, s = t ++ 47 :: r ∧ sameB fold t top = true := by
  unfold belowL
  simp only [Bool.and_eq_true, decide_eq_true_eq, beq_iff_eq]
  constructor
  · rintro ⟨⟨h1, h2⟩, h3⟩
    refine ⟨s.take top.length, s.drop (top.length + 1), ?_, h3⟩
    obtain ⟨h4, h5⟩ := List.getElem?_eq_some_iff.1 h2
    rw [← h5, ← List.drop_eq_getElem_cons h4, List.take_append_drop]
  · rintro ⟨t, r, rfl, h⟩
    have hl := sameB_length h
    refine ⟨⟨by simp; omega, ?_⟩, ?_⟩
    · rw [← hl]; simp
    · rw [← hl]; simpa using h
theorem belowL_false (s top : BL) : belowL false s top = true ↔ ∃ r, s = top ++ 47 :: r := by
  rw [belowL_iff]
  constructor
  · rintro ⟨t, r, rfl, h⟩
    have : t = top := by simpa [sameB] using h
    exact ⟨r, by rw [this]⟩
  · rintro ⟨r, rfl⟩
    exact ⟨top, r, rfl, sameB_refl _ _⟩
theorem belowL_same {fold : Bool} {s top top' : BL} (h : sameB fold top top' = true) : belowL fold s top = belowL fold s top' := by
  rw [Bool.eq_iff_iff, belowL_iff, belowL_iff]
  constructor
  · rintro ⟨t, r, e, h'⟩; exact ⟨t, r, e, sameB_trans h' h⟩
  · rintro ⟨t, r, e, h'⟩; exact ⟨t, r, e, sameB_trans h' (sameB_symm h)⟩

/-! The order: what is below a path stands right behind it. -/
theorem key_append (a b : BL) : key (a ++ b) = key a ++ key b := by simp [key]
theorem key_47 (l : BL) : key (47 :: l) = 0 :: key l := by simp [key, rk]
theorem rk_zero {c : UInt8} (h : rk c = 0) : c = 47 := by
  unfold rk at h
  split at h
  · assumption
  · omega
theorem key_below_lt (p r : BL) : key p < key (p ++ 47 :: r) := key_prefix p (47 :: r) (by simp)
theorem between (p : BL) : ∀ (q r : BL), key p < key q → key q < key (p ++ 47 :: r) → ∃ r', q = p ++ 47 :: r' := by
  induction p with
  | nil =>
    intro q r h1 h2
    cases q with
    | nil => exact absurd h1 (List.lt_irrefl _)
    | cons c q =>
      simp only [List.nil_append, key, List.map_cons, List.cons_lt_cons_iff] at h2
      have h0 : rk 47 = 0 := rfl
      rw [h0] at h2
      rcases h2 with h2 | ⟨h2, _⟩
      · omega
      · exact ⟨q, by rw [rk_zero h2]; rfl⟩
  | cons a p ih =>
    intro q r h1 h2
    cases q with
    | nil => simp [key] at h1
    | cons c q =>
      simp only [key, List.cons_append, List.map_cons, List.cons_lt_cons_iff] at h1 h2
      have e : rk c = rk a := by
        rcases h1 with h1 | ⟨h1, _⟩
        · rcases h2 with h2 | ⟨h2, _⟩
          · omega
          · omega
        · omega
      have hc := rk_inj e
      subst hc
      have h1' : key p < key q := by
        rcases h1 with h1 | ⟨_, h1⟩
        · omega
        · exact h1
      have h2' : key q < key (p ++ 47 :: r) := by
        rcases h2 with h2 | ⟨_, h2⟩
        · omega
        · simpa [key] using h2
      obtain ⟨r', rfl⟩ := ih q r h1' h2'
      exact ⟨r', rfl⟩

def Srt (L : List EntD) : Prop := L.Pairwise fun a b => key a.pl < key b.pl
theorem srt_of_order {L : List EntD} (h : ∀ (i j : Nat) (hi : i < L.length) (hj : j < L.length), i < j → key L[i].pl < key L[j].pl) : Srt L := by
  unfold Srt
  rw [List.pairwise_iff_getElem]
  exact fun i j hi hj hij => h i j hi hj hij
theorem Srt.at {L : List EntD} (h : Srt L) (i j : Nat) (hi : i < L.length) (hj : j < L.length) (hij : i < j) : key L[i].pl < key L[j].pl := (List.pairwise_iff_getElem.1 h) i j hi hj hij
theorem Srt.inj {L : List EntD} (h : Srt L) (i j : Nat) (hi : i < L.length) (hj : j < L.length) (e : L[i].pl = L[j].pl) : i = j := by
  rcases Nat.lt_trichotomy i j with h1 | h1 | h1
  · have := h.at i j hi hj h1; rw [e] at this; exact absurd this (List.lt_irrefl _)
  · exact h1
  · have := h.at j i hj hi h1; rw [e] at this; exact absurd this (List.lt_irrefl _)

/-- The next entry tells whether something is in a directory. -/
theorem next_below {L : List EntD} (h : Srt L) (i : Nat) (hi : i < L.length) : (L.any fun x => belowL false x.pl L[i].pl) = (if h' : i + 1 < L.length then belowL false L[i + 1].pl L[i].pl else false) := by
  rw [Bool.eq_iff_iff, List.any_eq_true]
  constructor
  · rintro ⟨x, hx, hb⟩
    obtain ⟨j, hj, rfl⟩ := List.mem_iff_getElem.1 hx
    obtain ⟨r, hr⟩ := (belowL_false _ _).1 hb
    have hlt : key L[i].pl < key L[j].pl := by rw [hr]; exact key_below_lt _ _
    have hij : i < j := by
      rcases Nat.lt_trichotomy i j with h1 | h1 | h1
      · exact h1
      · subst h1; exact absurd hlt (List.lt_irrefl _)
      · exact absurd (List.lt_trans hlt (h.at j i hj hi h1)) (List.lt_irrefl _)
    have h1 : i + 1 < L.length := by omega
    rw [dif_pos h1, belowL_false]
    by_cases e : i + 1 = j
    · subst e; exact ⟨r, hr⟩
    · have h2 := h.at i (i + 1) hi h1 (by omega)
      have h3 := h.at (i + 1) j h1 hj (by omega)
      rw [hr] at h3
      exact between _ _ r h2 h3
  · intro hx
    split at hx
    · next h1 => exact ⟨L[i + 1], List.getElem_mem h1, hx⟩
    · cases hx

/-! An entry in its place. -/
def insL (e : EntD) : List EntD → List EntD
  | [] => [e]
  | o :: t => if cmpL e.pl o.pl < 0 then e :: o :: t else o :: insL e t
theorem insL_perm (e : EntD) (L : List EntD) : (insL e L).Perm (e :: L) := by
  induction L with
  | nil => exact List.Perm.refl _
  | cons o t ih =>
    rw [insL]
    split
    · exact List.Perm.refl _
    · exact (List.Perm.cons o ih).trans (List.Perm.swap e o t)
theorem insL_mem (e x : EntD) (L : List EntD) : x ∈ insL e L ↔ x = e ∨ x ∈ L := by
  rw [(insL_perm e L).mem_iff, List.mem_cons]
theorem insL_srt (e : EntD) (L : List EntD) (h : Srt L) (hne : ∀ x ∈ L, x.pl ≠ e.pl) : Srt (insL e L) := by
  induction L with
  | nil => exact List.pairwise_singleton _ _
  | cons o t ih =>
    obtain ⟨h1, h2⟩ := List.pairwise_cons.1 h
    rw [insL]
    split
    · next hlt =>
      have hk := (cmpL_key _ _).1.1 hlt
      refine List.pairwise_cons.2 ⟨fun x hx => ?_, h⟩
      rcases List.mem_cons.1 hx with rfl | hx
      · exact hk
      · exact List.lt_trans hk (h1 x hx)
    · next hlt =>
      have hgt : key o.pl < key e.pl := by
        have h3 : cmpL e.pl o.pl ≠ 0 := fun hz => hne o (by simp) ((cmpL_key _ _).2.2.1 hz).symm
        exact (cmpL_key _ _).2.1.1 (by omega)
      refine List.pairwise_cons.2 ⟨fun x hx => ?_, ih h2 (fun x hx => hne x (by simp [hx]))⟩
      rcases (insL_mem e x t).1 hx with rfl | hx
      · exact hgt
      · exact h1 x hx
/-- Two lists in order that are one but for the order are one. -/
theorem srt_eq : ∀ {L M : List EntD}, Srt L → Srt M → L.Perm M → L = M
  | [], M, _, _, hp => (List.nil_perm.1 hp).symm
  | a :: L, [], _, _, hp => by have := hp.length_eq; simp at this
  | a :: L, b :: M, hL, hM, hp => by
    obtain ⟨a1, a2⟩ := List.pairwise_cons.1 hL
    obtain ⟨b1, b2⟩ := List.pairwise_cons.1 hM
    have hab : a = b := by
      have h1 := hp.mem_iff.1 (List.mem_cons_self : a ∈ a :: L)
      have h2 := hp.mem_iff.2 (List.mem_cons_self : b ∈ b :: M)
      rcases List.mem_cons.1 h1 with h1 | h1
      · exact h1
      · rcases List.mem_cons.1 h2 with h2 | h2
        · exact h2.symm
        · exact absurd (List.lt_trans (a1 b h2) (b1 a h1)) (List.lt_irrefl _)
    subst hab
    rw [srt_eq a2 b2 ((List.perm_cons a).1 hp)]
/-- The place that a search by halves finds. -/
theorem insL_at (e : EntD) (L : List EntD) (i : Nat) (hi : i ≤ L.length) (h1 : ∀ (j : Nat) (hj : j < L.length), j < i → key L[j].pl < key e.pl) (h2 : ∀ (j : Nat) (hj : j < L.length), i ≤ j → key e.pl < key L[j].pl) (h : Srt L) : insL e L = L.take i ++ e :: L.drop i := by
  have hne : ∀ x ∈ L, x.pl ≠ e.pl := by
    intro x hx
    obtain ⟨j, hj, rfl⟩ := List.mem_iff_getElem.1 hx
    by_cases hji : j < i
    · intro e0; have := h1 j hj hji; rw [e0] at this; exact absurd this (List.lt_irrefl _)
    · intro e0; have := h2 j hj (by omega); rw [e0] at this; exact absurd this (List.lt_irrefl _)
  refine srt_eq (insL_srt e L h hne) ?_ ?_
  · unfold Srt
    rw [List.pairwise_append]
    refine ⟨h.sublist (List.take_sublist _ _), List.pairwise_cons.2 ⟨fun x hx => ?_, h.sublist (List.drop_sublist _ _)⟩, fun x hx y hy => ?_⟩
    · obtain ⟨j, hj, rfl⟩ := List.mem_iff_getElem.1 hx
      rw [List.getElem_drop]
      exact h2 (i + j) (by simp at hj; omega) (by omega)
    · obtain ⟨j, hj, hji, rfl⟩ := of_mem_take L i x hx
      rcases List.mem_cons.1 hy with rfl | hy
      · exact h1 j hj hji
      · obtain ⟨j', hj', rfl⟩ := List.mem_iff_getElem.1 hy
        rw [List.getElem_drop]
        exact h.at j (i + j') hj (by simp at hj'; omega) (by omega)
  · refine (insL_perm e L).trans ?_
    refine List.Perm.trans ?_ List.perm_middle.symm
    rw [List.take_append_drop]
theorem eraseIdx_take (L : List EntD) (i : Nat) : L.eraseIdx i = L.take i ++ L.drop (i + 1) := List.eraseIdx_eq_take_drop_succ L i
/-- An entry that is changed but for its path stays where it is. -/
theorem insL_set {L : List EntD} (h : Srt L) (i : Nat) (hi : i < L.length) (e : EntD) (he : e.pl = L[i].pl) : insL e (L.eraseIdx i) = L.set i e := by
  have hs : Srt (L.eraseIdx i) := h.sublist (List.eraseIdx_sublist _ _)
  rw [insL_at e (L.eraseIdx i) i (by rw [List.length_eraseIdx]; simp [hi]; omega) ?_ ?_ hs]
  · rw [eraseIdx_take, List.take_append_of_le_length (by simp; omega), List.take_take, Nat.min_self, List.drop_append_of_le_length (by simp; omega), List.drop_take, Nat.sub_self, List.take_zero, List.nil_append, List.set_eq_take_append_cons_drop, if_pos hi]
  · intro j hj hji
    rw [List.getElem_eraseIdx_of_lt _ hji, he]
    exact h.at j i (by omega) hi hji
  · intro j hj hij
    rw [List.getElem_eraseIdx_of_ge _ hij, he]
    exact h.at i (j + 1) hi (by rw [List.length_eraseIdx] at hj; simp [hi] at hj; omega) (by omega)
end Go.Proofs.YtpjjagalekolaaaGreatDoor

/- Plain: paths cut at their slashes; trees on a volume; where a path would lie. No program in this text. -/
namespace Go.Proofs.YtpjjagalekolaaaGreatDoor
open Go.RowKit
set_option linter.unusedVariables false
set_option linter.unusedSimpArgs false

def lastL (l : BL) : BL := (splSt l).2
def cnt (l : BL) : Nat := (spl l).length
def nmsL (l : BL) : Bool := (spl l).all nmL
theorem pathL_eq (l : BL) : pathL l = (decide (cnt l ≤ 6) && nmsL l) := rfl
theorem last_cut (l : BL) : (∀ c ∈ l, c ≠ 47) ∨ ∃ a b, l = a ++ 47 :: b ∧ ∀ c ∈ b, c ≠ 47 := by
  rcases indexByte_split l.reverse 47 with ⟨_, hn⟩ | ⟨i, _, _, he, hn⟩
  · left; intro c hc; exact hn c (by simpa using hc)
  · right
    refine ⟨(l.reverse.drop (i + 1)).reverse, (l.reverse.take i).reverse, ?_, fun c hc => hn c (by simpa using hc)⟩
    have := congrArg List.reverse he
    rw [List.reverse_reverse] at this
    refine this.trans ?_
    rw [List.reverse_append, List.reverse_cons, List.append_assoc, List.singleton_append]
theorem spl_split (a b : BL) : spl (a ++ 47 :: b) = spl a ++ spl b := by
  induction a with
  | nil => exact spl_47 b
  | cons c a ih =>
    by_cases hc : c = 47
    · subst hc
      rw [List.cons_append, spl_47, spl_47, ih]; rfl
    · obtain ⟨h, t, hs⟩ := spl_head a
      rw [List.cons_append, spl_cons c _ h (t ++ spl b) hc (by rw [ih, hs]; rfl), spl_cons c a h t hc hs]; rfl
theorem cnt_split (a b : BL) : cnt (a ++ 47 :: b) = cnt a + cnt b := by unfold cnt; rw [spl_split, List.length_append]
theorem nms_split (a b : BL) : nmsL (a ++ 47 :: b) = (nmsL a && nmsL b) := by unfold nmsL; rw [spl_split, List.all_append]
theorem cnt_count (l : BL) : cnt l = l.count 47 + 1 := by
  unfold cnt
  induction l with
  | nil => rfl
  | cons c l ih =>
    by_cases hc : c = 47
    · subst hc; rw [spl_47, List.length_cons, ih]; simp
    · obtain ⟨h, t, hs⟩ := spl_head l
      rw [spl_cons c l h t hc hs, List.length_cons]
      rw [hs, List.length_cons] at ih
      rw [List.count_cons_of_ne hc, ih]
theorem cnt_one (l : BL) (h : ∀ c ∈ l, c ≠ 47) : cnt l = 1 := by unfold cnt; rw [spl_none l h]; rfl
theorem spl_last (l : BL) : spl l = (splSt l).1 ++ [lastL l] := rfl
theorem lastL_cut (a b : BL) (h : ∀ c ∈ b, c ≠ 47) : lastL (a ++ 47 :: b) = b := by
  have h1 := spl_split a b
  rw [spl_none b h, spl_last] at h1
  have := congrArg List.getLast? h1
  simpa using this
theorem lastL_none (l : BL) (h : ∀ c ∈ l, c ≠ 47) : lastL l = l := by
  have h1 := spl_none l h
  rw [spl_last] at h1
  have := congrArg List.getLast? h1
  simpa using this
theorem lastL_no47 (l : BL) : ∀ c ∈ lastL l, c ≠ 47 := by
  rcases last_cut l with h | ⟨a, b, rfl, h⟩
  · rw [lastL_none l h]; exact h
  · rw [lastL_cut a b h]; exact h
theorem par_last (l : BL) (h : parentL l ≠ []) : l = parentL l ++ 47 :: lastL l := by
  rcases last_cut l with hn | ⟨a, b, rfl, hn⟩
  · exact absurd (parentL_none l hn) h
  · rw [parentL_cut a b hn, lastL_cut a b hn]
theorem nms_last (l : BL) (h : nmsL l = true) : nmL (lastL l) = true := by
  unfold nmsL at h
  rw [List.all_eq_true] at h
  exact h (lastL l) (by rw [spl_last]; simp)
theorem nmL_ne {l : BL} (h : nmL l = true) : l ≠ [] := by
  intro e
  subst e
  revert h
  decide
theorem nms_ne {l : BL} (h : nmsL l = true) : l ≠ [] := by
  intro e
  subst e
  revert h
  decide
theorem nms_par_nil {l : BL} (h : nmsL l = true) (hp : parentL l = []) : ∀ c ∈ l, c ≠ 47 := by
  rcases last_cut l with hn | ⟨a, b, rfl, hn⟩
  · exact hn
  · rw [parentL_cut a b hn] at hp
    subst hp
    rw [nms_split] at h
    exfalso
    revert h
    rw [Bool.and_eq_true]
    rintro ⟨h, _⟩
    exact nms_ne h rfl
theorem spare_no47 {l : BL} (h : spareL l = true) : ∀ c ∈ l, c ≠ 47 := by
  unfold spareL at h
  simp only [Bool.and_eq_true, decide_eq_true_eq, beq_iff_eq] at h
  obtain ⟨⟨⟨h1, h2⟩, h3⟩, h4⟩ := h
  cases l with
  | nil => intro c hc; simp at hc
  | cons a t =>
    intro c hc
    rcases List.mem_cons.1 hc with rfl | hc
    · simp at h3
      intro e
      rw [h3] at e
      exact absurd e (by decide)
    · unfold tailDigits at h4
      rw [List.all_eq_true] at h4
      have := h4 c (by simpa using hc)
      intro e
      subst e
      revert this
      decide

/-! By folding. -/
theorem same_cut {fold : Bool} {a r b : BL} (h : sameB fold (a ++ 47 :: r) b = true) : ∃ a' r', b = a' ++ 47 :: r' ∧ sameB fold a a' = true ∧ sameB fold r r' = true := by
  have hl := sameB_length h
  rw [sameB_iff, fl_append, fl_47] at h
  have hn : a.length < b.length := by simp at hl; omega
  have e : b = b.take a.length ++ b[a.length] :: b.drop (a.length + 1) := by rw [← List.drop_eq_getElem_cons hn, List.take_append_drop]
  have hb : fl fold b = fl fold (b.take a.length) ++ (if fold then foldB b[a.length] else b[a.length]) :: fl fold (b.drop (a.length + 1)) := by
    conv => lhs; rw [e]
    rw [fl_append, fl_cons]
  rw [hb] at h
  have hlen : (fl fold a).length = (fl fold (b.take a.length)).length := by rw [fl_length, fl_length, List.length_take]; omega
  obtain ⟨h1, h2⟩ := List.append_inj h hlen
  obtain ⟨h3, h4⟩ := List.cons.inj h2
  have h5 := (fl_head fold _).1 h3.symm
  refine ⟨b.take a.length, b.drop (a.length + 1), ?_, (sameB_iff _ _ _).2 h1, (sameB_iff _ _ _).2 h4⟩
  rw [← h5]; exact e
theorem same_no47 {fold : Bool} {a b : BL} (h : sameB fold a b = true) (hn : ∀ c ∈ a, c ≠ 47) : ∀ c ∈ b, c ≠ 47 := by
  intro c hc e
  subst e
  obtain ⟨x, y, rfl⟩ := List.append_of_mem hc
  obtain ⟨x', y', rfl, _⟩ := same_cut (sameB_symm h)
  exact hn 47 (by simp) rfl
theorem same_parent {fold : Bool} {a b : BL} (h : sameB fold a b = true) : sameB fold (parentL a) (parentL b) = true := by
  rcases last_cut a with hn | ⟨x, y, rfl, hn⟩
  · rw [parentL_none a hn, parentL_none b (same_no47 h hn)]; exact sameB_refl _ _
  · obtain ⟨x', y', rfl, h1, h2⟩ := same_cut h
    rw [parentL_cut x y hn, parentL_cut x' y' (same_no47 h2 hn)]
    exact h1
theorem same_cnt {fold : Bool} {a b : BL} (h : sameB fold a b = true) : cnt a = cnt b := by
  suffices key : ∀ l : BL, (fl fold l).count 47 = l.count 47 by
    rw [cnt_count, cnt_count, ← key a, ← key b, (sameB_iff _ _ _).1 h]
  intro l
  induction l with
  | nil => unfold fl; cases fold <;> rfl
  | cons c l ih =>
    rw [fl_cons, List.count_cons, List.count_cons, ih]
    congr 1
    by_cases hc : c = 47
    · rw [if_pos (by simpa using (fl_head fold c).2 hc), if_pos (by simpa using hc)]
    · rw [if_neg (by simpa using fun e => hc ((fl_head fold c).1 e)), if_neg (by simpa using hc)]
theorem same_append {fold : Bool} {a b c d : BL} (h1 : sameB fold a b = true) (h2 : sameB fold c d = true) : sameB fold (a ++ c) (b ++ d) = true := by
  rw [sameB_iff] at *
  rw [fl_append, fl_append, h1, h2]

/-! Trees on a volume. -/
structure VolOk (fold : Bool) (L : List EntD) : Prop where
  srt : Srt L
  few : L.length ≤ 120
  names : ∀ o ∈ L, pathL o.pl = true ∨ (o.dir = false ∧ spareL o.pl = true)
  fields : ∀ o ∈ L, fieldsB o = true
  par : ∀ o ∈ L, parentL o.pl ≠ [] → ∃ p ∈ L, p.dir = true ∧ p.pl = parentL o.pl
  one : ∀ a ∈ L, ∀ b ∈ L, sameB fold a.pl b.pl = true → a = b
  sizes : ∀ a ∈ L, ∀ b ∈ L, a.dir = false → b.dir = false → a.id = b.id → a.size = b.size

/-- May a path stand in an operation? -/
def goodP (p : BL) : Prop := pathL p = true ∨ spareL p = true
theorem pathL_nms {l : BL} (h : pathL l = true) : nmsL l = true ∧ cnt l ≤ 6 := by
  rw [pathL_eq, Bool.and_eq_true, decide_eq_true_eq] at h
  exact ⟨h.2, h.1⟩
theorem pathL_mk {l : BL} (h1 : nmsL l = true) (h2 : cnt l ≤ 6) : pathL l = true := by
  rw [pathL_eq, h1]; simpa using h2

/-- Whatever stands below a path that is there: that path is there, and is a directory. -/
theorem anc {fold : Bool} {L : List EntD} (V : VolOk fold L) : ∀ (n : Nat) (y : EntD) (t r : BL), r.length = n → y ∈ L → y.pl = t ++ 47 :: r → ∃ z ∈ L, z.dir = true ∧ z.pl = t := by
  intro n
  induction n using Nat.strongRecOn with
  | _ n ih =>
    intro y t r hr hy hp
    have hnm : nmsL y.pl = true := by
      rcases V.names y hy with h | ⟨_, h⟩
      · exact (pathL_nms h).1
      · exact absurd rfl (spare_no47 h 47 (by rw [hp]; simp))
    have ht : t ≠ [] := by
      rw [hp, nms_split, Bool.and_eq_true] at hnm
      exact nms_ne hnm.1
    rcases last_cut r with hn | ⟨a, b, rfl, hn⟩
    · have hpar : parentL y.pl = t := by rw [hp, parentL_cut t r hn]
      obtain ⟨z, hz, hd, he⟩ := V.par y hy (by rw [hpar]; exact ht)
      exact ⟨z, hz, hd, he.trans hpar⟩
    · have e : t ++ 47 :: (a ++ 47 :: b) = (t ++ 47 :: a) ++ 47 :: b := by simp
      have hpar : parentL y.pl = t ++ 47 :: a := by rw [hp, e, parentL_cut _ b hn]
      obtain ⟨z, hz, hd, he⟩ := V.par y hy (by rw [hpar]; simp)
      exact ih a.length (by rw [← hr]; simp) z t a rfl hz (he.trans hpar)

def atP (fold : Bool) (L : List EntD) (p : BL) : Option EntD := L.find? fun o => sameB fold o.pl p
def placeL (fold : Bool) (L : List EntD) (p : BL) : Option BL :=
  if parentL p = [] then some p else match atP fold L (parentL p) with
    | some o => if o.dir then some (o.pl ++ 47 :: lastL p) else none
    | none => none
theorem placeL_some {fold : Bool} {L : List EntD} {p t : BL} (h : placeL fold L p = some t) : (parentL p = [] ∧ t = p) ∨ (parentL p ≠ [] ∧ ∃ o ∈ L, o.dir = true ∧ sameB fold o.pl (parentL p) = true ∧ t = o.pl ++ 47 :: lastL p) := by
  unfold placeL at h
  by_cases hp : parentL p = []
  · rw [if_pos hp] at h; exact .inl ⟨hp, (Option.some.inj h).symm⟩
  · rw [if_neg hp] at h
    right
    refine ⟨hp, ?_⟩
    unfold atP at h
    cases hf : L.find? (fun o => sameB fold o.pl (parentL p)) with
    | none => rw [hf] at h; cases h
    | some o =>
      rw [hf] at h
      simp only at h
      split at h
      · next hd => exact ⟨o, List.mem_of_find?_eq_some hf, hd, List.find?_some (p := fun o : EntD => sameB fold o.pl (parentL p)) hf, (Option.some.inj h).symm⟩
      · cases h
theorem place_same {fold : Bool} {L : List EntD} {p t : BL} (h : placeL fold L p = some t) : sameB fold t p = true := by
  rcases placeL_some h with ⟨_, rfl⟩ | ⟨hp, o, _, _, hs, rfl⟩
  · exact sameB_refl _ _
  · have := par_last p hp
    conv => arg 1; arg 3; rw [this]
    exact same_append hs (sameB_refl _ _)
theorem place_good {fold : Bool} {L : List EntD} {p t : BL} (V : VolOk fold L) (h : placeL fold L p = some t) (hp : goodP p) : (pathL p = true → pathL t = true) ∧ (spareL p = true → t = p) := by
  have hc := same_cnt (place_same h)
  rcases placeL_some h with ⟨_, rfl⟩ | ⟨hne, o, ho, hd, hs, rfl⟩
  · exact ⟨fun h => h, fun _ => rfl⟩
  · constructor
    · intro hpp
      obtain ⟨h1, h2⟩ := pathL_nms hpp
      refine pathL_mk ?_ (by omega)
      have hoN : nmsL o.pl = true := by
        rcases V.names o ho with h | ⟨h, _⟩
        · exact (pathL_nms h).1
        · rw [hd] at h; cases h
      rw [nms_split, hoN, Bool.true_and]
      unfold nmsL
      rw [spl_none _ (lastL_no47 p)]
      simpa using nms_last p h1
    · intro hsp
      exact absurd (parentL_none p (spare_no47 hsp)) hne
/-- The parent of the place is there. -/
theorem place_par {fold : Bool} {L : List EntD} {p t : BL} (h : placeL fold L p = some t) : parentL t ≠ [] → ∃ z ∈ L, z.dir = true ∧ z.pl = parentL t := by
  intro hne
  rcases placeL_some h with ⟨hp, rfl⟩ | ⟨_, o, ho, hd, hs, rfl⟩
  · exact absurd hp hne
  · exact ⟨o, ho, hd, (parentL_cut _ _ (lastL_no47 p)).symm⟩
end Go.Proofs.YtpjjagalekolaaaGreatDoor

