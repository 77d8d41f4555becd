/- Plain: the program and the reference take the same lists for trees. No program in this text. -/
import Derived.Test.YtjaepomjdknieaaDoorCI
namespace Go.Proofs.YtjaepomjdknieaaDoor
open Go.RowKit
set_option linter.unusedVariables false
set_option linter.unusedSimpArgs false

theorem entErr_zero (l : List EntD) (i : Nat) (e : EntD) : entErr l i e false = 0 ↔ fieldsB e = true ∧ (0 < i → cmpL ((l[i - 1]?.map (·.path.data.toList)).getD []) e.path.data.toList < 0) ∧ hasParB l e.path = true ∧ otherB (l.take i) e = false := by
  unfold entErr
  by_cases h1 : fieldsB e = true
  · rw [h1, if_neg (by simp)]
    by_cases h2 : 0 < i ∧ 0 ≤ cmpL ((l[i - 1]?.map (·.path.data.toList)).getD []) e.path.data.toList
    · rw [if_pos h2]
      constructor
      · intro h; omega
      · rintro ⟨_, h, _⟩; have := h h2.1; omega
    · rw [if_neg h2]
      have h2' : 0 < i → cmpL ((l[i - 1]?.map (·.path.data.toList)).getD []) e.path.data.toList < 0 := fun h => by
        by_cases hx : cmpL ((l[i - 1]?.map (·.path.data.toList)).getD []) e.path.data.toList < 0
        · exact hx
        · exact absurd ⟨h, by omega⟩ h2
      by_cases h3 : hasParB l e.path = true
      · rw [h3, if_neg (by simp), if_neg (by simp)]
        by_cases h4 : otherB (l.take i) e = true
        · rw [if_pos h4]; simp [h4]
        · rw [if_neg h4]; simp only [Bool.not_eq_true] at h4; simp [h4]; exact h2'
      · simp only [Bool.not_eq_true] at h3
        rw [if_pos h3]; simp [h3]
  · simp only [Bool.not_eq_true] at h1
    rw [if_pos h1]; simp [h1]
theorem refErr_zero (l : List EntD) (i : Nat) (e : EntD) : refErr l i e = 0 ↔ pathL e.path.data.toList = true ∧ fieldsB e = true ∧ (0 < i → cmpL ((l[i - 1]?.map (·.path.data.toList)).getD []) e.path.data.toList < 0) ∧ upB (l.take i) (parentB e.path) = true ∧ twiceB (l.take i) e = false ∧ sizeB (l.take i) e = false := by
  unfold refErr
  rw [less_cmp]
  by_cases h0 : pathL e.path.data.toList = true
  · rw [h0, if_neg (by simp)]
    by_cases h1 : fieldsB e = true
    · rw [h1, if_neg (by simp)]
      by_cases h2 : 0 < i ∧ decide (cmpL ((l[i - 1]?.map (·.path.data.toList)).getD []) e.path.data.toList < 0) = false
      · rw [if_pos h2]
        constructor
        · intro h; omega
        · rintro ⟨_, _, h, _⟩; have := h h2.1; have h3 := h2.2; simp at h3; omega
      · rw [if_neg h2]
        have h2' : 0 < i → cmpL ((l[i - 1]?.map (·.path.data.toList)).getD []) e.path.data.toList < 0 := fun h => by
          by_cases hx : cmpL ((l[i - 1]?.map (·.path.data.toList)).getD []) e.path.data.toList < 0
          · exact hx
          · exact absurd ⟨h, by simpa using hx⟩ h2
        by_cases h3 : upB (l.take i) (parentB e.path) = true
        · rw [h3, if_neg (by simp)]
          by_cases h4 : twiceB (l.take i) e = true
          · rw [if_pos h4]; simp [h4]
          · rw [if_neg h4]
            simp only [Bool.not_eq_true] at h4
            by_cases h5 : sizeB (l.take i) e = true
            · rw [if_pos h5]; simp [h5]
            · rw [if_neg h5]; simp only [Bool.not_eq_true] at h5; simp [h4, h5]; exact h2'
        · simp only [Bool.not_eq_true] at h3
          rw [if_pos h3]; simp [h3]
    · simp only [Bool.not_eq_true] at h1
      rw [if_pos h1]; simp [h1]
  · simp only [Bool.not_eq_true] at h0
    rw [if_pos h0]; simp [h0]

theorem prev_at (l : List EntD) (i : Nat) (h : i + 1 < l.length) : (l[i + 1 - 1]?.map (·.path.data.toList)).getD [] = l[i].path.data.toList := by
  rw [show i + 1 - 1 = i by omega, List.getElem?_eq_getElem (by omega : i < l.length)]; rfl
theorem mem_take (l : List EntD) (k j : Nat) (hj : j < l.length) (h : j < k) : l[j] ∈ l.take k := List.mem_take_iff_getElem.2 ⟨j, by omega, rfl⟩
theorem of_mem_take (l : List EntD) (k : Nat) (o : EntD) (h : o ∈ l.take k) : ∃ (j : Nat) (hj : j < l.length), j < k ∧ l[j] = o := by
  obtain ⟨j, hj, he⟩ := List.mem_take_iff_getElem.1 h
  exact ⟨j, by omega, by omega, he⟩
theorem par_toList (p : ByteArray) : (parentB p).toList = parentL p.data.toList := by rw [ba_toList, parentB_eq]

theorem chk_ref (l : List EntD) (h : ∀ (k : Nat) (h : k < l.length), chkAt l k l[k] = 0) : ∀ (k : Nat) (h : k < l.length), refErr l k l[k] = 0 := by
  have A : ∀ (k : Nat) (hk : k < l.length), pathL l[k].path.data.toList = true ∧ entErr l k l[k] false = 0 := by
    intro k hk
    have := h k hk
    unfold chkAt at this
    by_cases hp : pathL l[k].path.data.toList = true
    · rw [hp, if_neg (by simp)] at this; exact ⟨hp, this⟩
    · rw [if_pos (by simpa using hp)] at this; omega
  have ord := order_of_steps l (fun i hi => by
    have := ((entErr_zero _ _ _).1 (A (i + 1) hi).2).2.1 (by omega)
    rw [prev_at l i hi] at this
    exact (cmpL_key _ _).1.1 this)
  intro k hk
  obtain ⟨hp, he⟩ := A k hk
  obtain ⟨hf, ho, hpar, hoth⟩ := (entErr_zero _ _ _).1 he
  refine (refErr_zero _ _ _).2 ⟨hp, hf, ho, ?_, ?_, ?_⟩
  · unfold hasParB at hpar
    unfold upB
    rw [parentB_eq]
    rw [par_toList, parentB_eq] at hpar
    by_cases h0 : parentL l[k].path.data.toList = []
    · rw [h0]; simp
    · rw [if_neg (by simpa using h0)] at hpar
      cases hfd : l.find? (fun o => sameB false o.path.data.toList (parentL l[k].path.data.toList)) with
      | none => rw [hfd] at hpar; cases hpar
      | some o =>
        rw [hfd] at hpar
        obtain ⟨hpr, j, hj, hjo, _⟩ := List.find?_eq_some_iff_getElem.1 hfd
        have hpe : o.path.data.toList = parentL l[k].path.data.toList := by simpa [sameB] using hpr
        have hlt := parentL_lt _ h0
        have hjk : j < k := by
          rcases Nat.lt_trichotomy j k with h1 | h1 | h1
          · exact h1
          · exfalso
            subst h1
            rw [hjo] at hlt
            rw [hjo] at hpe
            rw [← hpe] at hlt
            exact List.lt_irrefl _ hlt
          · exfalso
            have := ord k j hk hj h1
            rw [hjo, hpe] at this
            exact List.lt_irrefl _ (List.lt_trans this hlt)
        rw [Bool.or_eq_true, List.any_eq_true]
        exact .inr ⟨o, hjo ▸ mem_take l k j hj hjk, by simp [hpar, hpe]⟩
  · cases ht : twiceB (l.take k) l[k] with
    | false => rfl
    | true =>
      exfalso
      unfold twiceB at ht
      obtain ⟨o, ho, hp⟩ := List.any_eq_true.1 ht
      obtain ⟨j, hj, hjk, hjo⟩ := of_mem_take l k o ho
      have := ord j k hj hk hjk
      rw [hjo, eq_of_beq hp] at this
      exact List.lt_irrefl _ this
  · cases ht : sizeB (l.take k) l[k] with
    | false => rfl
    | true =>
      exfalso
      unfold sizeB at ht
      obtain ⟨o, ho, hp⟩ := List.any_eq_true.1 ht
      have : otherB (l.take k) l[k] = true := by
        unfold otherB
        rw [List.any_eq_true]
        refine ⟨o, ho, ?_⟩
        simp only [Bool.and_eq_true] at hp
        simp only [Bool.and_eq_true]
        exact ⟨hp.1.2, hp.2⟩
      rw [hoth] at this; cases this

theorem ref_chk (l : List EntD) (h : ∀ (k : Nat) (h : k < l.length), refErr l k l[k] = 0) : ∀ (k : Nat) (h : k < l.length), chkAt l k l[k] = 0 := by
  have A := fun k hk => (refErr_zero _ _ _).1 (h k hk)
  have ord := order_of_steps l (fun i hi => by
    have := (A (i + 1) hi).2.2.1 (by omega)
    rw [prev_at l i hi] at this
    exact (cmpL_key _ _).1.1 this)
  intro k hk
  obtain ⟨hp, hf, ho, hup, htw, hsz⟩ := A k hk
  unfold chkAt
  rw [hp, if_neg (by simp)]
  refine (entErr_zero _ _ _).2 ⟨hf, ho, ?_, ?_⟩
  · unfold hasParB
    unfold upB at hup
    rw [par_toList, parentB_eq]
    rw [parentB_eq] at hup
    by_cases h0 : parentL l[k].path.data.toList = []
    · rw [h0]; simp
    · rw [if_neg (by simpa using h0)]
      rw [Bool.or_eq_true, List.any_eq_true] at hup
      rcases hup with hup | ⟨o, ho1, ho2⟩
      · exact absurd (eq_of_beq hup) h0
      · obtain ⟨j, hj, hjk, hjo⟩ := of_mem_take l k o ho1
        rw [Bool.and_eq_true] at ho2
        have hpe := eq_of_beq ho2.2
        cases hfd : l.find? (fun o => sameB false o.path.data.toList (parentL l[k].path.data.toList)) with
        | none =>
          rw [List.find?_eq_none] at hfd
          exact absurd (by simpa [sameB] using hpe) (hfd o (hjo ▸ List.getElem_mem hj))
        | some o' =>
          obtain ⟨hpr, j', hj', hjo', _⟩ := List.find?_eq_some_iff_getElem.1 hfd
          have hpe' : o'.path.data.toList = parentL l[k].path.data.toList := by simpa [sameB] using hpr
          have : j = j' := by
            rcases Nat.lt_trichotomy j j' with h1 | h1 | h1
            · have := ord j j' hj hj' h1
              rw [hjo, hjo', hpe, hpe'] at this
              exact absurd this (List.lt_irrefl _)
            · exact h1
            · have := ord j' j hj' hj h1
              rw [hjo, hjo', hpe, hpe'] at this
              exact absurd this (List.lt_irrefl _)
          subst this
          have : o = o' := hjo.symm.trans hjo'
          subst this
          exact ho2.1
  · cases ht : otherB (l.take k) l[k] with
    | false => rfl
    | true =>
      exfalso
      unfold otherB at ht
      obtain ⟨o, ho, hp⟩ := List.any_eq_true.1 ht
      obtain ⟨j, hj, hjk, hjo⟩ := of_mem_take l k o ho
      have hfo := (A j hj).2.1
      rw [hjo] at hfo
      obtain ⟨_, _, f1⟩ := fieldsB_true _ hf
      obtain ⟨_, _, f2⟩ := fieldsB_true _ hfo
      simp only [Bool.and_eq_true, decide_eq_true_eq] at hp
      rcases f1 with ⟨d1, i1, z1⟩ | ⟨d1, i1, i2, z1, z2⟩
      · rcases f2 with ⟨d2, i3, z3⟩ | ⟨d2, i3, i4, z3, z4⟩
        · exact hp.2 (by omega)
        · omega
      · rcases f2 with ⟨d2, i3, z3⟩ | ⟨d2, i3, i4, z3, z4⟩
        · omega
        · have : sizeB (l.take k) l[k] = true := by
            unfold sizeB
            rw [List.any_eq_true]
            exact ⟨o, ho, by simp [d1, d2, hp.1]; exact hp.2⟩
          rw [hsz] at this; cases this

theorem tree_same (l : List EntD) : treeB l = ((refP l).1 == 0) := by
  rw [Bool.eq_iff_iff]
  unfold treeB chkP refP
  rw [beq_iff_eq, beq_iff_eq]
  by_cases h6 : 60 < l.length
  · rw [if_pos h6, if_pos h6]
  · rw [if_neg h6, if_neg h6, chkGo_zero, refGo_zero]
    simp only [Nat.zero_add]
    exact ⟨chk_ref l, ref_chk l⟩
theorem tree_ok (l : List EntD) (h : treeB l = true) : TreeOk l := by
  unfold treeB chkP at h
  rw [beq_iff_eq] at h
  by_cases h6 : 60 < l.length
  · rw [if_pos h6] at h; cases h
  · rw [if_neg h6, chkGo_zero] at h
    simp only [Nat.zero_add] at h
    have A := fun k hk => (refErr_zero _ _ _).1 (chk_ref l h k hk)
    refine ⟨by omega, fun o ho => ?_, fun o ho => ?_, order_of_steps l (fun i hi => ?_)⟩
    · obtain ⟨k, hk, rfl⟩ := List.mem_iff_getElem.1 ho
      exact (A k hk).1
    · obtain ⟨k, hk, rfl⟩ := List.mem_iff_getElem.1 ho
      exact (A k hk).2.1
    · have := (A (i + 1) hi).2.2.1 (by omega)
      rw [prev_at l i hi] at this
      exact (cmpL_key _ _).1.1 this
end Go.Proofs.YtjaepomjdknieaaDoor
