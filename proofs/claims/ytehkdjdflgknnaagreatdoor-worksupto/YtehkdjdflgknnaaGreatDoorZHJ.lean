/- The program and the reference let a volume hold the same lists. No program in this text. -/
import Derived.Test.YtehkdjdflgknnaaGreatDoorZHG
import Derived.Test.YtehkdjdflgknnaaGreatDoorZHA
import Derived.Test.YtehkdjdflgknnaaGreatDoorY12
namespace Go.Proofs.YtehkdjdflgknnaaGreatDoor
open Go.RowKit
set_option linter.unusedVariables false
set_option linter.unusedSimpArgs false

/-- What both looks ask, the name and folding aside. -/
def RefCore (l : List EntD) (i : Nat) (e : EntD) : Prop :=
  fieldsB e = true ∧ (0 < i → cmpL ((l[i - 1]?.map (·.path.data.toList)).getD []) e.path.data.toList < 0) ∧ upB (l.take i) (parentB e.path) = true ∧ twiceB (l.take i) e = false ∧ sizeB (l.take i) e = false

theorem chk_core (l : List EntD) (A : ∀ (k : Nat) (h : k < l.length), entErr l k l[k] false = 0) : ∀ (k : Nat) (h : k < l.length), RefCore l k l[k] := by
  have ord := order_of_steps l (fun i hi => by
    have := ((entErr_zero _ _ _).1 (A (i + 1) hi)).2.1 (by omega)
    rw [prev_at l i hi] at this
    exact (cmpL_key _ _).1.1 this)
  intro k hk
  have he := A k hk
  obtain ⟨hf, ho, hpar, hoth⟩ := (entErr_zero _ _ _).1 he
  refine ⟨hf, ho, ?_, ?_, ?_⟩
  · unfold hasParB at hpar
    unfold upB
    rw [parentB_eq]
    rw [par_toList, parentB_eq] at hpar
    by_cases h0 : parentL l[k].path.data.toList = []
    · rw [h0]; simp
    · rw [if_neg (by simpa using h0)] at hpar
      cases hfd : l.find? (fun o => sameB false o.path.data.toList (parentL l[k].path.data.toList)) with
      | none => rw [hfd] at hpar; cases hpar
      | some o =>
        rw [hfd] at hpar
        obtain ⟨hpr, j, hj, hjo, _⟩ := List.find?_eq_some_iff_getElem.1 hfd
        have hpe : o.path.data.toList = parentL l[k].path.data.toList := by simpa [sameB] using hpr
        have hlt := parentL_lt _ h0
        have hjk : j < k := by
          rcases Nat.lt_trichotomy j k with h1 | h1 | h1
          · exact h1
          · exfalso
            subst h1
            rw [hjo] at hlt
            rw [hjo] at hpe
            rw [← hpe] at hlt
            exact List.lt_irrefl _ hlt
          · exfalso
            have := ord k j hk hj h1
            rw [hjo, hpe] at this
            exact List.lt_irrefl _ (List.lt_trans this hlt)
        rw [Bool.or_eq_true, List.any_eq_true]
        exact .inr ⟨o, hjo ▸ mem_take l k j hj hjk, by simp [hpar, hpe]⟩
  · cases ht : twiceB (l.take k) l[k] with
    | false => rfl
    | true =>
      exfalso
      unfold twiceB at ht
      obtain ⟨o, ho, hp⟩ := List.any_eq_true.1 ht
      obtain ⟨j, hj, hjk, hjo⟩ := of_mem_take l k o ho
      have := ord j k hj hk hjk
      rw [hjo, eq_of_beq hp] at this
      exact List.lt_irrefl _ this
  · cases ht : sizeB (l.take k) l[k] with
    | false => rfl
    | true =>
      exfalso
      unfold sizeB at ht
      obtain ⟨o, ho, hp⟩ := List.any_eq_true.1 ht
      have : otherB (l.take k) l[k] = true := by
        unfold otherB
        rw [List.any_eq_true]
        refine ⟨o, ho, ?_⟩
        simp only [Bool.and_eq_true] at hp
        simp only [Bool.and_eq_true]
        exact ⟨hp.1.2, hp.2⟩
      rw [hoth] at this; cases this

theorem core_chk (l : List EntD) (A : ∀ (k : Nat) (h : k < l.length), RefCore l k l[k]) : ∀ (k : Nat) (h : k < l.length), entErr l k l[k] false = 0 := by
  have ord := order_of_steps l (fun i hi => by
    have := (A (i + 1) hi).2.1 (by omega)
    rw [prev_at l i hi] at this
    exact (cmpL_key _ _).1.1 this)
  intro k hk
  obtain ⟨hf, ho, hup, htw, hsz⟩ := A k hk
  refine (entErr_zero _ _ _).2 ⟨hf, ho, ?_, ?_⟩
  · unfold hasParB
    unfold upB at hup
    rw [par_toList, parentB_eq]
    rw [parentB_eq] at hup
    by_cases h0 : parentL l[k].path.data.toList = []
    · rw [h0]; simp
    · rw [if_neg (by simpa using h0)]
      rw [Bool.or_eq_true, List.any_eq_true] at hup
      rcases hup with hup | ⟨o, ho1, ho2⟩
      · exact absurd (eq_of_beq hup) h0
      · obtain ⟨j, hj, hjk, hjo⟩ := of_mem_take l k o ho1
        rw [Bool.and_eq_true] at ho2
        have hpe := eq_of_beq ho2.2
        cases hfd : l.find? (fun o => sameB false o.path.data.toList (parentL l[k].path.data.toList)) with
        | none =>
          rw [List.find?_eq_none] at hfd
          exact absurd (by simpa [sameB] using hpe) (hfd o (hjo ▸ List.getElem_mem hj))
        | some o' =>
          obtain ⟨hpr, j', hj', hjo', _⟩ := List.find?_eq_some_iff_getElem.1 hfd
          have hpe' : o'.path.data.toList = parentL l[k].path.data.toList := by simpa [sameB] using hpr
          have : j = j' := by
            rcases Nat.lt_trichotomy j j' with h1 | h1 | h1
            · have := ord j j' hj hj' h1
              rw [hjo, hjo', hpe, hpe'] at this
              exact absurd this (List.lt_irrefl _)
            · exact h1
            · have := ord j' j hj' hj h1
              rw [hjo, hjo', hpe, hpe'] at this
              exact absurd this (List.lt_irrefl _)
          subst this
          have : o = o' := hjo.symm.trans hjo'
          subst this
          exact ho2.1
  · cases ht : otherB (l.take k) l[k] with
    | false => rfl
    | true =>
      exfalso
      unfold otherB at ht
      obtain ⟨o, ho, hp⟩ := List.any_eq_true.1 ht
      obtain ⟨j, hj, hjk, hjo⟩ := of_mem_take l k o ho
      have hfo := (A j hj).1
      rw [hjo] at hfo
      obtain ⟨_, _, f1⟩ := fieldsB_true _ hf
      obtain ⟨_, _, f2⟩ := fieldsB_true _ hfo
      simp only [Bool.and_eq_true, decide_eq_true_eq] at hp
      rcases f1 with ⟨d1, i1, z1⟩ | ⟨d1, i1, i2, z1, z2⟩
      · rcases f2 with ⟨d2, i3, z3⟩ | ⟨d2, i3, i4, z3, z4⟩
        · exact hp.2 (by omega)
        · omega
      · rcases f2 with ⟨d2, i3, z3⟩ | ⟨d2, i3, i4, z3, z4⟩
        · omega
        · have : sizeB (l.take k) l[k] = true := by
            unfold sizeB
            rw [List.any_eq_true]
            exact ⟨o, ho, by simp [d1, d2, hp.1]; exact hp.2⟩
          rw [hsz] at this; cases this

theorem twiceF_true (l : List EntD) (e : EntD) : twiceF true l e = twiceT l e := rfl
theorem twiceF_of (fold : Bool) (l : List EntD) (e : EntD) (h : twiceF fold l e = false) : twiceB l e = false := by
  unfold twiceF at h
  unfold twiceB
  rw [List.any_eq_false] at *
  intro x hx hp
  apply h x hx
  rw [eq_of_beq hp]
  exact (sameB_iff _ _ _).2 rfl
theorem twiceF_false (l : List EntD) (e : EntD) (h : twiceB l e = false) : twiceF false l e = false := by
  unfold twiceB at h
  unfold twiceF
  rw [List.any_eq_false] at *
  intro x hx hp
  apply h x hx
  simpa [sameB] using hp
theorem entErrF_zero (fold : Bool) (l : List EntD) (i : Nat) (e : EntD) : entErr l i e fold = 0 ↔ entErr l i e false = 0 ∧ (fold = true → twiceF true (l.take i) e = false) := by
  cases fold
  · exact ⟨fun h => ⟨h, fun x => by cases x⟩, fun h => h.1⟩
  · rw [entErrT_zero]; exact ⟨fun h => ⟨h.1, fun _ => h.2⟩, fun h => ⟨h.1, h.2 rfl⟩⟩
theorem refErH_zero (fold : Bool) (l : List EntD) (i : Nat) (e : EntD) : refErH fold l i e = 0 ↔ holdB e = true ∧ RefCore l i e ∧ twiceF fold (l.take i) e = false := by
  unfold refErH RefCore
  rw [less_cmp]
  by_cases h0 : holdB e = true
  · rw [h0, if_neg (by simp)]
    by_cases h1 : fieldsB e = true
    · rw [h1, if_neg (by simp)]
      by_cases h2 : 0 < i ∧ decide (cmpL ((l[i - 1]?.map (·.path.data.toList)).getD []) e.path.data.toList < 0) = false
      · rw [if_pos h2]
        constructor
        · intro h; omega
        · rintro ⟨_, ⟨_, h, _⟩, _⟩; have := h h2.1; have h3 := h2.2; simp at h3; omega
      · rw [if_neg h2]
        have h2' : 0 < i → cmpL ((l[i - 1]?.map (·.path.data.toList)).getD []) e.path.data.toList < 0 := fun h => by
          by_cases hx : cmpL ((l[i - 1]?.map (·.path.data.toList)).getD []) e.path.data.toList < 0
          · exact hx
          · exact absurd ⟨h, by simpa using hx⟩ h2
        by_cases h3 : upB (l.take i) (parentB e.path) = true
        · rw [h3, if_neg (by simp)]
          by_cases h4 : twiceF fold (l.take i) e = true
          · rw [if_pos h4]; simp [h4]
          · rw [if_neg h4]
            simp only [Bool.not_eq_true] at h4
            have h4' := twiceF_of _ _ _ h4
            by_cases h5 : sizeB (l.take i) e = true
            · rw [if_pos h5]; simp [h5]
            · rw [if_neg h5]; simp only [Bool.not_eq_true] at h5; simp [h4, h4', h5]; exact h2'
        · simp only [Bool.not_eq_true] at h3
          rw [if_pos h3]; simp [h3]
    · simp only [Bool.not_eq_true] at h1
      rw [if_pos h1]; simp [h1]
  · simp only [Bool.not_eq_true] at h0
    rw [if_pos h0]; simp [h0]
theorem chkAtH_zero (fold : Bool) (l : List EntD) (i : Nat) (e : EntD) : chkAtH fold l i e = 0 ↔ holdB e = true ∧ entErr l i e fold = 0 := by
  unfold chkAtH
  cases holdB e
  · simp
  · simp
theorem chkGoH_zero (fold : Bool) (l : List EntD) : ∀ (t : List EntD) (i : Nat), ((chkGoH fold l t i).1 = 0 ↔ ∀ (k : Nat) (h : k < t.length), chkAtH fold l (i + k) t[k] = 0) := by
  intro t
  induction t with
  | nil => intro i; simp [chkGoH]
  | cons e t ih =>
    intro i
    rw [chkGoH]
    split
    · next h0 =>
      rw [ih]
      constructor
      · intro h k hk
        cases k with
        | zero => exact h0
        | succ k => have := h k (by simpa using hk); rw [show i + (k + 1) = i + 1 + k by omega]; exact this
      · intro h k hk
        have := h (k + 1) (by simpa using hk)
        rw [show i + 1 + k = i + (k + 1) by omega]; exact this
    · next h0 =>
      constructor
      · intro h; exact absurd h h0
      · intro h; exact absurd (h 0 (by simp)) h0

theorem held_iff (fold : Bool) (l : List EntD) : heldF fold l = true ↔ l.length ≤ 120 ∧ ∀ (k : Nat) (hk : k < l.length), holdB l[k] = true ∧ RefCore l k l[k] ∧ twiceF fold (l.take k) l[k] = false := by
  unfold heldF chkPH
  rw [beq_iff_eq]
  by_cases h6 : 120 < l.length
  · rw [if_pos h6]
    exact ⟨fun h => absurd h (by decide), fun h => by omega⟩
  · rw [if_neg h6, chkGoH_zero]
    simp only [Nat.zero_add]
    constructor
    · intro h
      have E : ∀ (k : Nat) (hk : k < l.length), entErr l k l[k] false = 0 ∧ (fold = true → twiceF true (l.take k) l[k] = false) := fun k hk => (entErrF_zero _ _ _ _).1 ((chkAtH_zero _ _ _ _).1 (h k hk)).2
      have C := chk_core l (fun k hk => (E k hk).1)
      refine ⟨by omega, fun k hk => ⟨((chkAtH_zero _ _ _ _).1 (h k hk)).1, C k hk, ?_⟩⟩
      cases fold
      · exact twiceF_false _ _ (C k hk).2.2.2.1
      · exact (E k hk).2 rfl
    · rintro ⟨_, h⟩ k hk
      exact (chkAtH_zero _ _ _ _).2 ⟨(h k hk).1, (entErrF_zero _ _ _ _).2 ⟨core_chk l (fun k hk => (h k hk).2.1) k hk, by rintro rfl; exact (h k hk).2.2⟩⟩

theorem held_vol {fold : Bool} {l : List EntD} (h : heldF fold l = true) : VolOk fold l := by
  obtain ⟨h6, A⟩ := (held_iff fold l).1 h
  have S : Srt l := srt_of_order (order_of_steps l (fun i hi => by
    have := (A (i + 1) hi).2.1.2.1 (by omega)
    rw [prev_at l i hi] at this
    exact (cmpL_key _ _).1.1 this))
  refine ⟨S, by omega, ?_, ?_, ?_, ?_, ?_⟩
  · intro o ho
    obtain ⟨k, hk, rfl⟩ := List.mem_iff_getElem.1 ho
    have hh := (A k hk).1
    unfold holdB at hh
    simpa using hh
  · intro o ho
    obtain ⟨k, hk, rfl⟩ := List.mem_iff_getElem.1 ho
    exact (A k hk).2.1.1
  · intro o ho hne
    obtain ⟨k, hk, rfl⟩ := List.mem_iff_getElem.1 ho
    have hu := (A k hk).2.1.2.2.1
    unfold upB at hu
    rw [parentB_eq, Bool.or_eq_true, List.any_eq_true] at hu
    rcases hu with hu | ⟨x, hx, hp⟩
    · exact absurd (eq_of_beq hu) hne
    · rw [Bool.and_eq_true] at hp
      exact ⟨x, List.mem_of_mem_take hx, hp.1, eq_of_beq hp.2⟩
  · have key : ∀ (i j : Nat) (hi : i < l.length) (hj : j < l.length), i < j → sameB fold l[i].pl l[j].pl = true → False := by
      intro i j hi hj hij hs
      have ht := (A j hj).2.2
      unfold twiceF at ht
      rw [List.any_eq_false] at ht
      exact ht _ (mem_take l j i hi hij) hs
    intro a ha b hb hs
    obtain ⟨i, hi, rfl⟩ := List.mem_iff_getElem.1 ha
    obtain ⟨j, hj, rfl⟩ := List.mem_iff_getElem.1 hb
    rcases Nat.lt_trichotomy i j with hij | hij | hij
    · exact absurd hs (fun h => key i j hi hj hij h)
    · subst hij; rfl
    · exact absurd hs (fun h => key j i hj hi hij (by
        have : ∀ a b : List UInt8, sameB fold a b = true → sameB fold b a = true := fun a b h => sameB_symm h
        exact this _ _ h))
  · have key : ∀ (i j : Nat) (hi : i < l.length) (hj : j < l.length), i < j → l[i].dir = false → l[j].dir = false → l[i].id = l[j].id → l[i].size = l[j].size := by
      intro i j hi hj hij d1 d2 hid
      have hz := (A j hj).2.1.2.2.2.2
      unfold sizeB at hz
      rw [List.any_eq_false] at hz
      have := hz _ (mem_take l j i hi hij)
      simp [d1, d2, hid] at this
      exact this
    intro a ha b hb d1 d2 hid
    obtain ⟨i, hi, rfl⟩ := List.mem_iff_getElem.1 ha
    obtain ⟨j, hj, rfl⟩ := List.mem_iff_getElem.1 hb
    rcases Nat.lt_trichotomy i j with hij | hij | hij
    · exact key i j hi hj hij d1 d2 hid
    · subst hij; rfl
    · exact (key j i hj hi hij d2 d1 hid.symm).symm
end Go.Proofs.YtehkdjdflgknnaaGreatDoor
