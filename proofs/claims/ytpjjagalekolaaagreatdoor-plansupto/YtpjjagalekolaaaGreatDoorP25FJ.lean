/- Check with folding or without: both tell an error of the same lists; a tree that it takes is one that a volume may hold. -/
import Derived.Test.YtpjjagalekolaaaGreatDoorP12
import Derived.Test.YtpjjagalekolaaaGreatDoorP19
import Derived.Test.YtpjjagalekolaaaGreatDoorP14
namespace Go.Proofs.YtpjjagalekolaaaGreatDoor
open Go.RowKit
set_option linter.unusedVariables false
set_option linter.unusedSimpArgs false

theorem fst_twice (l : List EntD) (e : EntD) : (¬ 0 ≤ fstI (fun o => sameB true o.path.data.toList e.path.data.toList) l) ↔ twiceT l e = false := by
  unfold twiceT
  by_cases ha : (l.any fun o => sameB true o.path.data.toList e.path.data.toList) = true
  · rw [fstI, if_pos ha, ha]
    constructor
    · intro h; omega
    · intro h; cases h
  · rw [fstI, if_neg ha]
    simp only [Bool.not_eq_true] at ha
    rw [ha]; simp
theorem entErrT_zero (l : List EntD) (i : Nat) (e : EntD) : entErr l i e true = 0 ↔ entErr l i e false = 0 ∧ twiceT (l.take i) e = false := by
  rw [← fst_twice, entErr_zero]
  unfold entErr
  by_cases h1 : fieldsB e = true
  · rw [h1, if_neg (by simp)]
    by_cases h2 : 0 < i ∧ 0 ≤ cmpL ((l[i - 1]?.map (·.path.data.toList)).getD []) e.path.data.toList
    · rw [if_pos h2]
      constructor
      · intro h; omega
      · rintro ⟨⟨_, h, _⟩, _⟩
        have := h h2.1
        omega
    · rw [if_neg h2]
      by_cases h3 : hasParB l e.path = true
      · rw [h3, if_neg (by simp)]
        by_cases h4 : 0 ≤ fstI (fun o => sameB true o.path.data.toList e.path.data.toList) (l.take i)
        · rw [if_pos ⟨rfl, h4⟩]
          constructor
          · intro h; omega
          · rintro ⟨_, h⟩; exact absurd h4 h
        · rw [if_neg (fun h => h4 h.2)]
          by_cases h5 : otherB (l.take i) e = true
          · rw [if_pos h5, h5]; simp
          · rw [if_neg h5]
            simp only [Bool.not_eq_true] at h5
            refine ⟨fun _ => ⟨⟨rfl, fun hi => ?_, rfl, h5⟩, h4⟩, fun _ => rfl⟩
            have : ¬ 0 ≤ cmpL ((l[i - 1]?.map (·.path.data.toList)).getD []) e.path.data.toList := fun h => h2 ⟨hi, h⟩
            omega
      · simp only [Bool.not_eq_true] at h3
        rw [if_pos h3, h3]; simp
  · simp only [Bool.not_eq_true] at h1
    rw [if_pos h1, h1]; simp
theorem twice_of (l : List EntD) (e : EntD) (h : twiceT l e = false) : twiceB l e = false := by
  unfold twiceT at h
  unfold twiceB
  rw [List.any_eq_false] at *
  intro x hx hp
  apply h x hx
  rw [eq_of_beq hp]
  simp [sameB]
theorem refErT_zero (l : List EntD) (i : Nat) (e : EntD) : refErT l i e = 0 ↔ refErr l i e = 0 ∧ twiceT (l.take i) e = false := by
  unfold refErT refErr
  split
  · simp
  · split
    · simp
    · split
      · simp
      · split
        · simp
        · cases ht : twiceT (l.take i) e
          · have := twice_of _ _ ht
            rw [this]; simp
          · simp
theorem chkAtT_zero (l : List EntD) (i : Nat) (e : EntD) : chkAtT l i e = 0 ↔ chkAt l i e = 0 ∧ twiceT (l.take i) e = false := by
  unfold chkAtT chkAt
  split
  · simp
  · exact entErrT_zero l i e
theorem chkGoT_zero (l : List EntD) : ∀ (t : List EntD) (i : Nat), ((chkGoT l t i).1 = 0 ↔ ∀ (k : Nat) (h : k < t.length), chkAtT l (i + k) t[k] = 0) := by
  intro t
  induction t with
  | nil => intro i; simp [chkGoT]
  | cons e t ih =>
    intro i
    rw [chkGoT]
    split
    · next h0 =>
      rw [ih]
      constructor
      · intro h k hk
        cases k with
        | zero => exact h0
        | succ k => have := h k (by simpa using hk); rw [show i + (k + 1) = i + 1 + k by omega]; exact this
      · intro h k hk
        have := h (k + 1) (by simpa using hk)
        rw [show i + 1 + k = i + (k + 1) by omega]; exact this
    · next h0 =>
      constructor
      · intro h; exact absurd h h0
      · intro h; exact absurd (h 0 (by simp)) h0

theorem tree_sameT (l : List EntD) : treeBT l = ((refPT l).1 == 0) := by
  rw [Bool.eq_iff_iff]
  unfold treeBT chkPT refPT
  rw [beq_iff_eq, beq_iff_eq]
  by_cases h6 : 60 < l.length
  · rw [if_pos h6, if_pos h6]
  · rw [if_neg h6, if_neg h6, chkGoT_zero, refGoT_zero]
    simp only [Nat.zero_add]
    constructor
    · intro h k hk
      exact (refErT_zero _ _ _).2 ⟨chk_ref l (fun k hk => ((chkAtT_zero _ _ _).1 (h k hk)).1) k hk, ((chkAtT_zero _ _ _).1 (h k hk)).2⟩
    · intro h k hk
      exact (chkAtT_zero _ _ _).2 ⟨ref_chk l (fun k hk => ((refErT_zero _ _ _).1 (h k hk)).1) k hk, ((refErT_zero _ _ _).1 (h k hk)).2⟩
theorem treeBT_of (l : List EntD) (h : treeBT l = true) : treeB l = true ∧ ∀ (k : Nat) (hk : k < l.length), twiceT (l.take k) l[k] = false := by
  unfold treeBT chkPT at h
  rw [beq_iff_eq] at h
  by_cases h6 : 60 < l.length
  · rw [if_pos h6] at h; cases h
  · rw [if_neg h6, chkGoT_zero] at h
    simp only [Nat.zero_add] at h
    refine ⟨?_, fun k hk => ((chkAtT_zero _ _ _).1 (h k hk)).2⟩
    unfold treeB chkP
    rw [if_neg h6, beq_iff_eq, chkGo_zero]
    simp only [Nat.zero_add]
    exact fun k hk => ((chkAtT_zero _ _ _).1 (h k hk)).1

/-- Is it a tree, with folding or without? -/
def treeF (fold : Bool) (l : List EntD) : Bool := if fold then treeBT l else treeB l

theorem tree_vol {fold : Bool} {l : List EntD} (h : treeF fold l = true) : VolOk fold l := by
  have hb : treeB l = true ∧ (fold = true → ∀ (k : Nat) (hk : k < l.length), twiceT (l.take k) l[k] = false) := by
    cases fold
    · exact ⟨h, fun e => by cases e⟩
    · exact ⟨(treeBT_of l h).1, fun _ => (treeBT_of l h).2⟩
  obtain ⟨h1, h2⟩ := hb
  have T := tree_ok l h1
  have A : ∀ (k : Nat) (hk : k < l.length), refErr l k l[k] = 0 := by
    have h' := h1
    unfold treeB chkP at h'
    rw [beq_iff_eq, if_neg (by have := T.few; omega), chkGo_zero] at h'
    simp only [Nat.zero_add] at h'
    exact chk_ref l h'
  have S : Srt l := srt_of_order T.order
  refine ⟨S, by have := T.few; omega, fun o ho => .inl (T.names o ho), T.fields, ?_, ?_, ?_⟩
  · intro o ho hne
    obtain ⟨k, hk, rfl⟩ := List.mem_iff_getElem.1 ho
    have hu := ((refErr_zero _ _ _).1 (A k hk)).2.2.2.1
    unfold upB at hu
    rw [parentB_eq, Bool.or_eq_true, List.any_eq_true] at hu
    rcases hu with hu | ⟨x, hx, hp⟩
    · exact absurd (eq_of_beq hu) hne
    · rw [Bool.and_eq_true] at hp
      exact ⟨x, List.mem_of_mem_take hx, hp.1, eq_of_beq hp.2⟩
  · have key : ∀ (i j : Nat) (hi : i < l.length) (hj : j < l.length), i < j → sameB fold l[i].pl l[j].pl = true → False := by
      intro i j hi hj hij hs
      cases fold
      · have e : l[i].pl = l[j].pl := by simpa [sameB] using hs
        have := S.inj i j hi hj e
        omega
      · have ht := h2 rfl j hj
        unfold twiceT at ht
        rw [List.any_eq_false] at ht
        exact ht _ (mem_take l j i hi hij) hs
    intro a ha b hb hs
    obtain ⟨i, hi, rfl⟩ := List.mem_iff_getElem.1 ha
    obtain ⟨j, hj, rfl⟩ := List.mem_iff_getElem.1 hb
    rcases Nat.lt_trichotomy i j with hij | hij | hij
    · exact absurd hs (fun h => key i j hi hj hij h)
    · subst hij; rfl
    · exact absurd hs (fun h => key j i hj hi hij (by
        have : ∀ a b : List UInt8, sameB fold a b = true → sameB fold b a = true := fun a b h => sameB_symm h
        exact this _ _ h))
  · have key : ∀ (i j : Nat) (hi : i < l.length) (hj : j < l.length), i < j → l[i].dir = false → l[j].dir = false → l[i].id = l[j].id → l[i].size = l[j].size := by
      intro i j hi hj hij d1 d2 hid
      have hz := ((refErr_zero _ _ _).1 (A j hj)).2.2.2.2.2
      unfold sizeB at hz
      rw [List.any_eq_false] at hz
      have := hz _ (mem_take l j i hi hij)
      simp [d1, d2, hid] at this
      exact this
    intro a ha b hb d1 d2 hid
    obtain ⟨i, hi, rfl⟩ := List.mem_iff_getElem.1 ha
    obtain ⟨j, hj, rfl⟩ := List.mem_iff_getElem.1 hb
    rcases Nat.lt_trichotomy i j with hij | hij | hij
    · exact key i j hi hj hij d1 d2 hid
    · subst hij; rfl
    · exact (key j i hj hi hij d2 d1 hid.symm).symm
end Go.Proofs.YtpjjagalekolaaaGreatDoor

