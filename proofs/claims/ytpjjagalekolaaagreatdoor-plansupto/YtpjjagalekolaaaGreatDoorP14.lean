/- CJ, VA, VB, VC: in one text. -/
import Derived.Test.YtpjjagalekolaaaGreatDoorP13
/- Plain: the program and the reference take the same lists for trees. No program in this text. -/
namespace Go.Proofs.YtpjjagalekolaaaGreatDoor
open Go.RowKit
set_option linter.unusedVariables false
set_option linter.unusedSimpArgs false

theorem entErr_zero (l : List EntD) (i : Nat) (e : EntD) : entErr l i e false = 0 ↔ fieldsB e = true ∧ (0 < i → cmpL ((l[i - 1]?.map (·.path.data.toList)).getD []) e.path.data.toList < 0) ∧ hasParB l e.path = true ∧ otherB (l.take i) e = false := by
  unfold entErr
  by_cases h1 : fieldsB e = true
  · rw [h1, if_neg (by simp)]
    by_cases h2 : 0 < i ∧ 0 ≤ cmpL ((l[i - 1]?.map (·.path.data.toList)).getD []) e.path.data.toList
    · rw [if_pos h2]
      constructor
      · intro h; omega
      · rintro ⟨_, h, _⟩; have := h h2.1; omega
    · rw [if_neg h2]
      have h2' : 0 < i → cmpL ((l[i - 1]?.map (·.path.data.toList)).getD []) e.path.data.toList < 0 := fun h => by
        by_cases hx : cmpL ((l[i - 1]?.map (·.path.data.toList)).getD []) e.path.data.toList < 0
        · exact hx
        · exact absurd ⟨h, by omega⟩ h2
      by_cases h3 : hasParB l e.path = true
      · rw [h3, if_neg (by simp), if_neg (by simp)]
        by_cases h4 : otherB (l.take i) e = true
        · rw [if_pos h4]; simp [h4]
        · rw [if_neg h4]; simp only [Bool.not_eq_true] at h4; simp [h4]; exact h2'
      · simp only [Bool.not_eq_true] at h3
        rw [if_pos h3]; simp [h3]
  · simp only [Bool.not_eq_true] at h1
    rw [if_pos h1]; simp [h1]
theorem refErr_zero (l : List EntD) (i : Nat) (e : EntD) : refErr l i e = 0 ↔ pathL e.path.data.toList = true ∧ fieldsB e = true ∧ (0 < i → cmpL ((l[i - 1]?.map (·.path.data.toList)).getD []) e.path.data.toList < 0) ∧ upB (l.take i) (parentB e.path) = true ∧ twiceB (l.take i) e = false ∧ sizeB (l.take i) e = false := by
  unfold refErr
  rw [less_cmp]
  by_cases h0 : pathL e.path.data.toList = true
  · rw [h0, if_neg (by simp)]
    by_cases h1 : fieldsB e = true
    · rw [h1, if_neg (by simp)]
      by_cases h2 : 0 < i ∧ decide (cmpL ((l[i - 1]?.map (·.path.data.toList)).getD []) e.path.data.toList < 0) = false
      · rw [if_pos h2]
        constructor
        · intro h; omega
        · rintro ⟨_, _, h, _⟩; have := h h2.1; have h3 := h2.2; simp at h3; omega
      · rw [if_neg h2]
        have h2' : 0 < i → cmpL ((l[i - 1]?.map (·.path.data.toList)).getD []) e.path.data.toList < 0 := fun h => by
          by_cases hx : cmpL ((l[i - 1]?.map (·.path.data.toList)).getD []) e.path.data.toList < 0
          · exact hx
          · exact absurd ⟨h, by simpa using hx⟩ h2
        by_cases h3 : upB (l.take i) (parentB e.path) = true
        · rw [h3, if_neg (by simp)]
          by_cases h4 : twiceB (l.take i) e = true
          · rw [if_pos h4]; simp [h4]
          · rw [if_neg h4]
            simp only [Bool.not_eq_true] at h4
            by_cases h5 : sizeB (l.take i) e = true
            · rw [if_pos h5]; simp [h5]
            · rw [if_neg h5]; simp only [Bool.not_eq_true] at h5; simp [h4, h5]; exact h2'
        · simp only [Bool.not_eq_true] at h3
          rw [if_pos h3]; simp [h3]
    · simp only [Bool.not_eq_true] at h1
      rw [if_pos h1]; simp [h1]
  · simp only [Bool.not_eq_true] at h0
    rw [if_pos h0]; simp [h0]

theorem prev_at (l : List EntD) (i : Nat) (h : i + 1 < l.length) : (l[i + 1 - 1]?.map (·.path.data.toList)).getD [] = l[i].path.data.toList := by
  rw [show i + 1 - 1 = i by omega, List.getElem?_eq_getElem (by omega : i < l.length)]; rfl
theorem mem_take (l : List EntD) (k j : Nat) (hj : j < l.length) (h : j < k) : l[j] ∈ l.take k := List.mem_take_iff_getElem.2 ⟨j, by omega, rfl⟩
theorem of_mem_take (l : List EntD) (k : Nat) (o : EntD) (h : o ∈ l.take k) : ∃ (j : Nat) (hj : j < l.length), j < k ∧ l[j] = o := by
  obtain ⟨j, hj, he⟩ := List.mem_take_iff_getElem.1 h
  exact ⟨j, by omega, by omega, he⟩
theorem par_toList (p : ByteArray) : (parentB p).toList = parentL p.data.toList := by rw [ba_toList, parentB_eq]

theorem chk_ref (l : List EntD) (h : ∀ (k : Nat) (h : k < l.length), chkAt l k l[k] = 0) : ∀ (k : Nat) (h : k < l.length), refErr l k l[k] = 0 := by
  have A : ∀ (k : Nat) (hk : k < l.length), pathL l[k].path.data.toList = true ∧ entErr l k l[k] false = 0 := by
    intro k hk
    have := h k hk
    unfold chkAt at this
    by_cases hp : pathL l[k].path.data.toList = true
    · rw [hp, if_neg (by simp)] at this; exact ⟨hp, this⟩
    · rw [if_pos (by simpa using hp)] at this; omega
  have ord := order_of_steps l (fun i hi => by
    have := ((entErr_zero _ _ _).1 (A (i + 1) hi).2).2.1 (by omega)
    rw [prev_at l i hi] at this
    exact (cmpL_key _ _).1.1 this)
  intro k hk
  obtain ⟨hp, he⟩ := A k hk
  obtain ⟨hf, ho, hpar, hoth⟩ := (entErr_zero _ _ _).1 he
  refine (refErr_zero _ _ _).2 ⟨hp, hf, ho, ?_, ?_, ?_⟩
  · unfold hasParB at hpar
    unfold upB
    rw [parentB_eq]
    rw [par_toList, parentB_eq] at hpar
    by_cases h0 : parentL l[k].path.data.toList = []
    · rw [h0]; simp
    · rw [if_neg (by simpa using h0)] at hpar
      cases hfd : l.find? (fun o => sameB false o.path.data.toList (parentL l[k].path.data.toList)) with
      | none => rw [hfd] at hpar; cases hpar
      | some o =>
        rw [hfd] at hpar
        obtain ⟨hpr, j, hj, hjo, _⟩ := List.find?_eq_some_iff_getElem.1 hfd
        have hpe : o.path.data.toList = parentL l[k].path.data.toList := by simpa [sameB] using hpr
        have hlt := parentL_lt _ h0
        have hjk : j < k := by
          rcases Nat.lt_trichotomy j k with h1 | h1 | h1
          · exact h1
          · exfalso
            subst h1
            rw [hjo] at hlt
            rw [hjo] at hpe
            rw [← hpe] at hlt
            exact List.lt_irrefl _ hlt
          · exfalso
            have := ord k j hk hj h1
            rw [hjo, hpe] at this
            exact List.lt_irrefl _ (List.lt_trans this hlt)
        rw [Bool.or_eq_true, List.any_eq_true]
        exact .inr ⟨o, hjo ▸ mem_take l k j hj hjk, by simp [hpar, hpe]⟩
  · cases ht : twiceB (l.take k) l[k] with
    | false => rfl
    | true =>
      exfalso
      unfold twiceB at ht
      obtain ⟨o, ho, hp⟩ := List.any_eq_true.1 ht
      obtain ⟨j, hj, hjk, hjo⟩ := of_mem_take l k o ho
      have := ord j k hj hk hjk
      rw [hjo, eq_of_beq hp] at this
      exact List.lt_irrefl _ this
  · cases ht : sizeB (l.take k) l[k] with
    | false => rfl
    | true =>
      exfalso
      unfold sizeB at ht
      obtain ⟨o, ho, hp⟩ := List.any_eq_true.1 ht
      have : otherB (l.take k) l[k] = true := by
        unfold otherB
        rw [List.any_eq_true]
        refine ⟨o, ho, ?_⟩
        simp only [Bool.and_eq_true] at hp
        simp only [Bool.and_eq_true]
        exact ⟨hp.1.2, hp.2⟩
      rw [hoth] at this; cases this

theorem ref_chk (l : List EntD) (h : ∀ (k : Nat) (h : k < l.length), refErr l k l[k] = 0) : ∀ (k : Nat) (h : k < l.length), chkAt l k l[k] = 0 := by
  have A := fun k hk => (refErr_zero _ _ _).1 (h k hk)
  have ord := order_of_steps l (fun i hi => by
    have := (A (i + 1) hi).2.2.1 (by omega)
    rw [prev_at l i hi] at this
    exact (cmpL_key _ _).1.1 this)
  intro k hk
  obtain ⟨hp, hf, ho, hup, htw, hsz⟩ := A k hk
  unfold chkAt
  rw [hp, if_neg (by simp)]
  refine (entErr_zero _ _ _).2 ⟨hf, ho, ?_, ?_⟩
  · unfold hasParB
    unfold upB at hup
    rw [par_toList, parentB_eq]
    rw [parentB_eq] at hup
    by_cases h0 : parentL l[k].path.data.toList = []
    · rw [h0]; simp
    · rw [if_neg (by simpa using h0)]
      rw [Bool.or_eq_true, List.any_eq_true] at hup
      rcases hup with hup | ⟨o, ho1, ho2⟩
      · exact absurd (eq_of_beq hup) h0
      · obtain ⟨j, hj, hjk, hjo⟩ := of_mem_take l k o ho1
        rw [Bool.and_eq_true] at ho2
        have hpe := eq_of_beq ho2.2
        cases hfd : l.find? (fun o => sameB false o.path.data.toList (parentL l[k].path.data.toList)) with
        | none =>
          rw [List.find?_eq_none] at hfd
          exact absurd (by simpa [sameB] using hpe) (hfd o (hjo ▸ List.getElem_mem hj))
        | some o' =>
          obtain ⟨hpr, j', hj', hjo', _⟩ := List.find?_eq_some_iff_getElem.1 hfd
          have hpe' : o'.path.data.toList = parentL l[k].path.data.toList := by simpa [sameB] using hpr
          have : j = j' := by
            rcases Nat.lt_trichotomy j j' with h1 | h1 | h1
            · have := ord j j' hj hj' h1
              rw [hjo, hjo', hpe, hpe'] at this
              exact absurd this (List.lt_irrefl _)
            · exact h1
            · have := ord j' j hj' hj h1
              rw [hjo, hjo', hpe, hpe'] at this
              exact absurd this (List.lt_irrefl _)
          subst this
          have : o = o' := hjo.symm.trans hjo'
          subst this
          exact ho2.1
  · cases ht : otherB (l.take k) l[k] with
    | false => rfl
    | true =>
      exfalso
      unfold otherB at ht
      obtain ⟨o, ho, hp⟩ := List.any_eq_true.1 ht
      obtain ⟨j, hj, hjk, hjo⟩ := of_mem_take l k o ho
      have hfo := (A j hj).2.1
      rw [hjo] at hfo
      obtain ⟨_, _, f1⟩ := fieldsB_true _ hf
      obtain ⟨_, _, f2⟩ := fieldsB_true _ hfo
      simp only [Bool.and_eq_true, decide_eq_true_eq] at hp
      rcases f1 with ⟨d1, i1, z1⟩ | ⟨d1, i1, i2, z1, z2⟩
      · rcases f2 with ⟨d2, i3, z3⟩ | ⟨d2, i3, i4, z3, z4⟩
        · exact hp.2 (by omega)
        · omega
      · rcases f2 with ⟨d2, i3, z3⟩ | ⟨d2, i3, i4, z3, z4⟩
        · omega
        · have : sizeB (l.take k) l[k] = true := by
            unfold sizeB
            rw [List.any_eq_true]
            exact ⟨o, ho, by simp [d1, d2, hp.1]; exact hp.2⟩
          rw [hsz] at this; cases this

theorem tree_same (l : List EntD) : treeB l = ((refP l).1 == 0) := by
  rw [Bool.eq_iff_iff]
  unfold treeB chkP refP
  rw [beq_iff_eq, beq_iff_eq]
  by_cases h6 : 60 < l.length
  · rw [if_pos h6, if_pos h6]
  · rw [if_neg h6, if_neg h6, chkGo_zero, refGo_zero]
    simp only [Nat.zero_add]
    exact ⟨chk_ref l, ref_chk l⟩
theorem tree_ok (l : List EntD) (h : treeB l = true) : TreeOk l := by
  unfold treeB chkP at h
  rw [beq_iff_eq] at h
  by_cases h6 : 60 < l.length
  · rw [if_pos h6] at h; cases h
  · rw [if_neg h6, chkGo_zero] at h
    simp only [Nat.zero_add] at h
    have A := fun k hk => (refErr_zero _ _ _).1 (chk_ref l h k hk)
    refine ⟨by omega, fun o ho => ?_, fun o ho => ?_, order_of_steps l (fun i hi => ?_)⟩
    · obtain ⟨k, hk, rfl⟩ := List.mem_iff_getElem.1 ho
      exact (A k hk).1
    · obtain ⟨k, hk, rfl⟩ := List.mem_iff_getElem.1 ho
      exact (A k hk).2.1
    · have := (A (i + 1) hi).2.2.1 (by omega)
      rw [prev_at l i hi] at this
      exact (cmpL_key _ _).1.1 this
end Go.Proofs.YtpjjagalekolaaaGreatDoor

/- Plain: paths by folding, what is below a path, lists in the order of paths. No program in this text. -/
namespace Go.Proofs.YtpjjagalekolaaaGreatDoor
open Go.RowKit
set_option linter.unusedVariables false
set_option linter.unusedSimpArgs false

abbrev BL := List UInt8
def EntD.pl (o : EntD) : BL := o.path.data.toList
def EntD.withP (o : EntD) (l : BL) : EntD := { o with path := ⟨l.toArray⟩ }
theorem pl_withP (o : EntD) (l : BL) : (o.withP l).pl = l := by simp [EntD.pl, EntD.withP]
theorem ent_ext {a b : EntD} (h1 : a.pl = b.pl) (h2 : a.dir = b.dir) (h3 : a.id = b.id) (h4 : a.size = b.size) (h5 : a.mode = b.mode) : a = b := by
  have hp : a.path = b.path := by rw [← eta a.path, ← eta b.path]; exact congrArg (fun l : BL => (⟨l.toArray⟩ : ByteArray)) h1
  cases a
  cases b
  simp_all

/-! By folding. -/
def fl (fold : Bool) (l : BL) : BL := if fold then l.map foldB else l
theorem sameB_iff (fold : Bool) (a b : BL) : sameB fold a b = true ↔ fl fold a = fl fold b := by
  unfold sameB fl
  cases fold <;> simp
theorem sameB_refl (fold : Bool) (a : BL) : sameB fold a a = true := (sameB_iff _ _ _).2 rfl
theorem sameB_symm {fold : Bool} {a b : BL} (h : sameB fold a b = true) : sameB fold b a = true := (sameB_iff _ _ _).2 ((sameB_iff _ _ _).1 h).symm
theorem sameB_trans {fold : Bool} {a b c : BL} (h : sameB fold a b = true) (h' : sameB fold b c = true) : sameB fold a c = true := (sameB_iff _ _ _).2 (((sameB_iff _ _ _).1 h).trans ((sameB_iff _ _ _).1 h'))
theorem sameB_comm (fold : Bool) (a b : BL) : sameB fold a b = sameB fold b a := by
  rw [Bool.eq_iff_iff]; exact ⟨sameB_symm, sameB_symm⟩
theorem fl_length (fold : Bool) (a : BL) : (fl fold a).length = a.length := by unfold fl; cases fold <;> simp
theorem sameB_length {fold : Bool} {a b : BL} (h : sameB fold a b = true) : a.length = b.length := by
  have := congrArg List.length ((sameB_iff _ _ _).1 h)
  rwa [fl_length, fl_length] at this
theorem fl_append (fold : Bool) (a b : BL) : fl fold (a ++ b) = fl fold a ++ fl fold b := by unfold fl; cases fold <;> simp
theorem foldB_47 (c : UInt8) : foldB c = 47 ↔ c = 47 := by
  unfold foldB
  split
  · next h =>
    constructor
    · intro e
      have h1 := congrArg UInt8.toNat e
      rw [UInt8.toNat_add] at h1
      have h2 : (32 : UInt8).toNat = 32 := rfl
      have h3 : (47 : UInt8).toNat = 47 := rfl
      omega
    · intro e
      subst e
      have h3 : (47 : UInt8).toNat = 47 := rfl
      omega
  · exact Iff.rfl
theorem fl_cons (fold : Bool) (c : UInt8) (l : BL) : fl fold (c :: l) = (if fold then foldB c else c) :: fl fold l := by unfold fl; cases fold <;> simp
theorem fl_head (fold : Bool) (c : UInt8) : (if fold then foldB c else c) = 47 ↔ c = 47 := by
  cases fold
  · simp
  · simpa using foldB_47 c
theorem fl_47 (fold : Bool) (l : BL) : fl fold (47 :: l) = 47 :: fl fold l := by
  rw [fl_cons, (fl_head fold 47).2 rfl]

/-- Is a path below another? -/
def belowL (fold : Bool) (s top : BL) : Bool := decide (top.length < s.length) && (s[top.length]? == some 47) && sameB fold (s.take top.length) top
theorem belowL_iff (fold : Bool) (s top : BL) : belowL fold s top = true ↔ ∃ t r, s = t ++ 47 :: r ∧ sameB fold t top = true := by
  unfold belowL
  simp only [Bool.and_eq_true, decide_eq_true_eq, beq_iff_eq]
  constructor
  · rintro ⟨⟨h1, h2⟩, h3⟩
    refine ⟨s.take top.length, s.drop (top.length + 1), ?_, h3⟩
    obtain ⟨h4, h5⟩ := List.getElem?_eq_some_iff.1 h2
    rw [← h5, ← List.drop_eq_getElem_cons h4, List.take_append_drop]
  · rintro ⟨t, r, rfl, h⟩
    have hl := sameB_length h
    refine ⟨⟨by simp; omega, ?_⟩, ?_⟩
    · rw [← hl]; simp
    · rw [← hl]; simpa using h
theorem belowL_false (s top : BL) : belowL false s top = true ↔ ∃ r, s = top ++ 47 :: r := by
  rw [belowL_iff]
  constructor
  · rintro ⟨t, r, rfl, h⟩
    have : t = top := by simpa [sameB] using h
    exact ⟨r, by rw [this]⟩
  · rintro ⟨r, rfl⟩
    exact ⟨top, r, rfl, sameB_refl _ _⟩
/-! The order: what is below a path stands right behind it. -/
theorem rk_zero {c : UInt8} (h : rk c = 0) : c = 47 := by
  unfold rk at h
  split at h
  · assumption
  · omega
theorem between (p : BL) : ∀ (q r : BL), key p < key q → key q < key (p ++ 47 :: r) → ∃ r', q = p ++ 47 :: r' := by
  induction p with
  | nil =>
    intro q r h1 h2
    cases q with
    | nil => exact absurd h1 (List.lt_irrefl _)
    | cons c q =>
      simp only [List.nil_append, key, List.map_cons, List.cons_lt_cons_iff] at h2
      have h0 : rk 47 = 0 := rfl
      rw [h0] at h2
      rcases h2 with h2 | ⟨h2, _⟩
      · omega
      · exact ⟨q, by rw [rk_zero h2]; rfl⟩
  | cons a p ih =>
    intro q r h1 h2
    cases q with
    | nil => simp [key] at h1
    | cons c q =>
      simp only [key, List.cons_append, List.map_cons, List.cons_lt_cons_iff] at h1 h2
      have e : rk c = rk a := by
        rcases h1 with h1 | ⟨h1, _⟩
        · rcases h2 with h2 | ⟨h2, _⟩
          · omega
          · omega
        · omega
      have hc := rk_inj e
      subst hc
      have h1' : key p < key q := by
        rcases h1 with h1 | ⟨_, h1⟩
        · omega
        · exact h1
      have h2' : key q < key (p ++ 47 :: r) := by
        rcases h2 with h2 | ⟨_, h2⟩
        · omega
        · simpa [key] using h2
      obtain ⟨r', rfl⟩ := ih q r h1' h2'
      exact ⟨r', rfl⟩

def Srt (L : List EntD) : Prop := L.Pairwise fun a b => key a.pl < key b.pl
theorem srt_of_order {L : List EntD} (h : ∀ (i j : Nat) (hi : i < L.length) (hj : j < L.length), i < j → key L[i].pl < key L[j].pl) : Srt L := by
  unfold Srt
  rw [List.pairwise_iff_getElem]
  exact fun i j hi hj hij => h i j hi hj hij
theorem Srt.at {L : List EntD} (h : Srt L) (i j : Nat) (hi : i < L.length) (hj : j < L.length) (hij : i < j) : key L[i].pl < key L[j].pl := (List.pairwise_iff_getElem.1 h) i j hi hj hij
theorem Srt.inj {L : List EntD} (h : Srt L) (i j : Nat) (hi : i < L.length) (hj : j < L.length) (e : L[i].pl = L[j].pl) : i = j := by
  rcases Nat.lt_trichotomy i j with h1 | h1 | h1
  · have := h.at i j hi hj h1; rw [e] at this; exact absurd this (List.lt_irrefl _)
  · exact h1
  · have := h.at j i hj hi h1; rw [e] at this; exact absurd this (List.lt_irrefl _)

/-! An entry in its place. -/
def insL (e : EntD) : List EntD → List EntD
  | [] => [e]
  | o :: t => if cmpL e.pl o.pl < 0 then e :: o :: t else o :: insL e t
theorem insL_perm (e : EntD) (L : List EntD) : (insL e L).Perm (e :: L) := by
  induction L with
  | nil => exact List.Perm.refl _
  | cons o t ih =>
    rw [insL]
    split
    · exact List.Perm.refl _
    · exact (List.Perm.cons o ih).trans (List.Perm.swap e o t)
theorem insL_mem (e x : EntD) (L : List EntD) : x ∈ insL e L ↔ x = e ∨ x ∈ L := by
  rw [(insL_perm e L).mem_iff, List.mem_cons]
theorem insL_srt (e : EntD) (L : List EntD) (h : Srt L) (hne : ∀ x ∈ L, x.pl ≠ e.pl) : Srt (insL e L) := by
  induction L with
  | nil => exact List.pairwise_singleton _ _
  | cons o t ih =>
    obtain ⟨h1, h2⟩ := List.pairwise_cons.1 h
    rw [insL]
    split
    · next hlt =>
      have hk := (cmpL_key _ _).1.1 hlt
      refine List.pairwise_cons.2 ⟨fun x hx => ?_, h⟩
      rcases List.mem_cons.1 hx with rfl | hx
      · exact hk
      · exact List.lt_trans hk (h1 x hx)
    · next hlt =>
      have hgt : key o.pl < key e.pl := by
        have h3 : cmpL e.pl o.pl ≠ 0 := fun hz => hne o (by simp) ((cmpL_key _ _).2.2.1 hz).symm
        exact (cmpL_key _ _).2.1.1 (by omega)
      refine List.pairwise_cons.2 ⟨fun x hx => ?_, ih h2 (fun x hx => hne x (by simp [hx]))⟩
      rcases (insL_mem e x t).1 hx with rfl | hx
      · exact hgt
      · exact h1 x hx
/-- Two lists in order that are one but for the order are one. -/
theorem srt_eq : ∀ {L M : List EntD}, Srt L → Srt M → L.Perm M → L = M
  | [], M, _, _, hp => (List.nil_perm.1 hp).symm
  | a :: L, [], _, _, hp => by have := hp.length_eq; simp at this
  | a :: L, b :: M, hL, hM, hp => by
    obtain ⟨a1, a2⟩ := List.pairwise_cons.1 hL
    obtain ⟨b1, b2⟩ := List.pairwise_cons.1 hM
    have hab : a = b := by
      have h1 := hp.mem_iff.1 (List.mem_cons_self : a ∈ a :: L)
      have h2 := hp.mem_iff.2 (List.mem_cons_self : b ∈ b :: M)
      rcases List.mem_cons.1 h1 with h1 | h1
      · exact h1
      · rcases List.mem_cons.1 h2 with h2 | h2
        · exact h2.symm
        · exact absurd (List.lt_trans (a1 b h2) (b1 a h1)) (List.lt_irrefl _)
    subst hab
    rw [srt_eq a2 b2 ((List.perm_cons a).1 hp)]
/-- The place that a search by halves finds. -/
theorem insL_at (e : EntD) (L : List EntD) (i : Nat) (hi : i ≤ L.length) (h1 : ∀ (j : Nat) (hj : j < L.length), j < i → key L[j].pl < key e.pl) (h2 : ∀ (j : Nat) (hj : j < L.length), i ≤ j → key e.pl < key L[j].pl) (h : Srt L) : insL e L = L.take i ++ e :: L.drop i := by
  have hne : ∀ x ∈ L, x.pl ≠ e.pl := by
    intro x hx
    obtain ⟨j, hj, rfl⟩ := List.mem_iff_getElem.1 hx
    by_cases hji : j < i
    · intro e0; have := h1 j hj hji; rw [e0] at this; exact absurd this (List.lt_irrefl _)
    · intro e0; have := h2 j hj (by omega); rw [e0] at this; exact absurd this (List.lt_irrefl _)
  refine srt_eq (insL_srt e L h hne) ?_ ?_
  · unfold Srt
    rw [List.pairwise_append]
    refine ⟨h.sublist (List.take_sublist _ _), List.pairwise_cons.2 ⟨fun x hx => ?_, h.sublist (List.drop_sublist _ _)⟩, fun x hx y hy => ?_⟩
    · obtain ⟨j, hj, rfl⟩ := List.mem_iff_getElem.1 hx
      rw [List.getElem_drop]
      exact h2 (i + j) (by simp at hj; omega) (by omega)
    · obtain ⟨j, hj, hji, rfl⟩ := of_mem_take L i x hx
      rcases List.mem_cons.1 hy with rfl | hy
      · exact h1 j hj hji
      · obtain ⟨j', hj', rfl⟩ := List.mem_iff_getElem.1 hy
        rw [List.getElem_drop]
        exact h.at j (i + j') hj (by simp at hj'; omega) (by omega)
  · refine (insL_perm e L).trans ?_
    refine List.Perm.trans ?_ List.perm_middle.symm
    rw [List.take_append_drop]
theorem eraseIdx_take (L : List EntD) (i : Nat) : L.eraseIdx i = L.take i ++ L.drop (i + 1) := List.eraseIdx_eq_take_drop_succ L i
/-- An entry that is changed but for its path stays where it is. -/
theorem insL_set {L : List EntD} (h : Srt L) (i : Nat) (hi : i < L.length) (e : EntD) (he : e.pl = L[i].pl) : insL e (L.eraseIdx i) = L.set i e := by
  have hs : Srt (L.eraseIdx i) := h.sublist (List.eraseIdx_sublist _ _)
  rw [insL_at e (L.eraseIdx i) i (by rw [List.length_eraseIdx]; simp [hi]; omega) ?_ ?_ hs]
  · rw [eraseIdx_take, List.take_append_of_le_length (by simp; omega), List.take_take, Nat.min_self, List.drop_append_of_le_length (by simp; omega), List.drop_take, Nat.sub_self, List.take_zero, List.nil_append, List.set_eq_take_append_cons_drop, if_pos hi]
  · intro j hj hji
    rw [List.getElem_eraseIdx_of_lt _ hji, he]
    exact h.at j i (by omega) hi hji
  · intro j hj hij
    rw [List.getElem_eraseIdx_of_ge _ hij, he]
    exact h.at i (j + 1) hi (by rw [List.length_eraseIdx] at hj; simp [hi] at hj; omega) (by omega)
end Go.Proofs.YtpjjagalekolaaaGreatDoor

/- Plain: paths cut at their slashes; trees on a volume; where a path would lie. No program in this text. -/
namespace Go.Proofs.YtpjjagalekolaaaGreatDoor
open Go.RowKit
set_option linter.unusedVariables false
set_option linter.unusedSimpArgs false

def lastL (l : BL) : BL := (splSt l).2
def cnt (l : BL) : Nat := (spl l).length
def nmsL (l : BL) : Bool := (spl l).all nmL
theorem pathL_eq (l : BL) : pathL l = (decide (cnt l ≤ 6) && nmsL l) := rfl
theorem last_cut (l : BL) : (∀ c ∈ l, c ≠ 47) ∨ ∃ a b, l = a ++ 47 :: b ∧ ∀ c ∈ b, c ≠ 47 := by
  rcases indexByte_split l.reverse 47 with ⟨_, hn⟩ | ⟨i, _, _, he, hn⟩
  · left; intro c hc; exact hn c (by simpa using hc)
  · right
    refine ⟨(l.reverse.drop (i + 1)).reverse, (l.reverse.take i).reverse, ?_, fun c hc => hn c (by simpa using hc)⟩
    have := congrArg List.reverse he
    rw [List.reverse_reverse] at this
    refine this.trans ?_
    rw [List.reverse_append, List.reverse_cons, List.append_assoc, List.singleton_append]
theorem spl_split (a b : BL) : spl (a ++ 47 :: b) = spl a ++ spl b := by
  induction a with
  | nil => exact spl_47 b
  | cons c a ih =>
    by_cases hc : c = 47
    · subst hc
      rw [List.cons_append, spl_47, spl_47, ih]; rfl
    · obtain ⟨h, t, hs⟩ := spl_head a
      rw [List.cons_append, spl_cons c _ h (t ++ spl b) hc (by rw [ih, hs]; rfl), spl_cons c a h t hc hs]; rfl
theorem cnt_split (a b : BL) : cnt (a ++ 47 :: b) = cnt a + cnt b := by unfold cnt; rw [spl_split, List.length_append]
theorem nms_split (a b : BL) : nmsL (a ++ 47 :: b) = (nmsL a && nmsL b) := by unfold nmsL; rw [spl_split, List.all_append]
theorem cnt_count (l : BL) : cnt l = l.count 47 + 1 := by
  unfold cnt
  induction l with
  | nil => rfl
  | cons c l ih =>
    by_cases hc : c = 47
    · subst hc; rw [spl_47, List.length_cons, ih]; simp
    · obtain ⟨h, t, hs⟩ := spl_head l
      rw [spl_cons c l h t hc hs, List.length_cons]
      rw [hs, List.length_cons] at ih
      rw [List.count_cons_of_ne hc, ih]
theorem cnt_one (l : BL) (h : ∀ c ∈ l, c ≠ 47) : cnt l = 1 := by unfold cnt; rw [spl_none l h]; rfl
theorem spl_last (l : BL) : spl l = (splSt l).1 ++ [lastL l] := rfl
theorem lastL_cut (a b : BL) (h : ∀ c ∈ b, c ≠ 47) : lastL (a ++ 47 :: b) = b := by
  have h1 := spl_split a b
  rw [spl_none b h, spl_last] at h1
  have := congrArg List.getLast? h1
  simpa using this
theorem lastL_none (l : BL) (h : ∀ c ∈ l, c ≠ 47) : lastL l = l := by
  have h1 := spl_none l h
  rw [spl_last] at h1
  have := congrArg List.getLast? h1
  simpa using this
theorem lastL_no47 (l : BL) : ∀ c ∈ lastL l, c ≠ 47 := by
  rcases last_cut l with h | ⟨a, b, rfl, h⟩
  · rw [lastL_none l h]; exact h
  · rw [lastL_cut a b h]; exact h
theorem par_last (l : BL) (h : parentL l ≠ []) : l = parentL l ++ 47 :: lastL l := by
  rcases last_cut l with hn | ⟨a, b, rfl, hn⟩
  · exact absurd (parentL_none l hn) h
  · rw [parentL_cut a b hn, lastL_cut a b hn]
theorem nms_last (l : BL) (h : nmsL l = true) : nmL (lastL l) = true := by
  unfold nmsL at h
  rw [List.all_eq_true] at h
  exact h (lastL l) (by rw [spl_last]; simp)
theorem nms_ne {l : BL} (h : nmsL l = true) : l ≠ [] := by
  intro e
  subst e
  revert h
  decide
theorem nms_par_nil {l : BL} (h : nmsL l = true) (hp : parentL l = []) : ∀ c ∈ l, c ≠ 47 := by
  rcases last_cut l with hn | ⟨a, b, rfl, hn⟩
  · exact hn
  · rw [parentL_cut a b hn] at hp
    subst hp
    rw [nms_split] at h
    exfalso
    revert h
    rw [Bool.and_eq_true]
    rintro ⟨h, _⟩
    exact nms_ne h rfl
theorem spare_no47 {l : BL} (h : spareL l = true) : ∀ c ∈ l, c ≠ 47 := by
  unfold spareL at h
  simp only [Bool.and_eq_true, decide_eq_true_eq, beq_iff_eq] at h
  obtain ⟨⟨⟨h1, h2⟩, h3⟩, h4⟩ := h
  cases l with
  | nil => intro c hc; simp at hc
  | cons a t =>
    intro c hc
    rcases List.mem_cons.1 hc with rfl | hc
    · simp at h3
      intro e
      rw [h3] at e
      exact absurd e (by decide)
    · unfold tailDigits at h4
      rw [List.all_eq_true] at h4
      have := h4 c (by simpa using hc)
      intro e
      subst e
      revert this
      decide

/-! By folding. -/
theorem same_cut {fold : Bool} {a r b : BL} (h : sameB fold (a ++ 47 :: r) b = true) : ∃ a' r', b = a' ++ 47 :: r' ∧ sameB fold a a' = true ∧ sameB fold r r' = true := by
  have hl := sameB_length h
  rw [sameB_iff, fl_append, fl_47] at h
  have hn : a.length < b.length := by simp at hl; omega
  have e : b = b.take a.length ++ b[a.length] :: b.drop (a.length + 1) := by rw [← List.drop_eq_getElem_cons hn, List.take_append_drop]
  have hb : fl fold b = fl fold (b.take a.length) ++ (if fold then foldB b[a.length] else b[a.length]) :: fl fold (b.drop (a.length + 1)) := by
    conv => lhs; rw [e]
    rw [fl_append, fl_cons]
  rw [hb] at h
  have hlen : (fl fold a).length = (fl fold (b.take a.length)).length := by rw [fl_length, fl_length, List.length_take]; omega
  obtain ⟨h1, h2⟩ := List.append_inj h hlen
  obtain ⟨h3, h4⟩ := List.cons.inj h2
  have h5 := (fl_head fold _).1 h3.symm
  refine ⟨b.take a.length, b.drop (a.length + 1), ?_, (sameB_iff _ _ _).2 h1, (sameB_iff _ _ _).2 h4⟩
  rw [← h5]; exact e
theorem same_no47 {fold : Bool} {a b : BL} (h : sameB fold a b = true) (hn : ∀ c ∈ a, c ≠ 47) : ∀ c ∈ b, c ≠ 47 := by
  intro c hc e
  subst e
  obtain ⟨x, y, rfl⟩ := List.append_of_mem hc
  obtain ⟨x', y', rfl, _⟩ := same_cut (sameB_symm h)
  exact hn 47 (by simp) rfl
theorem same_parent {fold : Bool} {a b : BL} (h : sameB fold a b = true) : sameB fold (parentL a) (parentL b) = true := by
  rcases last_cut a with hn | ⟨x, y, rfl, hn⟩
  · rw [parentL_none a hn, parentL_none b (same_no47 h hn)]; exact sameB_refl _ _
  · obtain ⟨x', y', rfl, h1, h2⟩ := same_cut h
    rw [parentL_cut x y hn, parentL_cut x' y' (same_no47 h2 hn)]
    exact h1
theorem same_cnt {fold : Bool} {a b : BL} (h : sameB fold a b = true) : cnt a = cnt b := by
  suffices key : ∀ l : BL, (fl fold l).count 47 = l.count 47 by
    rw [cnt_count, cnt_count, ← key a, ← key b, (sameB_iff _ _ _).1 h]
  intro l
  induction l with
  | nil => unfold fl; cases fold <;> rfl
  | cons c l ih =>
    rw [fl_cons, List.count_cons, List.count_cons, ih]
    congr 1
    by_cases hc : c = 47
    · rw [if_pos (by simpa using (fl_head fold c).2 hc), if_pos (by simpa using hc)]
    · rw [if_neg (by simpa using fun e => hc ((fl_head fold c).1 e)), if_neg (by simpa using hc)]
theorem same_append {fold : Bool} {a b c d : BL} (h1 : sameB fold a b = true) (h2 : sameB fold c d = true) : sameB fold (a ++ c) (b ++ d) = true := by
  rw [sameB_iff] at *
  rw [fl_append, fl_append, h1, h2]

/-! Trees on a volume. -/
structure VolOk (fold : Bool) (L : List EntD) : Prop where
  srt : Srt L
  few : L.length ≤ 120
  names : ∀ o ∈ L, pathL o.pl = true ∨ (o.dir = false ∧ spareL o.pl = true)
  fields : ∀ o ∈ L, fieldsB o = true
  par : ∀ o ∈ L, parentL o.pl ≠ [] → ∃ p ∈ L, p.dir = true ∧ p.pl = parentL o.pl
  one : ∀ a ∈ L, ∀ b ∈ L, sameB fold a.pl b.pl = true → a = b
  sizes : ∀ a ∈ L, ∀ b ∈ L, a.dir = false → b.dir = false → a.id = b.id → a.size = b.size

/-- May a path stand in an operation? -/
def goodP (p : BL) : Prop := pathL p = true ∨ spareL p = true
theorem pathL_nms {l : BL} (h : pathL l = true) : nmsL l = true ∧ cnt l ≤ 6 := by
  rw [pathL_eq, Bool.and_eq_true, decide_eq_true_eq] at h
  exact ⟨h.2, h.1⟩
theorem pathL_mk {l : BL} (h1 : nmsL l = true) (h2 : cnt l ≤ 6) : pathL l = true := by
  rw [pathL_eq, h1]; simpa using h2

/-- Whatever stands below a path that is there: that path is there, and is a directory. -/
theorem anc {fold : Bool} {L : List EntD} (V : VolOk fold L) : ∀ (n : Nat) (y : EntD) (t r : BL), r.length = n → y ∈ L → y.pl = t ++ 47 :: r → ∃ z ∈ L, z.dir = true ∧ z.pl = t := by
  intro n
  induction n using Nat.strongRecOn with
  | _ n ih =>
    intro y t r hr hy hp
    have hnm : nmsL y.pl = true := by
      rcases V.names y hy with h | ⟨_, h⟩
      · exact (pathL_nms h).1
      · exact absurd rfl (spare_no47 h 47 (by rw [hp]; simp))
    have ht : t ≠ [] := by
      rw [hp, nms_split, Bool.and_eq_true] at hnm
      exact nms_ne hnm.1
    rcases last_cut r with hn | ⟨a, b, rfl, hn⟩
    · have hpar : parentL y.pl = t := by rw [hp, parentL_cut t r hn]
      obtain ⟨z, hz, hd, he⟩ := V.par y hy (by rw [hpar]; exact ht)
      exact ⟨z, hz, hd, he.trans hpar⟩
    · have e : t ++ 47 :: (a ++ 47 :: b) = (t ++ 47 :: a) ++ 47 :: b := by simp
      have hpar : parentL y.pl = t ++ 47 :: a := by rw [hp, e, parentL_cut _ b hn]
      obtain ⟨z, hz, hd, he⟩ := V.par y hy (by rw [hpar]; simp)
      exact ih a.length (by rw [← hr]; simp) z t a rfl hz (he.trans hpar)

def atP (fold : Bool) (L : List EntD) (p : BL) : Option EntD := L.find? fun o => sameB fold o.pl p
def placeL (fold : Bool) (L : List EntD) (p : BL) : Option BL :=
  if parentL p = [] then some p else match atP fold L (parentL p) with
    | some o => if o.dir then some (o.pl ++ 47 :: lastL p) else none
    | none => none
theorem placeL_some {fold : Bool} {L : List EntD} {p t : BL} (h : placeL fold L p = some t) : (parentL p = [] ∧ t = p) ∨ (parentL p ≠ [] ∧ ∃ o ∈ L, o.dir = true ∧ sameB fold o.pl (parentL p) = true ∧ t = o.pl ++ 47 :: lastL p) := by
  unfold placeL at h
  by_cases hp : parentL p = []
  · rw [if_pos hp] at h; exact .inl ⟨hp, (Option.some.inj h).symm⟩
  · rw [if_neg hp] at h
    right
    refine ⟨hp, ?_⟩
    unfold atP at h
    cases hf : L.find? (fun o => sameB fold o.pl (parentL p)) with
    | none => rw [hf] at h; cases h
    | some o =>
      rw [hf] at h
      simp only at h
      split at h
      · next hd => exact ⟨o, List.mem_of_find?_eq_some hf, hd, List.find?_some (p := fun o : EntD => sameB fold o.pl (parentL p)) hf, (Option.some.inj h).symm⟩
      · cases h
theorem place_same {fold : Bool} {L : List EntD} {p t : BL} (h : placeL fold L p = some t) : sameB fold t p = true := by
  rcases placeL_some h with ⟨_, rfl⟩ | ⟨hp, o, _, _, hs, rfl⟩
  · exact sameB_refl _ _
  · have := par_last p hp
    conv => arg 1; arg 3; rw [this]
    exact same_append hs (sameB_refl _ _)
theorem place_good {fold : Bool} {L : List EntD} {p t : BL} (V : VolOk fold L) (h : placeL fold L p = some t) (hp : goodP p) : (pathL p = true → pathL t = true) ∧ (spareL p = true → t = p) := by
  have hc := same_cnt (place_same h)
  rcases placeL_some h with ⟨_, rfl⟩ | ⟨hne, o, ho, hd, hs, rfl⟩
  · exact ⟨fun h => h, fun _ => rfl⟩
  · constructor
    · intro hpp
      obtain ⟨h1, h2⟩ := pathL_nms hpp
      refine pathL_mk ?_ (by omega)
      have hoN : nmsL o.pl = true := by
        rcases V.names o ho with h | ⟨h, _⟩
        · exact (pathL_nms h).1
        · rw [hd] at h; cases h
      rw [nms_split, hoN, Bool.true_and]
      unfold nmsL
      rw [spl_none _ (lastL_no47 p)]
      simpa using nms_last p h1
    · intro hsp
      exact absurd (parentL_none p (spare_no47 hsp)) hne
/-- The parent of the place is there. -/
theorem place_par {fold : Bool} {L : List EntD} {p t : BL} (h : placeL fold L p = some t) : parentL t ≠ [] → ∃ z ∈ L, z.dir = true ∧ z.pl = parentL t := by
  intro hne
  rcases placeL_some h with ⟨hp, rfl⟩ | ⟨_, o, ho, hd, hs, rfl⟩
  · exact absurd hp hne
  · exact ⟨o, ho, hd, (parentL_cut _ _ (lastL_no47 p)).symm⟩
end Go.Proofs.YtpjjagalekolaaaGreatDoor

/- Plain: what an operation makes of a tree on a volume; it stays one. No program in this text. -/
namespace Go.Proofs.YtpjjagalekolaaaGreatDoor
open Go.RowKit
set_option linter.unusedVariables false
set_option linter.unusedSimpArgs false

def usedL : List EntD → Int
  | [] => 0
  | o :: t => o.size + usedL t

def mkL (fold : Bool) (space : Int) (L : List EntD) (e : EntD) : Except Int (List EntD) :=
  if (L.any fun x => sameB fold x.pl e.pl) = true then .error 8
  else match placeL fold L e.pl with
    | none => .error 2
    | some p =>
      if 120 ≤ L.length then .error 5
      else if (!e.dir && L.any fun x => !x.dir && decide (x.id = e.id) && decide (x.size ≠ e.size)) = true then .error 6
      else if (!e.dir && decide (space < usedL L + e.size)) = true then .error 11
      else .ok (insL (e.withP p) L)

theorem mem_eq_of_srt {L : List EntD} (h : Srt L) {a b : EntD} (ha : a ∈ L) (hb : b ∈ L) (e : a.pl = b.pl) : a = b := by
  obtain ⟨i, hi, rfl⟩ := List.mem_iff_getElem.1 ha
  obtain ⟨j, hj, rfl⟩ := List.mem_iff_getElem.1 hb
  have := h.inj i j hi hj e
  subst this
  rfl

theorem mk_ok {fold : Bool} {space : Int} {L L' : List EntD} {e : EntD} (V : VolOk fold L) (h : mkL fold space L e = .ok L') (hg : goodP e.pl) (hd : e.dir = true → pathL e.pl = true) (hf : fieldsB e = true) : VolOk fold L' := by
  unfold mkL at h
  split at h
  · cases h
  · next hex =>
    cases hp : placeL fold L e.pl with
    | none => rw [hp] at h; cases h
    | some p =>
      rw [hp] at h
      simp only at h
      split at h
      · cases h
      · next hfew =>
        split at h
        · cases h
        · next hsz =>
          split at h
          · cases h
          · next hfull =>
            have hL : L' = insL (e.withP p) L := (Except.ok.inj h).symm
            subst hL
            have hsame := place_same hp
            have hgood := place_good V hp hg
            have hno : ∀ x ∈ L, sameB fold x.pl e.pl = false := by
              intro x hx
              cases hxx : sameB fold x.pl e.pl with
              | false => rfl
              | true => exact absurd (List.any_eq_true.2 ⟨x, hx, hxx⟩) hex
            have hno' : ∀ x ∈ L, sameB fold x.pl p = false := by
              intro x hx
              cases hxx : sameB fold x.pl p with
              | false => rfl
              | true => rw [← hno x hx]; exact (sameB_trans hxx hsame).symm
            have hne : ∀ x ∈ L, x.pl ≠ (e.withP p).pl := by
              intro x hx he
              rw [pl_withP] at he
              have := hno' x hx
              rw [he, sameB_refl] at this
              cases this
            refine ⟨insL_srt _ _ V.srt hne, ?_, fun o ho => ?_, fun o ho => ?_, fun o ho hpar => ?_, fun a ha b hb hab => ?_, fun a ha b hb da db hid => ?_⟩
            · rw [(insL_perm _ _).length_eq]; simp; omega
            · rcases (insL_mem _ _ _).1 ho with rfl | ho
              · rw [pl_withP]
                rcases hg with hg | hg
                · exact .inl (hgood.1 hg)
                · rw [hgood.2 hg]
                  cases hde : e.dir with
                  | true => exact .inl (hd hde)
                  | false => exact .inr ⟨hde, hg⟩
              · exact V.names o ho
            · rcases (insL_mem _ _ _).1 ho with rfl | ho
              · exact hf
              · exact V.fields o ho
            · rcases (insL_mem _ _ _).1 ho with rfl | ho
              · rw [pl_withP] at hpar ⊢
                obtain ⟨z, hz, h1, h2⟩ := place_par hp hpar
                exact ⟨z, (insL_mem _ _ _).2 (.inr hz), h1, h2⟩
              · obtain ⟨z, hz, h1, h2⟩ := V.par o ho hpar
                exact ⟨z, (insL_mem _ _ _).2 (.inr hz), h1, h2⟩
            · rcases (insL_mem _ _ _).1 ha with rfl | ha
              · rcases (insL_mem _ _ _).1 hb with rfl | hb
                · rfl
                · rw [pl_withP, sameB_comm, hno' b hb] at hab; cases hab
              · rcases (insL_mem _ _ _).1 hb with rfl | hb
                · rw [pl_withP, hno' a ha] at hab; cases hab
                · exact V.one a ha b hb hab
            · have hother : ∀ x ∈ L, e.dir = false → x.dir = false → x.id = e.id → x.size = e.size := by
                intro x hx de dx hi
                by_cases hz : x.size = e.size
                · exact hz
                · exfalso
                  refine hsz ?_
                  rw [de, Bool.not_false, Bool.true_and]
                  exact List.any_eq_true.2 ⟨x, hx, by simp [dx, hi, hz]⟩
              rcases (insL_mem _ _ _).1 ha with rfl | ha
              · rcases (insL_mem _ _ _).1 hb with rfl | hb
                · rfl
                · exact (hother b hb da db hid.symm).symm
              · rcases (insL_mem _ _ _).1 hb with rfl | hb
                · exact hother a ha db da hid
                · exact V.sizes a ha b hb da db hid

/-- Nothing that is taken away bears others. -/
theorem sub_ok {fold : Bool} {L M : List EntD} (V : VolOk fold L) (hs : M.Sublist L) (hp : ∀ o ∈ M, ∀ p ∈ L, p.pl = parentL o.pl → p.dir = true → p ∈ M) : VolOk fold M where
  srt := V.srt.sublist hs
  few := Nat.le_trans hs.length_le V.few
  names := fun o ho => V.names o (hs.subset ho)
  fields := fun o ho => V.fields o (hs.subset ho)
  par := fun o ho hne => by
    obtain ⟨z, hz, h1, h2⟩ := V.par o (hs.subset ho) hne
    exact ⟨z, hp o ho z hz h2 h1, h1, h2⟩
  one := fun a ha b hb h => V.one a (hs.subset ha) b (hs.subset hb) h
  sizes := fun a ha b hb => V.sizes a (hs.subset ha) b (hs.subset hb)

theorem mem_erase_of_ne {L : List EntD} {i : Nat} (hi : i < L.length) {p : EntD} (hp : p ∈ L) (hne : p ≠ L[i]) : p ∈ L.eraseIdx i := by
  obtain ⟨j, hj, rfl⟩ := List.mem_iff_getElem.1 hp
  rw [List.mem_eraseIdx_iff_getElem]
  exact ⟨j, hj, fun e => hne (by subst e; rfl), rfl⟩
theorem mem_erase_ne {L : List EntD} (h : Srt L) {i : Nat} (hi : i < L.length) {p : EntD} (hp : p ∈ L.eraseIdx i) : p ∈ L ∧ p ≠ L[i] := by
  rw [List.mem_eraseIdx_iff_getElem] at hp
  obtain ⟨j, hj, hne, rfl⟩ := hp
  refine ⟨List.getElem_mem hj, fun e => hne ?_⟩
  exact h.inj j i hj hi (by rw [e])

theorem below_of_par {fold : Bool} {L : List EntD} (V : VolOk fold L) {o : EntD} (ho : o ∈ L) {t : BL} (he : t = parentL o.pl) (hne : t ≠ []) : belowL false o.pl t = true := by
  rw [belowL_false]
  subst he
  exact ⟨lastL o.pl, par_last _ hne⟩
theorem pl_ne {fold : Bool} {L : List EntD} (V : VolOk fold L) {o : EntD} (ho : o ∈ L) : o.pl ≠ [] := by
  rcases V.names o ho with h | ⟨_, h⟩
  · exact nms_ne (pathL_nms h).1
  · intro e; rw [e] at h; revert h; decide

theorem erase_ok {fold : Bool} {L : List EntD} (V : VolOk fold L) {i : Nat} (hi : i < L.length) (hb : (L.any fun x => belowL false x.pl L[i].pl) = false) : VolOk fold (L.eraseIdx i) := by
  refine sub_ok V (List.eraseIdx_sublist _ _) (fun o ho p hp he hd => mem_erase_of_ne hi hp (fun e => ?_))
  subst e
  have ho' := (mem_erase_ne V.srt hi ho).1
  have := below_of_par V ho' he (pl_ne V hp)
  rw [List.any_eq_false] at hb
  exact hb o ho' this
/-- Nothing is below a file. -/
theorem file_leaf {fold : Bool} {L : List EntD} (V : VolOk fold L) {i : Nat} (hi : i < L.length) (hd : L[i].dir = false) : (L.any fun x => belowL false x.pl L[i].pl) = false := by
  rw [List.any_eq_false]
  intro x hx hb
  obtain ⟨r, hr⟩ := (belowL_false _ _).1 hb
  obtain ⟨z, hz, h1, h2⟩ := anc V r.length x L[i].pl r rfl hx hr
  have := mem_eq_of_srt V.srt hz (List.getElem_mem hi) h2
  rw [this, hd] at h1
  cases h1
theorem set_ok {fold : Bool} {L : List EntD} (V : VolOk fold L) {i : Nat} (hi : i < L.length) (m : Int) (h0 : 0 ≤ m) (h1 : m ≤ 511) : VolOk fold (L.set i { L[i] with mode := m }) := by
  have hpl : ({ L[i] with mode := m } : EntD).pl = L[i].pl := rfl
  have back : ∀ o ∈ L.set i { L[i] with mode := m }, ∃ o' ∈ L, o'.pl = o.pl ∧ o'.dir = o.dir ∧ o'.id = o.id ∧ o'.size = o.size ∧ (o = o' ∨ (o' = L[i] ∧ o = { L[i] with mode := m })) := by
    intro o ho
    rcases List.mem_or_eq_of_mem_set ho with ho | rfl
    · exact ⟨o, ho, rfl, rfl, rfl, rfl, .inl rfl⟩
    · exact ⟨L[i], List.getElem_mem hi, rfl, rfl, rfl, rfl, .inr ⟨rfl, rfl⟩⟩
  have forth : ∀ o ∈ L, ∃ o' ∈ L.set i { L[i] with mode := m }, o'.pl = o.pl ∧ o'.dir = o.dir := by
    intro o ho
    obtain ⟨j, hj, rfl⟩ := List.mem_iff_getElem.1 ho
    by_cases e : i = j
    · subst e
      exact ⟨{ L[i] with mode := m }, List.mem_set hi _, rfl, rfl⟩
    · refine ⟨L[j], ?_, rfl, rfl⟩
      rw [List.mem_iff_getElem]
      exact ⟨j, by simpa using hj, by rw [List.getElem_set_ne e]⟩
  have hsrt : Srt (L.set i { L[i] with mode := m }) := by
    refine srt_of_order (fun a b ha hb hab => ?_)
    have e : ∀ (k : Nat) (hk : k < (L.set i { L[i] with mode := m }).length), ((L.set i { L[i] with mode := m })[k]).pl = (L[k]'(by simpa using hk)).pl := by
      intro k hk
      rw [List.getElem_set]
      split
      · next e => subst e; rfl
      · rfl
    rw [e a ha, e b hb]
    exact V.srt.at a b (by simpa using ha) (by simpa using hb) hab
  refine ⟨hsrt, by simpa using V.few, fun o ho => ?_, fun o ho => ?_, fun o ho hne => ?_, fun a ha b hb hab => ?_, fun a ha b hb da db hid => ?_⟩
  · obtain ⟨o', h1', h2, h3, _⟩ := back o ho
    have := V.names o' h1'
    rwa [h2, h3] at this
  · obtain ⟨o', h1', h2, h3, h4, h5, h6⟩ := back o ho
    rcases h6 with rfl | ⟨rfl, rfl⟩
    · exact V.fields o h1'
    · have hf := V.fields L[i] h1'
      obtain ⟨_, _, f3⟩ := fieldsB_true _ hf
      rcases f3 with ⟨d1, d2, d3⟩ | ⟨d1, d2, d3, d4, d5⟩
      · simp [fieldsB, d1, d2, d3, h0, h1]
      · simp [fieldsB, d1, d2, d3, d4, d5, h0, h1]
  · obtain ⟨o', h1', h2, _⟩ := back o ho
    rw [← h2] at hne
    obtain ⟨z, hz, z1, z2⟩ := V.par o' h1' hne
    obtain ⟨z', hz', z3, z4⟩ := forth z hz
    exact ⟨z', hz', by rw [z4]; exact z1, by rw [z3, z2, h2]⟩
  · obtain ⟨a', a1, a2, a3, a4, a5, a6⟩ := back a ha
    obtain ⟨b', b1, b2, b3, b4, b5, b6⟩ := back b hb
    rw [← a2, ← b2] at hab
    have := V.one a' a1 b' b1 hab
    subst this
    exact mem_eq_of_srt hsrt ha hb (a2.symm.trans b2)
  · obtain ⟨a', a1, a2, a3, a4, a5, _⟩ := back a ha
    obtain ⟨b', b1, b2, b3, b4, b5, _⟩ := back b hb
    rw [← a5, ← b5]
    exact V.sizes a' a1 b' b1 (a3.trans da) (b3.trans db) (by rw [a4, b4, hid])
end Go.Proofs.YtpjjagalekolaaaGreatDoor

