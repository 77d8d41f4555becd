/- The program's Diff, whatever is handed in; and the other way round: plain. -/
import Derived.Test.YtemkpollilhmjaaGreatDoorUJC
import Derived.Test.YtemkpollilhmjaaGreatDoorU18
namespace Go.Proofs.YtemkpollilhmjaaGreatDoor
open Go.RowKit
set_option linter.unusedVariables false
set_option linter.unusedSimpArgs false

theorem RowAt.isTree {w : World} {v : Value} {l : List EntD} (h : RowAt w v l) (hl : l.length ≤ 2000000) (hs : ∀ o ∈ l, o.small) : ∀ u : World, Below w.heap.size w u → Calls Tryz.prog 33 #[v] u fun e u' => e = .returned (.bool (treeB l)) ∧ Below u.heap.size u u' := by
  intro u hu
  cases h with
  | nil => exact (isTree_nil u).mono (fun e u' he => ⟨he.1, by rw [he.2]; exact Below.refl _ _⟩)
  | row b off cap l hb hc hm h => exact isTree_any b off cap l u hl hc hs (Nat.lt_of_lt_of_le hb hu.size) (h.below hu hb)
theorem RowAt.source {w : World} {v : Value} {l : List EntD} (h : RowAt w v l) (hl : l.length ≤ 2000000) (hs : ∀ o ∈ l, o.small) : ∀ (u : World) (c : EntD), Below w.heap.size w u → Calls Tryz.prog 35 #[v, .agg #[.string c.path, .bool c.dir, .int .i64 c.id, .int .i64 c.size, .int .i64 c.mode]] u fun r w' => r = .returned (.string (srcB l c)) ∧ Below u.heap.size u w' := by
  intro u c hu
  cases h with
  | nil => exact source_nil c u
  | row b off cap l hb hc hm h => exact source_any b off cap l c u hl hs (Nat.lt_of_lt_of_le hb hu.size) (h.below hu hb)

set_option maxHeartbeats 1000000 in
theorem pdiff_bad1 (a1 a2 : Option Addr) (n1 c1 n2 c2 : Nat) (w : World)
    (HT : Hid (∀ u : World, Below w.heap.size w u → Calls Tryz.prog 33 #[.slice a1 n1 c1] u fun e u' => e = .returned (.bool false) ∧ Below u.heap.size u u')) :
    Calls Tryz.prog 22 #[.slice a1 n1 c1, .slice a2 n2 c2] w fun e w' => e = .returned (.tuple #[.slice none 0 0, .int .i64 4]) ∧ Below w.heap.size w w' := by
  go_enter Tryz.func22, Tryz.ntmps22
  go_wp2_with fail
  refine (HT.out w (Below.refl _ _)).mono ?_
  rintro e w1 ⟨rfl, hb1⟩
  go_wp2
  go_ret2
  exact ⟨rfl, hb1⟩
set_option maxHeartbeats 1000000 in
theorem pdiff_bad2 (a1 a2 : Option Addr) (n1 c1 n2 c2 : Nat) (w : World)
    (HT1 : Hid (∀ u : World, Below w.heap.size w u → Calls Tryz.prog 33 #[.slice a1 n1 c1] u fun e u' => e = .returned (.bool true) ∧ Below u.heap.size u u'))
    (HT2 : Hid (∀ u : World, Below w.heap.size w u → Calls Tryz.prog 33 #[.slice a2 n2 c2] u fun e u' => e = .returned (.bool false) ∧ Below u.heap.size u u')) :
    Calls Tryz.prog 22 #[.slice a1 n1 c1, .slice a2 n2 c2] w fun e w' => e = .returned (.tuple #[.slice none 0 0, .int .i64 4]) ∧ Below w.heap.size w w' := by
  go_enter Tryz.func22, Tryz.ntmps22
  go_wp2_with fail
  refine (HT1.out w (Below.refl _ _)).mono ?_
  rintro e w1 ⟨rfl, hb1⟩
  have B1 := hidD hb1
  go_wp2_with fail
  refine (HT2.out w1 B1.out).mono ?_
  rintro e w2 ⟨rfl, hb2⟩
  have hb3 := B1.out.trans (hb2.mono B1.out.size)
  clear hb2 hb1
  go_wp2
  go_ret2
  exact ⟨rfl, hb3⟩

def lstL (S T : List EntD) : List ChD := if treeB S = true ∧ treeB T = true then diffL S S T else []
def errL (S T : List EntD) : Int := if treeB S = true ∧ treeB T = true then 0 else 4
/-- What a Diff leaves: the changes in a row of its own, and the error. -/
def DiffPost (S T : List EntD) (w : World) (e : Ending) (w' : World) : Prop :=
  ∃ v, e = .returned (.tuple #[v, .int .i64 (errL S T)]) ∧ w'.ownsRow w.heap.size 45 3 v (lstL S T).length (flatC (lstL S T)) ∧ Below w.heap.size w w'

theorem pdiff {w : World} {v1 v2 : Value} {S T : List EntD} (h1 : RowAt w v1 S) (h2 : RowAt w v2 T) (l1 : S.length ≤ 2000000) (l2 : T.length ≤ 2000000) (s1 : ∀ o ∈ S, o.small) (s2 : ∀ o ∈ T, o.small) :
    Calls Tryz.prog 22 #[v1, v2] w (DiffPost S T w) := by
  have t1 := h1.isTree l1 s1
  have t2 := h2.isTree l2 s2
  have sr := h1.source l1 s1
  by_cases g1 : treeB S = true
  · rw [g1] at t1
    by_cases g2 : treeB T = true
    · rw [g2] at t2
      have key : Calls Tryz.prog 22 #[v1, v2] w fun e w' => ∃ v, e = .returned (.tuple #[v, .int .i64 0]) ∧ w'.ownsRow w.heap.size 45 3 v (diffL S S T).length (flatC (diffL S S T)) ∧ Below w.heap.size w w' := by
        cases h1 with
        | nil =>
          cases h2 with
          | nil => exact diff_nn w t1 t2 sr
          | row b off cap l hb hc hm h => exact diff_ns b off cap T w l2 hc s2 hb h t1 t2 sr
        | row b off cap l hb hc hm h =>
          cases h2 with
          | nil => exact diff_sn b off cap S w l1 hc s1 hb h t1 t2 sr
          | row b' off' cap' l' hb' hc' hm' h' => exact diff_ss b off cap S b' off' cap' T w l1 hc s1 hb h l2 hc' s2 hb' h' t1 t2 sr
      refine key.mono ?_
      rintro e w' ⟨v, rfl, ho, hb⟩
      refine ⟨v, ?_, ?_, hb⟩
      · rw [errL, if_pos ⟨g1, g2⟩]
      · rw [lstL, if_pos ⟨g1, g2⟩]; exact ho
    · simp only [Bool.not_eq_true] at g2
      rw [g2] at t2
      obtain ⟨a1, c1, rfl⟩ := h1.val
      obtain ⟨a2, c2, rfl⟩ := h2.val
      refine (pdiff_bad2 a1 a2 _ c1 _ c2 w t1 t2).mono ?_
      rintro e w' ⟨rfl, hb⟩
      have hn : ¬ (treeB S = true ∧ treeB T = true) := by rw [g2]; simp
      exact ⟨_, by rw [errL, if_neg hn], by rw [lstL, if_neg hn]; exact World.ownsRow_nil _ _ _ _, hb⟩
  · simp only [Bool.not_eq_true] at g1
    rw [g1] at t1
    obtain ⟨a1, c1, rfl⟩ := h1.val
    obtain ⟨a2, c2, rfl⟩ := h2.val
    refine (pdiff_bad1 a1 a2 _ c1 _ c2 w t1).mono ?_
    rintro e w' ⟨rfl, hb⟩
    have hn : ¬ (treeB S = true ∧ treeB T = true) := by rw [g1]; simp
    exact ⟨_, by rw [errL, if_neg hn], by rw [lstL, if_neg hn]; exact World.ownsRow_nil _ _ _ _, hb⟩

set_option maxHeartbeats 1000000 in
theorem faceDiff {w : World} {v1 v2 : Value} {S T : List EntD} (h : Calls Tryz.prog 22 #[v1, v2] w (DiffPost S T w)) : Calls Tryz.prog 14 #[v1, v2] w (DiffPost S T w) := by
  have H := hidD h
  clear h
  go_enter Tryz.func14, Tryz.ntmps14
  go_wp2_with fail
  refine H.out.mono ?_
  rintro e w1 ⟨v, rfl, ho, hb⟩
  have HO := hidD ho
  clear ho
  go_wp2
  go_ret2
  exact ⟨_, rfl, HO.out, hb⟩

/-- The kind of a change, the other way round. -/
def swK (k : Int) : Int := if k = 1 then 2 else if k = 2 then 1 else k
theorem eqB_comm (a b : EntD) : eqB a b = eqB b a := by
  rw [Bool.eq_iff_iff]
  simp only [eqB, Bool.and_eq_true, beq_iff_eq, decide_eq_true_eq]
  constructor <;> (rintro ⟨⟨⟨⟨h1, h2⟩, h3⟩, h4⟩, h5⟩; exact ⟨⟨⟨⟨h1.symm, h2.symm⟩, h3.symm⟩, h4.symm⟩, h5.symm⟩)
theorem chg_turn (S T : List EntD) (a b : EntD) (h : a.path = b.path) : (chgB T b a).path = (chgB S a b).path ∧ (chgB T b a).kind = swK (chgB S a b).kind := by
  unfold chgB
  by_cases h1 : a.dir = b.dir
  · have n1 : ¬ (b.dir ≠ a.dir) := fun e => e h1.symm
    have n2 : ¬ (a.dir ≠ b.dir) := fun e => e h1
    rw [if_neg n1, if_neg n2]
    by_cases h2 : a.id ≠ b.id ∨ a.size ≠ b.size
    · have h3 : b.id ≠ a.id ∨ b.size ≠ a.size := h2.imp (fun x => x.symm) (fun x => x.symm)
      rw [if_pos h2, if_pos h3]
      exact ⟨h, by simp [swK]⟩
    · have h3 : ¬ (b.id ≠ a.id ∨ b.size ≠ a.size) := fun hh => h2 (hh.imp (fun x => x.symm) (fun x => x.symm))
      rw [if_neg h2, if_neg h3]
      exact ⟨h, by simp [swK]⟩
  · have n1 : b.dir ≠ a.dir := fun e => h1 e.symm
    have n2 : a.dir ≠ b.dir := h1
    rw [if_pos n1, if_pos n2]
    exact ⟨h, by simp [swK]⟩
def turnC (c : ChD) : ByteArray × Int := (c.path, swK c.kind)
def faceC (c : ChD) : ByteArray × Int := (c.path, c.kind)
theorem diff_turn (S T : List EntD) : ∀ (n : Nat) (s t : List EntD), s.length + t.length ≤ n → (diffL T t s).map faceC = (diffL S s t).map turnC := by
  intro n
  induction n with
  | zero =>
    intro s t h
    obtain rfl : s = [] := List.eq_nil_of_length_eq_zero (by omega)
    obtain rfl : t = [] := List.eq_nil_of_length_eq_zero (by omega)
    rw [diffL, diffL]
    rfl
  | succ n ih =>
    intro s t h
    cases s with
    | nil =>
      cases t with
      | nil => rw [diffL, diffL]; rfl
      | cons b t =>
        rw [diffL, diffL, List.map_cons, List.map_cons, ih [] t (by simp at h ⊢; omega)]
        rfl
    | cons a s =>
      cases t with
      | nil =>
        rw [diffL, diffL, List.map_cons, List.map_cons, ih s [] (by simp at h ⊢; omega)]
        rfl
      | cons b t =>
        simp only [List.length_cons] at h
        have k1 := cmpL_key a.path.data.toList b.path.data.toList
        have k2 := cmpL_key b.path.data.toList a.path.data.toList
        rw [diffL, diffL.eq_4 (S := S)]
        rcases Int.lt_trichotomy (cmpL a.path.data.toList b.path.data.toList) 0 with hc | hc | hc
        · have hd : 0 < cmpL b.path.data.toList a.path.data.toList := k2.2.1.2 (k1.1.1 hc)
          have m1 : ¬ cmpL b.path.data.toList a.path.data.toList < 0 := by omega
          rw [if_neg m1, if_pos hd, if_pos hc, List.map_cons, List.map_cons, ih s (b :: t) (by simp; omega)]
          rfl
        · have he := k1.2.2.1 hc
          have hd : cmpL b.path.data.toList a.path.data.toList = 0 := k2.2.2.2 he.symm
          have m1 : ¬ cmpL b.path.data.toList a.path.data.toList < 0 := by omega
          have m2 : ¬ 0 < cmpL b.path.data.toList a.path.data.toList := by omega
          have m3 : ¬ cmpL a.path.data.toList b.path.data.toList < 0 := by omega
          have m4 : ¬ 0 < cmpL a.path.data.toList b.path.data.toList := by omega
          rw [if_neg m1, if_neg m2, if_neg m3, if_neg m4, eqB_comm b a]
          by_cases hq : eqB a b = true
          · rw [if_pos hq, if_pos hq]
            exact ih s t (by omega)
          · rw [if_neg hq, if_neg hq, List.map_cons, List.map_cons, ih s t (by omega)]
            have := chg_turn S T a b (ba_ext he)
            unfold faceC turnC
            rw [this.1, this.2]
        · have hd : cmpL b.path.data.toList a.path.data.toList < 0 := k2.1.2 (k1.2.1.1 hc)
          have m1 : ¬ cmpL a.path.data.toList b.path.data.toList < 0 := by omega
          rw [if_pos hd, if_neg m1, if_pos hc, List.map_cons, List.map_cons, ih (a :: s) t (by simp; omega)]
          rfl
theorem diff_self (S : List EntD) : ∀ s, diffL S s s = [] := by
  intro s
  induction s with
  | nil => rw [diffL]
  | cons a s ih =>
    have k := (cmpL_key a.path.data.toList a.path.data.toList).2.2.2 rfl
    have hq : eqB a a = true := by simp [eqB]
    have m1 : ¬ cmpL a.path.data.toList a.path.data.toList < 0 := by omega
    have m2 : ¬ 0 < cmpL a.path.data.toList a.path.data.toList := by omega
    rw [diffL, if_neg m1, if_neg m2, if_pos hq, ih]
theorem lst_turn (S T : List EntD) : (lstL T S).map faceC = (lstL S T).map turnC := by
  unfold lstL
  by_cases h : treeB S = true ∧ treeB T = true
  · rw [if_pos h, if_pos h.symm]
    exact diff_turn S T _ S T (Nat.le_refl _)
  · rw [if_neg h, if_neg (fun g => h g.symm)]
    rfl
theorem lst_len (S T : List EntD) : (lstL T S).length = (lstL S T).length := by
  have := congrArg List.length (lst_turn S T)
  simpa using this
theorem lst_at (S T : List EntD) (i : Nat) (h1 : i < (lstL S T).length) (h2 : i < (lstL T S).length) : (lstL T S)[i].path = (lstL S T)[i].path ∧ (lstL T S)[i].kind = swK (lstL S T)[i].kind := by
  have h := congrArg (fun l => l[i]?) (lst_turn S T)
  simp only [List.getElem?_map, List.getElem?_eq_getElem h1, List.getElem?_eq_getElem h2, Option.map_some, Option.some.injEq, faceC, turnC, Prod.mk.injEq] at h
  exact h
theorem lst_self (S : List EntD) : lstL S S = [] := by
  unfold lstL
  split
  · exact diff_self S S
  · rfl
theorem err_comm (S T : List EntD) : errL T S = errL S T := by
  unfold errL
  by_cases h : treeB S = true ∧ treeB T = true
  · rw [if_pos h, if_pos h.symm]
  · rw [if_neg h, if_neg (fun g => h g.symm)]
theorem err_two (S T : List EntD) : (errL S T = 0 ∧ errL S S = 0) ∨ (errL S T = 4 ∧ lstL S T = []) := by
  unfold errL lstL
  by_cases h : treeB S = true ∧ treeB T = true
  · rw [if_pos h, if_pos ⟨h.1, h.1⟩]; exact .inl ⟨rfl, rfl⟩
  · rw [if_neg h, if_neg h]; exact .inr ⟨rfl, rfl⟩
theorem lst_few (S T : List EntD) (h : S.length ≤ 2000000) (h2 : T.length ≤ 2000000) : (lstL S T).length ≤ 4000000 := by
  unfold lstL
  split
  · have := diffL_len S _ S T (Nat.le_refl _)
    omega
  · simp
end Go.Proofs.YtemkpollilhmjaaGreatDoor
