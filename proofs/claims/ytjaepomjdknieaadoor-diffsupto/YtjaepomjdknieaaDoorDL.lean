/- Both Diffs, whatever is handed in; and whether two lists of changes are the same. -/
import Derived.Test.YtjaepomjdknieaaDoorDK
import Derived.Test.YtjaepomjdknieaaDoorDD
import Derived.Test.YtjaepomjdknieaaDoorDG
namespace Go.Proofs.YtjaepomjdknieaaDoor
open Go.RowKit
set_option linter.unusedVariables false
set_option linter.unusedSimpArgs false

/-- A list with spare room behind it, or nil. -/
inductive RmAt (w : World) : Value → List EntD → Prop
  | nil : RmAt w (.slice none 0 0) []
  | row (B g cap : Nat) (l : List EntD) (h : RoomyE w B g cap l) : RmAt w (.slice (some ⟨g, 0, none⟩) l.length cap) l
theorem RmAt.below {w w' : World} {v : Value} {l : List EntD} (h : RmAt w v l) (hb : Below w.heap.size w w') : RmAt w' v l := by
  cases h with
  | nil => exact .nil
  | row B g cap l h => exact .row B g cap l (h.below hb)

theorem RmAt.tree {w : World} {v : Value} {l : List EntD} (h : RmAt w v l) (hl : l.length ≤ 2000000) (hs : ∀ o ∈ l, o.small) : ∀ u : World, Below w.heap.size w u → Calls Tryd.prog 55 #[v] u fun e u' => e = .returned (.bool (treeB l)) ∧ Below u.heap.size u u' := by
  intro u hu
  cases h with
  | nil => exact (isTree_nil u).mono (fun e u' he => ⟨he.1, by rw [he.2]; exact Below.refl _ _⟩)
  | row B g cap l h =>
    have h' := h.below hu
    exact isTree_any g 0 cap l u hl (by have := h.2.2.1; omega) hs h'.2.1 h'.2.2.2.2.left
theorem RmAt.source {w : World} {v : Value} {l : List EntD} (h : RmAt w v l) (hl : l.length ≤ 2000000) (hs : ∀ o ∈ l, o.small) : ∀ (u : World) (c : EntD), Below w.heap.size w u → Calls Tryd.prog 57 #[v, .agg #[.string c.path, .bool c.dir, .int .i64 c.id, .int .i64 c.size, .int .i64 c.mode]] u fun r w' => r = .returned (.string (srcB l c)) ∧ Below u.heap.size u w' := by
  intro u c hu
  cases h with
  | nil => exact source_nil c u
  | row B g cap l h =>
    have h' := h.below hu
    exact source_any g 0 cap l c u hl hs h'.2.1 h'.2.2.2.2.left

set_option maxHeartbeats 1000000 in
theorem pdiff_bad1 (a1 a2 : Option Addr) (n1 c1 n2 c2 : Nat) (w : World)
    (HT : Hid (∀ u : World, Below w.heap.size w u → Calls Tryd.prog 55 #[.slice a1 n1 c1] u fun e u' => e = .returned (.bool false) ∧ Below u.heap.size u u')) :
    Calls Tryd.prog 33 #[.slice a1 n1 c1, .slice a2 n2 c2] w fun e w' => e = .returned (.tuple #[.slice none 0 0, .int .i64 4]) ∧ Below w.heap.size w w' := by
  go_enter Tryd.func33, Tryd.ntmps33
  go_wp2_with fail
  refine (HT.out w (Below.refl _ _)).mono ?_
  rintro e w1 ⟨rfl, hb1⟩
  go_wp2
  go_ret2
  exact ⟨rfl, hb1⟩
set_option maxHeartbeats 1000000 in
theorem pdiff_bad2 (a1 a2 : Option Addr) (n1 c1 n2 c2 : Nat) (w : World)
    (HT1 : Hid (∀ u : World, Below w.heap.size w u → Calls Tryd.prog 55 #[.slice a1 n1 c1] u fun e u' => e = .returned (.bool true) ∧ Below u.heap.size u u'))
    (HT2 : Hid (∀ u : World, Below w.heap.size w u → Calls Tryd.prog 55 #[.slice a2 n2 c2] u fun e u' => e = .returned (.bool false) ∧ Below u.heap.size u u')) :
    Calls Tryd.prog 33 #[.slice a1 n1 c1, .slice a2 n2 c2] w fun e w' => e = .returned (.tuple #[.slice none 0 0, .int .i64 4]) ∧ Below w.heap.size w w' := by
  go_enter Tryd.func33, Tryd.ntmps33
  go_wp2_with fail
  refine (HT1.out w (Below.refl _ _)).mono ?_
  rintro e w1 ⟨rfl, hb1⟩
  have B1 := hidD hb1
  go_wp2_with fail
  refine (HT2.out w1 B1.out).mono ?_
  rintro e w2 ⟨rfl, hb2⟩
  have hb3 := B1.out.trans (hb2.mono B1.out.size)
  clear hb2 hb1
  go_wp2
  go_ret2
  exact ⟨rfl, hb3⟩

/-- What a Diff leaves: the changes in a row of its own, or the error. -/
def DiffPost (S T : List EntD) (w : World) (e : Ending) (w' : World) : Prop :=
  Below w.heap.size w w' ∧ (if treeB S = true ∧ treeB T = true then ∃ v, e = .returned (.tuple #[v, .int .i64 0]) ∧ w'.ownsRow w.heap.size 64 3 v (diffL S S T).length (flatC (diffL S S T)) else e = .returned (.tuple #[.slice none 0 0, .int .i64 4]))

theorem RmAt.val {w : World} {v : Value} {l : List EntD} (h : RmAt w v l) : ∃ a c, v = .slice a l.length c := by
  cases h with
  | nil => exact ⟨_, _, rfl⟩
  | row B g cap l h => exact ⟨_, _, rfl⟩

theorem pdiff {w : World} {v1 v2 : Value} {S T : List EntD} (h1 : RmAt w v1 S) (h2 : RmAt w v2 T) (l1 : S.length ≤ 2000000) (l2 : T.length ≤ 2000000) (s1 : ∀ o ∈ S, o.small) (s2 : ∀ o ∈ T, o.small) :
    Calls Tryd.prog 33 #[v1, v2] w (DiffPost S T w) := by
  have t1 := h1.tree l1 s1
  have t2 := h2.tree l2 s2
  have sr := h1.source l1 s1
  by_cases g1 : treeB S = true
  · rw [g1] at t1
    by_cases g2 : treeB T = true
    · rw [g2] at t2
      have key : Calls Tryd.prog 33 #[v1, v2] w fun e w' => ∃ v, e = .returned (.tuple #[v, .int .i64 0]) ∧ w'.ownsRow w.heap.size 64 3 v (diffL S S T).length (flatC (diffL S S T)) ∧ Below w.heap.size w w' := by
        cases h1 with
        | nil =>
          cases h2 with
          | nil => exact diff_nn w t1 t2 sr
          | row B g cap l h => exact diff_ns g cap T w l2 (by have := h.2.2.1; omega) s2 h.2.1 h.2.2.2.2.left t1 t2 sr
        | row B g cap l h =>
          cases h2 with
          | nil => exact diff_sn g cap S w l1 (by have := h.2.2.1; omega) s1 h.2.1 h.2.2.2.2.left t1 t2 sr
          | row B' g' cap' l' h' => exact diff_ss g cap S g' cap' T w l1 (by have := h.2.2.1; omega) s1 h.2.1 h.2.2.2.2.left l2 (by have := h'.2.2.1; omega) s2 h'.2.1 h'.2.2.2.2.left t1 t2 sr
      refine key.mono ?_
      rintro e w' ⟨v, rfl, ho, hb⟩
      refine ⟨hb, ?_⟩
      rw [if_pos ⟨g1, g2⟩]
      exact ⟨v, rfl, ho⟩
    · simp only [Bool.not_eq_true] at g2
      rw [g2] at t2
      obtain ⟨a1, c1, rfl⟩ := h1.val
      obtain ⟨a2, c2, rfl⟩ := h2.val
      refine (pdiff_bad2 a1 a2 _ c1 _ c2 w t1 t2).mono ?_
      rintro e w' ⟨rfl, hb⟩
      refine ⟨hb, ?_⟩
      rw [if_neg (by rw [g2]; simp)]
  · simp only [Bool.not_eq_true] at g1
    rw [g1] at t1
    obtain ⟨a1, c1, rfl⟩ := h1.val
    obtain ⟨a2, c2, rfl⟩ := h2.val
    refine (pdiff_bad1 a1 a2 _ c1 _ c2 w t1).mono ?_
    rintro e w' ⟨rfl, hb⟩
    refine ⟨hb, ?_⟩
    rw [if_neg (by rw [g1]; simp)]

set_option maxHeartbeats 1000000 in
theorem faceDiff {w : World} {v1 v2 : Value} {S T : List EntD} (h : Calls Tryd.prog 33 #[v1, v2] w (DiffPost S T w)) : Calls Tryd.prog 13 #[v1, v2] w (DiffPost S T w) := by
  have H : Hid (Calls Tryd.prog 33 #[v1, v2] w fun e w' => ∃ x y, e = .returned (.tuple #[x, .int .i64 y]) ∧ DiffPost S T w (.returned (.tuple #[x, .int .i64 y])) w') := h.mono (fun e w' he => by
    obtain ⟨hb, hx⟩ := he
    by_cases g : treeB S = true ∧ treeB T = true
    · rw [if_pos g] at hx
      obtain ⟨v, rfl, ho⟩ := hx
      exact ⟨v, 0, rfl, hb, by rw [if_pos g]; exact ⟨v, rfl, ho⟩⟩
    · rw [if_neg g] at hx
      subst hx
      exact ⟨_, _, rfl, hb, by rw [if_neg g]⟩)
  clear h
  go_enter Tryd.func13, Tryd.ntmps13
  go_wp2_with fail
  refine H.out.mono ?_
  rintro e w1 ⟨x, y, rfl, hp⟩
  have HP := hidD hp
  clear hp
  go_wp2
  go_ret2
  exact HP.out

/-! The reference's. -/
set_option maxHeartbeats 1000000 in
theorem refcheck_empty (a : Option Addr) (c : Nat) (w : World) :
    Calls Tryd.prog 31 #[.slice a 0 c, .bool false, .int .i64 60, .bool false] w fun e w' => e = .returned (.tuple #[.int .i64 0, .int .i64 0]) ∧ w' = w := by
  go_enter Tryd.func31, Tryd.ntmps31
  go_wp2
  refine wp_loop_rounds 1 ?_
  rw [rounds_succ]
  go_wp2
  go_ret2
  exact ⟨rfl, rfl⟩
set_option maxHeartbeats 1000000 in
theorem refCheck_empty (a : Option Addr) (c : Nat) (w : World) :
    Calls Tryd.prog 10 #[.slice a 0 c, .bool false] w fun e w' => e = .returned (.tuple #[.int .i64 0, .int .i64 0]) ∧ w' = w := by
  go_enter Tryd.func10, Tryd.ntmps10
  go_wp2_with (go_at_call 31; refine (refcheck_empty _ _ _).mono ?_; rintro e w1 ⟨rfl, rfl⟩)
  go_ret2
  exact ⟨rfl, rfl⟩
theorem LstAt.check {w : World} {v : Value} {l : List EntD} (h : LstAt w v l) (hl : l.length ≤ 2000000) (hs : ∀ o ∈ l, o.small) : ∀ u : World, Below w.heap.size w u → Calls Tryd.prog 10 #[v, .bool false] u fun e u' => e = .returned (.tuple #[.int .i64 (refP l).1, .int .i64 (refP l).2]) ∧ Below u.heap.size u u' := by
  intro u hu
  cases h with
  | none a c => exact (refCheck_empty a c u).mono (fun e u' he => ⟨he.1, by rw [he.2]; exact Below.refl _ _⟩)
  | row b off cap l hb h => exact refCheck_any b off cap l u hl hs (by have := hu.size; omega) (h.below hu hb)
theorem LstAt.val {w : World} {v : Value} {l : List EntD} (h : LstAt w v l) : ∃ a c, v = .slice a l.length c := by
  cases h with
  | none a c => exact ⟨_, _, rfl⟩
  | row b off cap l hb h => exact ⟨_, _, rfl⟩

set_option maxHeartbeats 1000000 in
theorem rdiff_bad (a1 a2 : Option Addr) (n1 c1 n2 c2 : Nat) (x1 y1 x2 y2 : Int) (w : World) (hx : x1 ≠ 0 ∨ x2 ≠ 0)
    (HC1 : Hid (∀ u : World, Below w.heap.size w u → Calls Tryd.prog 10 #[.slice a1 n1 c1, .bool false] u fun e u' => e = .returned (.tuple #[.int .i64 x1, .int .i64 y1]) ∧ Below u.heap.size u u'))
    (HC2 : Hid (∀ u : World, Below w.heap.size w u → Calls Tryd.prog 10 #[.slice a2 n2 c2, .bool false] u fun e u' => e = .returned (.tuple #[.int .i64 x2, .int .i64 y2]) ∧ Below u.heap.size u u')) :
    Calls Tryd.prog 14 #[.slice a1 n1 c1, .slice a2 n2 c2] w fun e w' => e = .returned (.tuple #[.slice none 0 0, .int .i64 4]) ∧ Below w.heap.size w w' := by
  by_cases h1 : x1 = 0
  · have h2 : (x2 == 0) = false := by
      rcases hx with h | h
      · exact absurd h1 h
      · simpa using h
    subst h1
    clear hx
    go_enter Tryd.func14, Tryd.ntmps14
    go_wp2_with fail
    refine (HC1.out w (Below.refl _ _)).mono ?_
    rintro e w1 ⟨rfl, hb1'⟩
    go_wp2_with fail
    refine (HC2.out w1 hb1').mono ?_
    rintro e w2 ⟨rfl, hb2'⟩
    have HB2 := hidD (hb1'.trans (hb2'.mono hb1'.size))
    clear hb1' hb2'
    go_wp2
    go_ret2
    exact ⟨rfl, HB2.out⟩
  · have h2 : (x1 == 0) = false := by simpa using h1
    clear hx h1
    go_enter Tryd.func14, Tryd.ntmps14
    go_wp2_with fail
    refine (HC1.out w (Below.refl _ _)).mono ?_
    rintro e w1 ⟨rfl, hb1'⟩
    go_wp2_with fail
    refine (HC2.out w1 hb1').mono ?_
    rintro e w2 ⟨rfl, hb2'⟩
    have HB2 := hidD (hb1'.trans (hb2'.mono hb1'.size))
    clear hb1' hb2'
    go_wp2
    go_ret2
    exact ⟨rfl, HB2.out⟩

theorem rdiff {w : World} {v1 v2 : Value} {S T : List EntD} (h1 : LstAt w v1 S) (h2 : LstAt w v2 T) (l1 : S.length ≤ 2000000) (l2 : T.length ≤ 2000000) (s1 : ∀ o ∈ S, o.small) (s2 : ∀ o ∈ T, o.small) :
    Calls Tryd.prog 14 #[v1, v2] w (DiffPost S T w) := by
  have t1 := h1.check l1 s1
  have t2 := h2.check l2 s2
  by_cases g : treeB S = true ∧ treeB T = true
  · have e1 : (refP S).1 = 0 := by have := g.1; rw [tree_same] at this; simpa using this
    have e2 : (refP T).1 = 0 := by have := g.2; rw [tree_same] at this; simpa using this
    rw [e1] at t1
    rw [e2] at t2
    have kS := tree_ok S g.1
    have kT := tree_ok T g.2
    have key : Calls Tryd.prog 14 #[v1, v2] w fun e w' => ∃ v, e = .returned (.tuple #[v, .int .i64 0]) ∧ w'.ownsRow w.heap.size 64 3 v (diffL S S T).length (flatC (diffL S S T)) ∧ Below w.heap.size w w' := by
      cases h1 with
      | none a c =>
        cases h2 with
        | none a' c' => exact rdiff_nn a c a' c' _ _ w t1 t2
        | row b' off' cap' l' hb' h' => exact rdiff_nr a c b' off' cap' T _ _ w hb' h' s2 kT t1 t2
      | row b off cap l hb h =>
        cases h2 with
        | none a' c' => exact rdiff_rn b off cap S a' c' _ _ w hb h s1 kS t1 t2
        | row b' off' cap' l' hb' h' => exact rdiff_rr b off cap S b' off' cap' T _ _ w hb h s1 kS hb' h' s2 kT t1 t2
    refine key.mono ?_
    rintro e w' ⟨v, rfl, ho, hb⟩
    refine ⟨hb, ?_⟩
    rw [if_pos g]
    exact ⟨v, rfl, ho⟩
  · obtain ⟨a1, c1, rfl⟩ := h1.val
    obtain ⟨a2, c2, rfl⟩ := h2.val
    refine (rdiff_bad a1 a2 _ c1 _ c2 _ _ _ _ w ?_ t1 t2).mono ?_
    · by_cases e1 : (refP S).1 = 0
      · right
        intro e2
        refine g ⟨?_, ?_⟩
        · rw [tree_same, e1]; rfl
        · rw [tree_same, e2]; rfl
      · exact .inl e1
    · rintro e w' ⟨rfl, hb⟩
      refine ⟨hb, ?_⟩
      rw [if_neg g]

/-! Are two lists the same? -/
set_option maxHeartbeats 1000000 in
theorem sameCh_zero (p1 p2 : Option Addr) (c1 c2 : Nat) (w : World) :
    Calls Tryd.prog 15 #[.slice p1 0 c1, .slice p2 0 c2] w fun e w' => e = .returned (.bool true) ∧ ∃ n, w' = w.drewN n := by
  go_enter Tryd.func15, Tryd.ntmps15
  go_wp2
  refine wp_loop_rounds 1 ?_
  rw [rounds_succ]
  go_wp2
  go_ret
  exact ⟨rfl, 0, rfl⟩
set_option maxHeartbeats 1000000 in
set_option maxRecDepth 100000 in
theorem sameCh_pos (g1 c1 g2 c2 : Nat) (l : List ChD) (w : World) (hl : l.length ≤ 2000000) (h1 : ∀ j u, (flatC l)[j]? = some u → w.cell? ⟨g1, j, none⟩ = some u) (h2 : ∀ j u, (flatC l)[j]? = some u → w.cell? ⟨g2, j, none⟩ = some u) :
    Calls Tryd.prog 15 #[.slice (some ⟨g1, 0, none⟩) l.length c1, .slice (some ⟨g2, 0, none⟩) l.length c2] w fun e w' => e = .returned (.bool true) ∧ ∃ n, w' = w.drewN n := by
  have hne : ((l.length : Int) != (l.length : Int)) = false := by simp
  have H1 := hidD h1
  have H2 := hidD h2
  clear h1 h2
  go_enter Tryd.func15, Tryd.ntmps15
  go_wp2
  go_loopw [5] (fun i wr => ∃ k n : Nat, k ≤ l.length ∧ i = .int .i64 k ∧ wr = w.drewN n) (fun i _ => l.length - (intOf i).toNat)
  case atStart => exact ⟨0, 0, Nat.zero_le _, rfl, rfl⟩
  case round =>
    obtain ⟨k, n, hk, rfl, rfl⟩ := hrel
    by_cases hlt : k < l.length
    · have hlt' : (k : Int) < (l.length : Int) := by omega
      have a0 := H1.out (k * 3) (.string l[k].path) (flatC_get l k hlt 0 (by omega))
      have a1 := H1.out (k * 3 + 1) (.int .i64 l[k].kind) (flatC_get l k hlt 1 (by omega))
      have a2 := H1.out (k * 3 + 2) (.string l[k].src) (flatC_get l k hlt 2 (by omega))
      have b0 := H2.out (k * 3) (.string l[k].path) (flatC_get l k hlt 0 (by omega))
      have b1 := H2.out (k * 3 + 1) (.int .i64 l[k].kind) (flatC_get l k hlt 1 (by omega))
      have b2 := H2.out (k * 3 + 2) (.string l[k].src) (flatC_get l k hlt 2 (by omega))
      generalize l[k] = o at *
      go_wp2
      go_quiet (fail)
      go_wp2
      exact ⟨⟨k + 1, _, by omega, by go_num, rfl⟩, by simp [intOf]; omega⟩
    · go_wp2
      go_ret
      exact ⟨rfl, n, rfl⟩
theorem sameCh {w : World} {b1 b2 : Nat} {v1 v2 : Value} {l : List ChD} (h1 : w.ownsRow b1 64 3 v1 l.length (flatC l)) (h2 : w.ownsRow b2 64 3 v2 l.length (flatC l)) (hl : l.length ≤ 2000000) :
    Calls Tryd.prog 15 #[v1, v2] w fun e w' => e = .returned (.bool true) ∧ ∃ n, w' = w.drewN n := by
  by_cases h0 : 0 < l.length
  · obtain ⟨g1, c1, rfl, _⟩ := row_some h1 h0
    obtain ⟨g2, c2, rfl, _⟩ := row_some h2 h0
    refine sameCh_pos g1 c1 g2 c2 l w hl (fun j u hu => ?_) (fun j u hu => ?_)
    · have := (List.getElem?_eq_some_iff.1 hu).1
      rw [flatC_length] at this
      rw [h1.cellAt j this]; exact hu
    · have := (List.getElem?_eq_some_iff.1 hu).1
      rw [flatC_length] at this
      rw [h2.cellAt j this]; exact hu
  · obtain ⟨p1, c1, rfl⟩ := row_len h1
    obtain ⟨p2, c2, rfl⟩ := row_len h2
    rw [show l.length = 0 by omega]
    exact sameCh_zero p1 p2 c1 c2 w
end Go.Proofs.YtjaepomjdknieaaDoor
