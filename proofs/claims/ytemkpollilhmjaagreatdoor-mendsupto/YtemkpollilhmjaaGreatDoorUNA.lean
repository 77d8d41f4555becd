/- The space that a script takes on its way, held against the need that Try tells: plain. -/
import Derived.Test.YtemkpollilhmjaaGreatDoorU18
namespace Go.Proofs.YtemkpollilhmjaaGreatDoor
open Go.RowKit
set_option linter.unusedVariables false
set_option linter.unusedSimpArgs false

theorem used_perm {L M : List EntD} (h : L.Perm M) : usedL L = usedL M := by
  induction h with
  | nil => rfl
  | cons x _ ih => simp only [usedL, ih]
  | swap x y l => simp only [usedL]; omega
  | trans _ _ i1 i2 => exact i1.trans i2
theorem used_mov (e p : BL) (L : List EntD) : usedL (L.map (movP e p)) = usedL L := by
  induction L with
  | nil => rfl
  | cons x L ih =>
    have : (movP e p x).size = x.size := by
      unfold movP
      split <;> rfl
    simp only [List.map_cons, usedL, ih, this]
theorem used_mode {L : List EntD} {e : EntD} (md : Int) : ∀ i, L[i]? = some e → usedL (L.set i { e with mode := md }) = usedL L := by
  induction L with
  | nil => intro i h; simp at h
  | cons x L ih =>
    intro i h
    cases i with
    | zero =>
      simp only [List.getElem?_cons_zero, Option.some.injEq] at h
      subst h
      simp only [List.set_cons_zero, usedL]
    | succ i =>
      simp only [List.getElem?_cons_succ] at h
      simp only [List.set_cons_succ, usedL, ih i h]
theorem used_erase {L : List EntD} {e : EntD} : ∀ i, L[i]? = some e → usedL (L.eraseIdx i) + e.size = usedL L := by
  induction L with
  | nil => intro i h; simp at h
  | cons x L ih =>
    intro i h
    cases i with
    | zero =>
      simp only [List.getElem?_cons_zero, Option.some.injEq] at h
      subst h
      simp only [List.eraseIdx_cons_zero, usedL]; omega
    | succ i =>
      simp only [List.getElem?_cons_succ] at h
      have := ih i h
      simp only [List.eraseIdx_cons_succ, usedL]; omega
theorem mk_used {fold : Bool} {space : Int} {L M : List EntD} {e : EntD} (h : mkL fold space L e = .ok M) : usedL M = e.size + usedL L ∧ (e.dir = false → usedL M ≤ space) := by
  unfold mkL at h
  split at h
  · cases h
  · split at h
    · cases h
    · rename_i p _
      split at h
      · cases h
      · split at h
        · cases h
        · split at h
          · cases h
          · rename_i hs
            cases h
            have hu : usedL (insL (e.withP p) L) = e.size + usedL L := by
              rw [used_perm (insL_perm _ _)]
              rfl
            refine ⟨hu, fun hd => ?_⟩
            rw [hd] at hs
            simp at hs
            omega
theorem mk_full {fold : Bool} {s1 space : Int} {L M : List EntD} {e : EntD} (h : mkL fold s1 L e = .ok M) (h11 : mkL fold space L e = .error 11) : space < usedL M := by
  have hu := (mk_used h).1
  unfold mkL at h11
  split at h11
  · cases h11
  · split at h11
    · cases h11
    · rename_i p _
      split at h11
      · cases h11
      · split at h11
        · cases h11
        · split at h11
          · rename_i hs
            simp at hs
            omega
          · cases h11
/-- An operation that goes leaves no more than the space. -/
theorem do_used {fold : Bool} {space : Int} {L M : List EntD} {o : OpD} (V : VolOk fold L) (h : doL fold space L o = .ok M) (hu : usedL L ≤ space) : usedL M ≤ space := by
  unfold doL at h
  split at h
  · have := (mk_used h).1
    simp only at this
    omega
  · split at h
    · exact (mk_used h).2 rfl
    · cases hf : L[atI fold L o.pl]? with
      | none => rw [hf] at h; cases h
      | some e =>
        rw [hf] at h
        simp only at h
        split at h
        · cases h
          rw [used_mode _ _ hf]; exact hu
        · split at h
          · unfold renL at h
            split at h
            · cases h
            · split at h
              · cases h
              · split at h
                · cases h
                · split at h
                  · cases h
                  · cases h
                    rw [used_perm (res_perm _ _ _), used_mov]; exact hu
          · split at h
            · cases h
            · split at h
              · exact (mk_used h).2 rfl
              · split at h
                · cases h
                · cases h
                  have := used_erase _ hf
                  obtain ⟨hi, he⟩ := List.getElem?_eq_some_iff.1 hf
                  obtain ⟨_, _, f⟩ := fieldsB_true _ (V.fields e (he ▸ List.getElem_mem hi))
                  omega
/-- One that lacks space would take more than there is. -/
theorem do_full {fold : Bool} {s1 space : Int} {L M : List EntD} {o : OpD} (h : doL fold s1 L o = .ok M) (h11 : doL fold space L o = .error 11) : space < usedL M := by
  unfold doL at h h11
  split at h11
  · rename_i hk; rw [if_pos hk] at h; exact mk_full h h11
  · rename_i hk; rw [if_neg hk] at h
    split at h11
    · rename_i hk2; rw [if_pos hk2] at h; exact mk_full h h11
    · rename_i hk2; rw [if_neg hk2] at h
      cases hf : L[atI fold L o.pl]? with
      | none => rw [hf] at h; cases h
      | some e =>
        rw [hf] at h h11
        dsimp only at h h11
        split at h11
        · cases h11
        · rename_i h7; rw [if_neg h7] at h
          split at h11
          · rename_i h6; rw [if_pos h6] at h
            rw [h] at h11
            cases h11
          · rename_i h6; rw [if_neg h6] at h
            split at h11
            · cases h11
            · rename_i h10; rw [if_neg h10] at h
              split at h11
              · rename_i h5; rw [if_pos h5] at h; exact mk_full h h11
              · rename_i h5; rw [if_neg h5] at h
                rw [h] at h11
                cases h11

/-- The trees of the way from a to b take no more than the space. -/
def WayS (fold : Bool) (S : List EntD) (l : List OpD) (space : Int) (a b : Nat) : Prop := ∀ j, a ≤ j → j ≤ b → usedL (wayT fold S l j) ≤ space
theorem WayS.join {fold : Bool} {S : List EntD} {l : List OpD} {space : Int} {a b c : Nat} (h1 : WayS fold S l space a b) (h2 : WayS fold S l space b c) : WayS fold S l space a c := fun j ha hc => by
  by_cases h : j ≤ b
  · exact h1 j ha h
  · exact h2 j (by omega) hc
theorem try_need {fold : Bool} {s : Int} {S M : List EntD} {l : List OpD} {n : Int} : ∀ (r k : Nat) (need : Int) (i : Nat), k + r = l.length → usedL (wayT fold S l k) ≤ need → tryL fold 9223372036854775807 (wayT fold S l k) need (l.drop k) i = .ok (M, n) → need ≤ n ∧ WayS fold S l n k l.length ∧ ∀ b, need ≤ b → WayS fold S l b k l.length → n ≤ b := by
  intro r
  induction r with
  | zero =>
    intro k need i hk hu h
    obtain rfl : k = l.length := by omega
    rw [List.drop_length, tryL] at h
    cases h
    refine ⟨Int.le_refl _, fun j h1 h2 => ?_, fun b hb _ => hb⟩
    obtain rfl : j = l.length := by omega
    exact hu
  | succ r ih =>
    intro k need i hk hu h
    have hkl : k < l.length := by omega
    rw [List.drop_eq_getElem_cons hkl, tryL] at h
    cases hd : doL fold 9223372036854775807 (wayT fold S l k) l[k] with
    | error c => rw [hd] at h; cases h
    | ok L' =>
      rw [hd] at h
      have hw := wayT_step hkl hd
      rw [← hw] at h
      obtain ⟨h1, h2, h3⟩ := ih (k + 1) _ _ (by omega) (Int.le_max_right _ _) h
      refine ⟨by omega, fun j ha hb => ?_, fun b hb hw => ?_⟩
      · by_cases e : j = k
        · subst e; omega
        · exact h2 j (by omega) hb
      · have := hw (k + 1) (by omega) (by omega)
        exact h3 b (by omega) (fun j ha hb => hw j (by omega) hb)
theorem tryP_need {fold : Bool} {S M : List EntD} {l : List OpD} {n : Int} (h : tryP fold 9223372036854775807 S l = .ok (M, n)) : usedL S ≤ n ∧ usedL M ≤ n ∧ WayS fold S l n 0 l.length ∧ ∀ b, WayS fold S l b 0 l.length → n ≤ b := by
  have hM := (tryP_way h).1
  unfold tryP at h
  split at h
  · cases h
  · split at h
    · cases h
    · split at h
      · cases h
      · rename_i x hx
        cases h
        obtain ⟨h1, h2, h3⟩ := try_need (s := 0) (l := l) (S := S) l.length 0 _ _ (by omega) (Int.le_refl (usedL S)) (by rw [List.drop_zero]; exact hx)
        refine ⟨h1, ?_, h2, fun b hb => h3 b (hb 0 (Nat.le_refl _) (Nat.zero_le _)) hb⟩
        rw [← hM]; exact h2 _ (Nat.zero_le _) (Nat.le_refl _)
theorem way_vol {fold : Bool} {S M : List EntD} {l : List OpD} {n : Int} (h : tryP fold 9223372036854775807 S l = .ok (M, n)) : ∀ j, j ≤ l.length → VolOk fold (wayT fold S l j) := by
  have hw := (tryP_way h).2
  have hok := (try_ok h).2
  intro j
  induction j with
  | zero => intro _; exact tree_vol (try_tree h)
  | succ j ih =>
    intro hj
    exact do_ok (ih (by omega)) (okOp_good (hok _ (List.getElem_mem (by omega)))) (hw j (by omega))
theorem tryP_few {fold : Bool} {S M : List EntD} {l : List OpD} {n : Int} (h : tryP fold 9223372036854775807 S l = .ok (M, n)) : n ≤ 12000 := (tryP_need h).2.2.2 _ (fun j _ hj => (used_le (way_vol h j hj)).2)
theorem tryP_none {fold : Bool} {S : List EntD} (h : treeF fold S = true) : tryP fold 9223372036854775807 S [] = .ok (S, usedL S) := by
  unfold tryP
  rw [if_neg (by rw [h]; decide), if_neg (by simp [fwrong]), tryL]
end Go.Proofs.YtemkpollilhmjaaGreatDoor
