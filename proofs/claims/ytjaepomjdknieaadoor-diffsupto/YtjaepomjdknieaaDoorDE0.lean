/- A region that draws its order, by what holds of each of its operations wherever it comes up. No program in this text. -/
import Derived.WalkKit
import Derived.Orders
namespace Go.Proofs.YtjaepomjdknieaaDoor
open Go.RowKit
set_option linter.unusedVariables false
set_option linter.unusedSimpArgs false

/-- How many have not come up. -/
def unl (listed : Array Bool) : Nat := (listed.toList.filter (fun b => !b)).length
theorem unl_set (listed : Array Bool) (i : Nat) (h : listed.getD i true = false) : unl (listed.setIfInBounds i true) + 1 = unl listed := by
  have hi : i < listed.size := by
    by_cases hi : i < listed.size
    · exact hi
    · simp [Array.getD, hi] at h
  have hv : listed[i] = false := by simpa [Array.getD, hi] using h
  unfold unl
  rw [Array.toList_setIfInBounds]
  have hi' : i < listed.toList.length := by simpa using hi
  have e : listed.toList = listed.toList.take i ++ false :: listed.toList.drop (i + 1) := by
    have h1 : listed.toList[i] = false := by simpa using hv
    rw [← h1, ← List.drop_eq_getElem_cons hi', List.take_append_drop]
  have e2 : listed.toList.set i true = listed.toList.take i ++ true :: listed.toList.drop (i + 1) := by
    rw [List.set_eq_take_append_cons_drop, if_pos hi']
  rw [e2]
  conv => rhs; rw [e]
  simp
  omega
theorem unl_zero (listed : Array Bool) (h : unl listed = 0) (i : Nat) : listed.getD i true = true := by
  by_cases hi : i < listed.size
  · have : listed.toList.filter (fun b => !b) = [] := List.length_eq_zero_iff.1 h
    rw [List.filter_eq_nil_iff] at this
    have h2 := this listed[i] (by simp)
    simp [Array.getD, hi]
    simpa using h2
  · simp [Array.getD, hi]

section
variable {P : Program} {md : Region.Mode} {ops : Array Oper} {Q : Exit → Act → World → Prop}
theorem ready_mem {listed : Array Bool} {i : Nat} (h : i ∈ Region.ready md ops listed) : ∃ o, ops[i]? = some o ∧ listed.getD i true = false ∧ ∀ e ∈ o.after, Region.binds md e = true → listed.getD e.on false = true := by
  unfold Region.ready at h
  rw [List.mem_filter] at h
  obtain ⟨h1, h2⟩ := h
  rw [List.mem_range] at h1
  simp only [Array.getElem?_eq_getElem h1, Option.map_some, Option.getD_some, Bool.and_eq_true, Bool.not_eq_true'] at h2
  refine ⟨ops[i], Array.getElem?_eq_getElem h1, h2.1, fun e he hb => ?_⟩
  have h3 := h2.2
  rw [Array.all_eq_true'] at h3
  have := h3 e he
  rw [hb] at this
  simpa using this
theorem ready_none {listed : Array Bool} (hsz : listed.size = ops.size) (hdag : ∀ (i : Nat) (o : Oper), ops[i]? = some o → ∀ e ∈ o.after, e.on < i) (h : Region.ready md ops listed = []) : ∀ i, i < ops.size → listed.getD i false = true := by
  intro i
  induction i using Nat.strongRecOn with
  | _ i ih =>
    intro hi
    cases hl : listed.getD i false with
    | true => rfl
    | false =>
      exfalso
      have hm : i ∈ Region.ready md ops listed := by
        unfold Region.ready
        rw [List.mem_filter]
        refine ⟨List.mem_range.2 hi, ?_⟩
        have hlt : listed.getD i true = false := by
          have h' : i < listed.size := by omega
          simpa [Array.getD, h'] using hl
        simp only [Array.getElem?_eq_getElem hi, Option.map_some, Option.getD_some, hlt, Bool.not_false, Bool.true_and]
        rw [Array.all_eq_true']
        intro e he
        have := ih e.on (hdag i ops[i] (Array.getElem?_eq_getElem hi) e he) (by have := hdag i ops[i] (Array.getElem?_eq_getElem hi) e he; omega)
        rw [this]; simp
      rw [h] at hm
      cases hm

theorem wpAny_inv (I : Array Bool → Act → World → Prop)
    (hstep : ∀ listed a w i, I listed a w → i ∈ Region.ready md ops listed → wpOp P ops Q i (fun a' w' => I (listed.setIfInBounds i true) a' w') a w)
    (hend : ∀ listed a w, I listed a w → Region.ready md ops listed = [] → Q .normal a w) :
    ∀ (fuel : Nat) (listed : Array Bool) (a : Act) (w : World), unl listed ≤ fuel → I listed a w → wpAny P md ops Q fuel listed a w := by
  intro fuel
  induction fuel with
  | zero =>
    intro listed a w hu hI
    have hr : Region.ready md ops listed = [] := by
      rw [List.eq_nil_iff_forall_not_mem]
      intro i hi
      obtain ⟨o, _, h1, _⟩ := ready_mem hi
      rw [unl_zero listed (by omega) i] at h1
      cases h1
    exact ⟨hr, hend listed a w hI hr⟩
  | succ fuel ih =>
    intro listed a w hu hI
    refine ⟨fun hr => hend listed a w hI hr, fun i hi => ?_⟩
    refine wpOp_mono (fun a' w' hI' => ih _ a' w' ?_ hI') (hstep listed a w i hI hi)
    obtain ⟨o, _, h1, _⟩ := ready_mem hi
    have := unl_set listed i h1
    omega

/-- What holds in a region while its operations come up: outside its slots the frame is as it was, each slot that has been filled is good, and the world is as W says (by which ones have come up). -/
structure RInv (ops : Array Oper) (a0 : Act) (G : Nat → World → Value → Prop) (W : Array Bool → World → Prop) (listed : Array Bool) (a : Act) (w : World) : Prop where
  size : listed.size = ops.size
  defers : a.defers = a0.defers
  tsize : a.tmps.size = a0.tmps.size
  out : ∀ t, (ops.all fun o => o.dst != some t) = true → a.tmps.getD t undef = a0.tmps.getD t undef
  good : ∀ i o d, ops[i]? = some o → listed.getD i false = true → o.dst = some d → G d w (a.tmps.getD d undef)
  world : W listed w
  closed : ∀ (i : Nat) (o : Oper), ops[i]? = some o → listed.getD i false = true → ∀ e ∈ o.after, Region.binds .any e = true → listed.getD e.on false = true

theorem getD_set_self (xs : Array Value) (d : Nat) (v : Value) (h : d < xs.size) : (xs.setIfInBounds d v).getD d undef = v := by
  simp [Array.getD, h]
theorem getD_set_ne (xs : Array Value) (d t : Nat) (v : Value) (h : d ≠ t) : (xs.setIfInBounds d v).getD t undef = xs.getD t undef := by
  unfold Array.getD
  by_cases ht : t < xs.size
  · simp [ht, Array.getElem_setIfInBounds, h]
  · simp [ht]
theorem listed_set (listed : Array Bool) (i j : Nat) : (listed.setIfInBounds i true).getD j false = true → i = j ∨ listed.getD j false = true := by
  unfold Array.getD
  by_cases hj : j < listed.size
  · by_cases he : i = j
    · intro _; exact .inl he
    · simp [hj, Array.getElem_setIfInBounds, he]
  · simp [hj]

/-- One operation: its value is good, what was good stays good, the world is as it should be. -/
def OneOp (P : Program) (G : Nat → World → Value → Prop) (W : World → Prop) (o : Oper) (a : Act) (w : World) : Prop :=
  ∃ v w', ((execOp a.eval o).run P w = .ok (.value v) w' ∨ ((execOp a.eval o).run P w = .ok .skip w' ∧ v = undef)) ∧ (∀ d, o.dst = some d → G d w' v) ∧ (∀ d u, o.dst ≠ some d → G d w u → G d w' u) ∧ W w'

theorem listed_keep (listed : Array Bool) (i j : Nat) (h : listed.getD j false = true) : (listed.setIfInBounds i true).getD j false = true := by
  unfold Array.getD at *
  by_cases hj : j < listed.size
  · simp only [hj, dif_pos] at h
    by_cases he : i = j
    · simp [hj, he]
    · simp [hj, Array.getElem_setIfInBounds, he]; simpa using h
  · simp [hj] at h
theorem listed_other (listed : Array Bool) (i j : Nat) (h : i ≠ j) : (listed.setIfInBounds i true).getD j false = listed.getD j false := by
  unfold Array.getD
  by_cases hj : j < listed.size
  · simp [hj, Array.getElem_setIfInBounds, h]
  · simp [hj]
theorem listed_self (listed : Array Bool) (i : Nat) (h : i < listed.size) : (listed.setIfInBounds i true).getD i false = true := by
  simp [Array.getD, h]

theorem RInv.step {a0 : Act} {G : Nat → World → Value → Prop} {W : Array Bool → World → Prop} {listed : Array Bool} {a : Act} {w : World} {i : Nat} {o : Oper}
    (hI : RInv ops a0 G W listed a w) (hi : i ∈ Region.ready .any ops listed) (ho : ops[i]? = some o) (hg : o.guard = none)
    (hdst : ∀ (j : Nat) o' d, ops[j]? = some o' → o.dst = some d → o'.dst = some d → j = i) (hlt : ∀ d, o.dst = some d → d < a0.tmps.size)
    (h1 : OneOp P G (W (listed.setIfInBounds i true)) o a w) :
    wpOp P ops Q i (fun a' w' => RInv ops a0 G W (listed.setIfInBounds i true) a' w') a w := by
  obtain ⟨v, w', hr, hG, hst, hW⟩ := h1
  have hw : Region.wanted o (yielded ops a.tmps) = true := by simp [Region.wanted, hg]
  have hcl : ∀ (j : Nat) (o' : Oper), ops[j]? = some o' → (listed.setIfInBounds i true).getD j false = true → ∀ e ∈ o'.after, Region.binds .any e = true → (listed.setIfInBounds i true).getD e.on false = true := by
    intro j o' hj hl e he hb
    refine listed_keep _ _ _ ?_
    rcases listed_set _ _ _ hl with rfl | hl
    · obtain ⟨o2, ho2, _, h3⟩ := ready_mem hi
      rw [hj] at ho2; cases ho2
      exact h3 e he hb
    · exact hI.closed j o' hj hl e he hb
  have key : RInv ops a0 G W (listed.setIfInBounds i true) (a.put o.dst v) w' := by
    cases hd : o.dst with
    | none =>
      refine ⟨by simpa using hI.size, hI.defers, hI.tsize, hI.out, fun j o' d hj hl hd' => ?_, hW, hcl⟩
      rcases listed_set _ _ _ hl with rfl | hl
      · rw [hj] at ho; cases ho; rw [hd] at hd'; cases hd'
      · exact hst d _ (by rw [hd]; simp) (hI.good j o' d hj hl hd')
    | some d0 =>
      have hlt0 := hlt d0 hd
      refine ⟨by simpa using hI.size, hI.defers, by simpa [Act.put] using hI.tsize, fun t ht => ?_, fun j o' d hj hl hd' => ?_, hW, hcl⟩
      · show (a.tmps.setIfInBounds d0 v).getD t undef = _
        rw [getD_set_ne _ _ _ _ (fun e => ?_)]
        · exact hI.out t ht
        · subst e
          rw [Array.all_eq_true'] at ht
          have := ht o (Array.mem_of_getElem? ho)
          rw [hd] at this
          simp at this
      · show G d w' ((a.tmps.setIfInBounds d0 v).getD d undef)
        by_cases e : d0 = d
        · subst e
          rw [getD_set_self _ _ _ (by rw [hI.tsize]; exact hlt0)]
          exact hG d0 hd
        · rw [getD_set_ne _ _ _ _ e]
          rcases listed_set _ _ _ hl with rfl | hl
          · rw [hj] at ho; cases ho; rw [hd] at hd'; cases hd'; exact absurd rfl e
          · exact hst d _ (by rw [hd]; simpa using e) (hI.good j o' d hj hl hd')
  unfold wpOp
  rw [ho]
  simp only [hw, if_true]
  left
  unfold Oper.wp
  rcases hr with hr | ⟨hr, rfl⟩
  · rw [hr, Oper.upon_value]; exact key
  · rw [hr, Oper.upon_skip]; exact key

theorem RInv.start (a0 : Act) (G : Nat → World → Value → Prop) (W : Array Bool → World → Prop) (w : World) (h : W (Array.replicate ops.size false) w) : RInv ops a0 G W (Array.replicate ops.size false) a0 w := by
  have hf : ∀ i, (Array.replicate ops.size false).getD i false = false := by
    intro i
    unfold Array.getD
    split <;> simp
  refine ⟨by simp, rfl, rfl, fun _ _ => rfl, fun i o d _ hl _ => ?_, h, fun i o _ hl => ?_⟩
  · rw [hf i] at hl; cases hl
  · rw [hf i] at hl; cases hl
theorem unl_start (n : Nat) : unl (Array.replicate n false) ≤ n := by simp [unl]

/-- The region whole. -/
theorem wp_region_inv {id : Nat} {a0 : Act} {w : World} (G : Nat → World → Value → Prop) (W : Array Bool → World → Prop) (hm : P.follows .mixedOrders = true) (hW : W (Array.replicate ops.size false) w.drew)
    (hdag : (List.range ops.size).all (fun i => ((ops[i]?).map (fun o => o.after.all fun e => decide (e.on < i))).getD true) = true)
    (hdst : (List.range ops.size).all (fun i => ((ops[i]?).map (fun o => o.guard == none && (o.dst.map (fun d => decide (d < a0.tmps.size))).getD true && (List.range ops.size).all (fun j => decide (j = i) || ((ops[j]?).map (fun o' => o'.dst == none || o'.dst != o.dst)).getD true))).getD true) = true)
    (hstep : ∀ listed a w i o, RInv ops a0 G W listed a w → i ∈ Region.ready .any ops listed → ops[i]? = some o → OneOp P G (W (listed.setIfInBounds i true)) o a w)
    (hend : ∀ listed a w, RInv ops a0 G W listed a w → (∀ i, i < ops.size → listed.getD i false = true) → Q .normal a w) : (Code.region id ops true).wp P Q a0 w := by
  refine wp_region_any hm (wpAny_inv (md := .any) (RInv ops a0 G W) ?_ ?_ ops.size _ a0 w.drew (unl_start _) (RInv.start a0 G W _ hW))
  · intro listed a w i hI hi
    obtain ⟨o, ho, _, _⟩ := ready_mem hi
    have hlt : i < ops.size := (Array.getElem?_eq_some_iff.1 ho).1
    rw [List.all_eq_true] at hdst
    have h1 := hdst i (List.mem_range.2 hlt)
    simp only [ho, Option.map_some, Option.getD_some, Bool.and_eq_true] at h1
    refine hI.step hi ho (by simpa using h1.1.1) ?_ ?_ (hstep listed a w i o hI hi ho)
    · intro j o' d hj hd hd'
      have hlj : j < ops.size := (Array.getElem?_eq_some_iff.1 hj).1
      have h2 := h1.2
      rw [List.all_eq_true] at h2
      have h3 := h2 j (List.mem_range.2 hlj)
      simp only [hj, Option.map_some, Option.getD_some, hd, hd'] at h3
      simpa using h3
    · intro d hd
      have h2 := h1.1.2
      simp only [hd, Option.map_some, Option.getD_some] at h2
      simpa using h2
  · intro listed a w hI hr
    refine hend listed a w hI (ready_none hI.size (fun i o ho e he => ?_) hr)
    have hlt : i < ops.size := (Array.getElem?_eq_some_iff.1 ho).1
    rw [List.all_eq_true] at hdag
    have h1 := hdag i (List.mem_range.2 hlt)
    simp only [ho, Option.map_some, Option.getD_some] at h1
    rw [Array.all_eq_true'] at h1
    simpa using h1 e he

/-- What an operation that comes up waits for has come up. -/
theorem dep_of {listed : Array Bool} {i : Nat} (k : Nat) (hi : i ∈ Region.ready .any ops listed) (hc : ((ops[i]?).map (fun o => o.after.any fun e => decide (e.on = k) && Region.binds .any e)).getD false = true) : listed.getD k false = true := by
  obtain ⟨o, ho, _, h3⟩ := ready_mem hi
  simp only [ho, Option.map_some, Option.getD_some] at hc
  rw [Array.any_eq_true'] at hc
  obtain ⟨e, he, hb⟩ := hc
  simp only [Bool.and_eq_true, decide_eq_true_eq] at hb
  rw [← hb.1]
  exact h3 e he hb.2
theorem undone {a0 : Act} {G : Nat → World → Value → Prop} {W : Array Bool → World → Prop} {listed : Array Bool} {a : Act} {w : World} {i : Nat} (l : Nat) (hI : RInv ops a0 G W listed a w) (hi : i ∈ Region.ready .any ops listed)
    (hc : ((ops[l]?).map (fun o => o.after.any fun e => decide (e.on = i) && Region.binds .any e)).getD false = true) : listed.getD l false = false := by
  obtain ⟨o, ho, h2, _⟩ := ready_mem hi
  cases hl : listed.getD l false with
  | false => rfl
  | true =>
    exfalso
    cases ho' : ops[l]? with
    | none => rw [ho'] at hc; simp at hc
    | some ol =>
      simp only [ho', Option.map_some, Option.getD_some] at hc
      rw [Array.any_eq_true'] at hc
      obtain ⟨e, he, hb⟩ := hc
      simp only [Bool.and_eq_true, decide_eq_true_eq] at hb
      have := hI.closed l ol ho' hl e he hb.2
      rw [hb.1] at this
      have hlt : i < listed.size := by rw [hI.size]; exact (Array.getElem?_eq_some_iff.1 ho).1
      simp [Array.getD, hlt] at h2 this
      rw [h2] at this
      cases this
theorem RInv.went {a0 : Act} {G : Nat → World → Value → Prop} {W : Array Bool → World → Prop} {listed : Array Bool} {a : Act} {w : World} (hI : RInv ops a0 G W listed a w) (l i : Nat) (hl : listed.getD l false = true)
    (hc : ((ops[l]?).map (fun o => o.after.any fun e => decide (e.on = i) && Region.binds .any e)).getD false = true) : listed.getD i false = true := by
  cases ho' : ops[l]? with
  | none => rw [ho'] at hc; simp at hc
  | some ol =>
    simp only [ho', Option.map_some, Option.getD_some] at hc
    rw [Array.any_eq_true'] at hc
    obtain ⟨e, he, hb⟩ := hc
    simp only [Bool.and_eq_true, decide_eq_true_eq] at hb
    have := hI.closed l ol ho' hl e he hb.2
    rwa [hb.1] at this
theorem RInv.val {a0 : Act} {G : Nat → World → Value → Prop} {W : Array Bool → World → Prop} {listed : Array Bool} {a : Act} {w : World} (hI : RInv ops a0 G W listed a w) (k d : Nat) (hl : listed.getD k false = true) (hd : ((ops[k]?).bind (·.dst)) = some d) : G d w (a.eval (.tmp d)) := by
  cases ho : ops[k]? with
  | none => rw [ho] at hd; cases hd
  | some o => rw [ho] at hd; exact hI.good k o d ho hl hd
theorem RInv.old {a0 : Act} {G : Nat → World → Value → Prop} {W : Array Bool → World → Prop} {listed : Array Bool} {a : Act} {w : World} (hI : RInv ops a0 G W listed a w) (t : Nat) (ht : (ops.all fun o => o.dst != some t) = true) : a.eval (.tmp t) = a0.eval (.tmp t) := hI.out t ht
end
end Go.Proofs.YtjaepomjdknieaaDoor
