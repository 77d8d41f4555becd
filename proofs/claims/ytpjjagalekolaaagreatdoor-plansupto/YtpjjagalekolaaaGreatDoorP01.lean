/- DA, DE0: in one text. -/
import Derived.WalkKit
import Derived.Laws.AppendOwn
import Derived.Orders
/- Plain laws of append on rows that bear one mark everywhere: what is appended, and what such rows stay. No program in this text. -/
namespace Go.Proofs.YtpjjagalekolaaaGreatDoor
open Go.RowKit
set_option linter.unusedVariables false
set_option linter.unusedSimpArgs false

/-- One mark, so many times. -/
def repC (mc : List Value) (n : Nat) : List Value := (List.replicate n mc).flatten
theorem repC_succ (mc : List Value) (n : Nat) : repC mc (n + 1) = mc ++ repC mc n := by simp [repC, List.replicate_succ]
theorem repC_len (mc : List Value) (n : Nat) : (repC mc n).length = n * mc.length := by simp [repC]
theorem repC_add (mc : List Value) (n m : Nat) : repC mc n ++ repC mc m = repC mc (n + m) := by
  induction n with
  | zero => simp [repC]
  | succ n ih => rw [repC_succ, List.append_assoc, ih, ← repC_succ, show n + 1 + m = n + m + 1 by omega]
theorem repC_get (mc : List Value) (n : Nat) : ∀ j, j < n * mc.length → (repC mc n)[j]? = mc[j % mc.length]? := by
  induction n with
  | zero => intro j hj; simp at hj
  | succ n ih =>
    intro j hj
    rw [repC_succ]
    by_cases h : j < mc.length
    · rw [List.getElem?_append_left h, Nat.mod_eq_of_lt h]
    · rw [List.getElem?_append_right (by omega), ih (j - mc.length) (by rw [Nat.add_mul] at hj; omega)]
      congr 1
      rw [Nat.mod_eq_sub_mod (by omega : mc.length ≤ j)]
theorem repC_one {mc : List Value} (h : ∀ u ∈ mc, u.oneCell' = true) (n : Nat) : ∀ u ∈ repC mc n, u.oneCell' = true := by
  intro u hu
  simp only [repC, List.mem_flatten, List.mem_replicate] at hu
  obtain ⟨c, ⟨_, rfl⟩, hu⟩ := hu
  exact h u hu

theorem rep_put (mc : List Value) (hs : 0 < mc.length) (cur : List Value) (n m p : Nat) (hn : cur.take (n * mc.length) = repC mc n) (hfit : n * mc.length + m * mc.length ≤ cur.length) (hp : cur.take (p * mc.length) = repC mc p) :
    (cur.take (n * mc.length) ++ repC mc m ++ cur.drop (n * mc.length + m * mc.length)).take (p * mc.length) = repC mc p := by
  have hpl : p * mc.length ≤ cur.length := by
    have := congrArg List.length hp
    rw [List.length_take, repC_len] at this
    omega
  refine List.ext_getElem? fun j => ?_
  rw [List.getElem?_take]
  split
  · next hj =>
    rw [repC_get mc p j hj]
    have hcur : cur[j]? = mc[j % mc.length]? := by
      have := congrArg (fun l => l[j]?) hp
      simp only [List.getElem?_take, if_pos hj] at this
      rw [this, repC_get mc p j hj]
    rw [hn]
    by_cases h1 : j < n * mc.length
    · rw [List.getElem?_append_left (by simp [repC_len]; omega), List.getElem?_append_left (by rw [repC_len]; exact h1), repC_get mc n j h1]
    · by_cases h2 : j < n * mc.length + m * mc.length
      · rw [List.getElem?_append_left (by simp [repC_len]; omega), List.getElem?_append_right (by rw [repC_len]; omega), repC_len, repC_get mc m _ (by omega)]
        congr 1
        have e : j = (j - n * mc.length) + mc.length * n := by rw [Nat.mul_comm mc.length n]; omega
        conv => rhs; rw [e, Nat.add_mul_mod_self_left]
      · rw [List.getElem?_append_right (by simp [repC_len]; omega)]
        simp only [List.length_append, repC_len]
        rw [List.getElem?_drop, show n * mc.length + m * mc.length + (j - (n * mc.length + m * mc.length)) = j by omega]
        exact hcur
  · next hj =>
    rw [List.getElem?_eq_none (by rw [repC_len]; omega)]

section
variable {P : Program} (w : World)
theorem run_append_rep (base : Nat) (t ty e : TypeId) (i : TypeInfo) (z : Value) (size bytes : Nat) (ht : P.underlying t = some (.slice e)) (hi : P.info? e = some i) (hz : i.zero = some z)
    (hsize : i.size = size) (hby : i.bytes = bytes) (hzs : z.cells.size = size) (hsz : 0 < size)
    (mc : List Value) (hmc : mc.length = size) (v : Value) (n : Nat) (hown : w.ownsRow base e size v n (repC mc n))
    (a : Addr) (m c : Nat) (hnews : ∀ j u, (repC mc m)[j]? = some u → w.cell? (a.add j) = some u) (h1 : ∀ u ∈ mc, u.oneCell' = true)
    (h63 : n + m ≤ maxLen) (hbytes : (n + m) * bytes ≤ 140737488355328) (hbase : base ≤ w.heap.size) :
    ∃ v' w', (Builtin.append_ #[t, t] ty #[v, .slice (some a) m c]).run P w = .ok v' w' ∧ w'.ownsRow base e size v' (n + m) (repC mc (n + m)) ∧ w.grownBy w' v.ownBlock ∧
      (∀ b u p, w.ownsRow b e size u p (repC mc p) → w'.ownsRow b e size u p (repC mc p)) := by
  subst hmc
  subst hby
  have hl : (repC mc m).length = m * mc.length := repC_len mc m
  have h1' := repC_one h1 m
  have hsmall : n + m ≤ 9223372036854775807 := by simp only [maxLen] at h63; omega
  have hlen : (repC mc (n + m)).length = (n + m) * mc.length := repC_len mc (n + m)
  have grown : ∀ (old : Nat), old < n + m → ∀ (row : Option Nat),
      (w.drew.alloc (.cells ((repC mc n).toArray ++ (repC mc m).toArray ++ Builtin.zeroCells z.cells (grownCap w (n + m) old e - (n + m))) e)).ownsRow base e mc.length
        (.slice (some ⟨w.heap.size, 0, none⟩) (n + m) (grownCap w (n + m) old e)) (n + m) (repC mc (n + m)) ∧
      w.grownBy (w.drew.alloc (.cells ((repC mc n).toArray ++ (repC mc m).toArray ++ Builtin.zeroCells z.cells (grownCap w (n + m) old e - (n + m))) e)) row := by
    intro old ho row
    have hge := grownCap_ge w (n + m) old e
    have hcm : grownCap w (n + m) old e ≤ maxLen := grownCap_le_maxLen w (n + m) old e h63
    refine ⟨⟨hlen, .inr ⟨w.heap.size, _, _, rfl, hbase, heap_alloc_new w.drew _, hge, hcm, ?_, ?_⟩⟩, ⟨rfl, rfl, rfl, by simp, fun k hk _ => (World.grownBy_alloc w.drew _ none).block k hk (by simp)⟩⟩
    · simp only [Array.size_append, List.size_toArray, size_zeroCells, hzs, repC_len, ← Nat.add_mul]
      congr 1
      omega
    · simp only [Array.toList_append]
      rw [repC_add, ← hlen]
      exact List.take_left
  have stays : ∀ w' : World, w.grownBy w' none → ∀ b u p, w.ownsRow b e mc.length u p (repC mc p) → w'.ownsRow b e mc.length u p (repC mc p) := by
    intro w' hg b u p h
    exact h.kept hg (by cases hv : u.ownBlock <;> simp)
  rcases hown.2 with ⟨rfl, rfl⟩ | ⟨g, cap, cur, rfl, hbg, hg, hnc, hcm, hcs, htake⟩
  · by_cases hm : m = 0
    · subst hm
      refine ⟨.slice none 0 0, w, ?_, World.ownsRow_nil w base e mc.length, ⟨rfl, rfl, rfl, Nat.le_refl _, fun _ _ _ => rfl⟩, fun _ _ _ h => h⟩
      simp [Builtin.append_, run_underlying ht, sizeOf, typeInfo, hi, Builtin.lenOf, Builtin.firstCells, loadCells, loadCellsFrom]
    · have hr := run_append_nil (P := P) w t ty e i z ht hi hz a m c (repC mc m) (by rw [hsize]; exact hl) hnews (by omega) (by omega) (by have hb := hbytes; simp only [Nat.zero_add] at hb; omega)
      have hgr := grown 0 (by omega) none
      have e0 : (repC mc 0).toArray = #[] := rfl
      rw [e0] at hgr
      simp only [Nat.zero_add, Array.empty_append] at hgr ⊢
      exact ⟨_, _, hr, hgr.1, hgr.2, stays _ hgr.2⟩
  · by_cases hroom : n + m ≤ cap
    · have hfit : n * i.size + (repC mc m).length ≤ cur.size := by rw [hl, hcs, hsize, ← Nat.add_mul]; exact Nat.mul_le_mul_right _ hroom
      have hr := run_append_room (P := P) w t ty e i ht hi g n cap cur hg a m c (repC mc m) (by rw [hsize]; exact hl) hnews h1' hroom hfit
      have hput : ∀ p, cur.toList.take (p * mc.length) = repC mc p → (cur.toList.take (n * i.size) ++ repC mc m ++ cur.toList.drop (n * i.size + (repC mc m).length)).take (p * mc.length) = repC mc p := by
        intro p hp
        rw [hsize, hl]
        exact rep_put mc hsz cur.toList n m p htake (by rw [hsize, hl] at hfit; simpa using hfit) hp
      have hsz' : (cur.toList.take (n * i.size) ++ repC mc m ++ cur.toList.drop (n * i.size + (repC mc m).length)).toArray.size = cap * mc.length := by
        simp only [List.size_toArray, List.length_append, List.length_take, List.length_drop, Array.length_toList]
        omega
      refine ⟨_, _, hr, ⟨hlen, .inr ⟨g, cap, _, rfl, hbg, setRow_heap w g cur _ e _ hg, hroom, hcm, hsz', ?_⟩⟩, ⟨rfl, rfl, rfl, by simp, fun k _ hk => setRow_other w g k _ (fun e => hk (by simp [Value.ownBlock, e]))⟩, ?_⟩
      · show (cur.toList.take (n * i.size) ++ repC mc m ++ cur.toList.drop (n * i.size + (repC mc m).length)).take ((n + m) * mc.length) = repC mc (n + m)
        rw [hsize, htake, repC_add, ← hlen]
        exact List.take_left
      · intro b u p h
        rcases h.2 with hn | ⟨g', cap', cur', rfl, hb', hg', hn', hc', hs', ht'⟩
        · exact ⟨h.1, .inl hn⟩
        · by_cases he : g' = g
          · subst he
            have : cur' = cur := by
              have := hg'.symm.trans hg
              simpa using this
            subst this
            refine ⟨h.1, .inr ⟨g', cap', _, rfl, hb', setRow_heap w g' cur' _ e _ hg, hn', hc', ?_, hput p ht'⟩⟩
            rw [hsz', ← hcs, hs']
          · refine ⟨h.1, .inr ⟨g', cap', cur', rfl, hb', (setRow_other w g g' _ (fun e => he e)).trans hg', hn', hc', hs', ht'⟩⟩
    · have holds : ∀ j u, (repC mc n)[j]? = some u → w.cell? ((⟨g, 0, none⟩ : Addr).add j) = some u := hown.cells (g := g) rfl
      have hr := run_append_grow (P := P) w t ty e i z ht hi hz ⟨g, 0, none⟩ n cap (repC mc n) (by rw [hsize]; exact hown.1) holds a m c (repC mc m) (by rw [hsize]; exact hl) hnews (by omega) (by omega) (growslice_fits (by omega) hbytes)
      have hgr := grown cap (by omega) none
      exact ⟨_, _, hr, hgr.1, ⟨hgr.2.os, hgr.2.tape, hgr.2.output, hgr.2.size, fun k hk _ => hgr.2.block k hk (by simp)⟩, stays _ hgr.2⟩

end
end Go.Proofs.YtpjjagalekolaaaGreatDoor

/- A region that draws its order, by what holds of each of its operations wherever it comes up. No program in this text. -/
namespace Go.Proofs.YtpjjagalekolaaaGreatDoor
open Go.RowKit
set_option linter.unusedVariables false
set_option linter.unusedSimpArgs false

/-- How many have not come up. -/
def unl (listed : Array Bool) : Nat := (listed.toList.filter (fun b => !b)).length
theorem unl_set (listed : Array Bool) (i : Nat) (h : listed.getD i true = false) : unl (listed.setIfInBounds i true) + 1 = unl listed := by
  have hi : i < listed.size := by
    by_cases hi : i < listed.size
    · exact hi
    · simp [Array.getD, hi] at h
  have hv : listed[i] = false := by simpa [Array.getD, hi] using h
  unfold unl
  rw [Array.toList_setIfInBounds]
  have hi' : i < listed.toList.length := by simpa using hi
  have e : listed.toList = listed.toList.take i ++ false :: listed.toList.drop (i + 1) := by
    have h1 : listed.toList[i] = false := by simpa using hv
    rw [← h1, ← List.drop_eq_getElem_cons hi', List.take_append_drop]
  have e2 : listed.toList.set i true = listed.toList.take i ++ true :: listed.toList.drop (i + 1) := by
    rw [List.set_eq_take_append_cons_drop, if_pos hi']
  rw [e2]
  conv => rhs; rw [e]
  simp
  omega
theorem unl_zero (listed : Array Bool) (h : unl listed = 0) (i : Nat) : listed.getD i true = true := by
  by_cases hi : i < listed.size
  · have : listed.toList.filter (fun b => !b) = [] := List.length_eq_zero_iff.1 h
    rw [List.filter_eq_nil_iff] at this
    have h2 := this listed[i] (by simp)
    simp [Array.getD, hi]
    simpa using h2
  · simp [Array.getD, hi]

section
variable {P : Program} {md : Region.Mode} {ops : Array Oper} {Q : Exit → Act → World → Prop}
theorem ready_mem {listed : Array Bool} {i : Nat} (h : i ∈ Region.ready md ops listed) : ∃ o, ops[i]? = some o ∧ listed.getD i true = false ∧ ∀ e ∈ o.after, Region.binds md e = true → listed.getD e.on false = true := by
  unfold Region.ready at h
  rw [List.mem_filter] at h
  obtain ⟨h1, h2⟩ := h
  rw [List.mem_range] at h1
  simp only [Array.getElem?_eq_getElem h1, Option.map_some, Option.getD_some, Bool.and_eq_true, Bool.not_eq_true'] at h2
  refine ⟨ops[i], Array.getElem?_eq_getElem h1, h2.1, fun e he hb => ?_⟩
  have h3 := h2.2
  rw [Array.all_eq_true'] at h3
  have := h3 e he
  rw [hb] at this
  simpa using this
theorem ready_none {listed : Array Bool} (hsz : listed.size = ops.size) (hdag : ∀ (i : Nat) (o : Oper), ops[i]? = some o → ∀ e ∈ o.after, e.on < i) (h : Region.ready md ops listed = []) : ∀ i, i < ops.size → listed.getD i false = true := by
  intro i
  induction i using Nat.strongRecOn with
  | _ i ih =>
    intro hi
    cases hl : listed.getD i false with
    | true => rfl
    | false =>
      exfalso
      have hm : i ∈ Region.ready md ops listed := by
        unfold Region.ready
        rw [List.mem_filter]
        refine ⟨List.mem_range.2 hi, ?_⟩
        have hlt : listed.getD i true = false := by
          have h' : i < listed.size := by omega
          simpa [Array.getD, h'] using hl
        simp only [Array.getElem?_eq_getElem hi, Option.map_some, Option.getD_some, hlt, Bool.not_false, Bool.true_and]
        rw [Array.all_eq_true']
        intro e he
        have := ih e.on (hdag i ops[i] (Array.getElem?_eq_getElem hi) e he) (by have := hdag i ops[i] (Array.getElem?_eq_getElem hi) e he; omega)
        rw [this]; simp
      rw [h] at hm
      cases hm

theorem wpAny_inv (I : Array Bool → Act → World → Prop)
    (hstep : ∀ listed a w i, I listed a w → i ∈ Region.ready md ops listed → wpOp P ops Q i (fun a' w' => I (listed.setIfInBounds i true) a' w') a w)
    (hend : ∀ listed a w, I listed a w → Region.ready md ops listed = [] → Q .normal a w) :
    ∀ (fuel : Nat) (listed : Array Bool) (a : Act) (w : World), unl listed ≤ fuel → I listed a w → wpAny P md ops Q fuel listed a w := by
  intro fuel
  induction fuel with
  | zero =>
    intro listed a w hu hI
    have hr : Region.ready md ops listed = [] := by
      rw [List.eq_nil_iff_forall_not_mem]
      intro i hi
      obtain ⟨o, _, h1, _⟩ := ready_mem hi
      rw [unl_zero listed (by omega) i] at h1
      cases h1
    exact ⟨hr, hend listed a w hI hr⟩
  | succ fuel ih =>
    intro listed a w hu hI
    refine ⟨fun hr => hend listed a w hI hr, fun i hi => ?_⟩
    refine wpOp_mono (fun a' w' hI' => ih _ a' w' ?_ hI') (hstep listed a w i hI hi)
    obtain ⟨o, _, h1, _⟩ := ready_mem hi
    have := unl_set listed i h1
    omega

/-- What holds in a region while its operations come up: outside its slots the frame is as it was, each slot that has been filled is good, and the world is as W says (by which ones have come up). -/
structure RgnInv (ops : Array Oper) (a0 : Act) (G : Nat → World → Value → Prop) (W : Array Bool → World → Prop) (listed : Array Bool) (a : Act) (w : World) : Prop where
  size : listed.size = ops.size
  defers : a.defers = a0.defers
  tsize : a.tmps.size = a0.tmps.size
  out : ∀ t, (ops.all fun o => o.dst != some t) = true → a.tmps.getD t undef = a0.tmps.getD t undef
  good : ∀ i o d, ops[i]? = some o → listed.getD i false = true → o.dst = some d → G d w (a.tmps.getD d undef)
  world : W listed w
  closed : ∀ (i : Nat) (o : Oper), ops[i]? = some o → listed.getD i false = true → ∀ e ∈ o.after, Region.binds .any e = true → listed.getD e.on false = true

theorem getD_set_self (xs : Array Value) (d : Nat) (v : Value) (h : d < xs.size) : (xs.setIfInBounds d v).getD d undef = v := by
  simp [Array.getD, h]
theorem getD_set_ne (xs : Array Value) (d t : Nat) (v : Value) (h : d ≠ t) : (xs.setIfInBounds d v).getD t undef = xs.getD t undef := by
  unfold Array.getD
  by_cases ht : t < xs.size
  · simp [ht, Array.getElem_setIfInBounds, h]
  · simp [ht]
theorem listed_set (listed : Array Bool) (i j : Nat) : (listed.setIfInBounds i true).getD j false = true → i = j ∨ listed.getD j false = true := by
  unfold Array.getD
  by_cases hj : j < listed.size
  · by_cases he : i = j
    · intro _; exact .inl he
    · simp [hj, Array.getElem_setIfInBounds, he]
  · simp [hj]

/-- One operation: its value is good, what was good stays good, the world is as it should be. -/
def OneOp (P : Program) (G : Nat → World → Value → Prop) (W : World → Prop) (o : Oper) (a : Act) (w : World) : Prop :=
  ∃ v w', ((execOp a.eval o).run P w = .ok (.value v) w' ∨ ((execOp a.eval o).run P w = .ok .skip w' ∧ v = undef)) ∧ (∀ d, o.dst = some d → G d w' v) ∧ (∀ d u, o.dst ≠ some d → G d w u → G d w' u) ∧ W w'

theorem listed_keep (listed : Array Bool) (i j : Nat) (h : listed.getD j false = true) : (listed.setIfInBounds i true).getD j false = true := by
  unfold Array.getD at *
  by_cases hj : j < listed.size
  · simp only [hj, dif_pos] at h
    by_cases he : i = j
    · simp [hj, he]
    · simp [hj, Array.getElem_setIfInBounds, he]; simpa using h
  · simp [hj] at h
theorem listed_other (listed : Array Bool) (i j : Nat) (h : i ≠ j) : (listed.setIfInBounds i true).getD j false = listed.getD j false := by
  unfold Array.getD
  by_cases hj : j < listed.size
  · simp [hj, Array.getElem_setIfInBounds, h]
  · simp [hj]
theorem listed_self (listed : Array Bool) (i : Nat) (h : i < listed.size) : (listed.setIfInBounds i true).getD i false = true := by
  simp [Array.getD, h]

theorem RgnInv.step {a0 : Act} {G : Nat → World → Value → Prop} {W : Array Bool → World → Prop} {listed : Array Bool} {a : Act} {w : World} {i : Nat} {o : Oper}
    (hI : RgnInv ops a0 G W listed a w) (hi : i ∈ Region.ready .any ops listed) (ho : ops[i]? = some o) (hg : o.guard = none)
    (hdst : ∀ (j : Nat) o' d, ops[j]? = some o' → o.dst = some d → o'.dst = some d → j = i) (hlt : ∀ d, o.dst = some d → d < a0.tmps.size)
    (h1 : OneOp P G (W (listed.setIfInBounds i true)) o a w) :
    wpOp P ops Q i (fun a' w' => RgnInv ops a0 G W (listed.setIfInBounds i true) a' w') a w := by
  obtain ⟨v, w', hr, hG, hst, hW⟩ := h1
  have hw : Region.wanted o (yielded ops a.tmps) = true := by simp [Region.wanted, hg]
  have hcl : ∀ (j : Nat) (o' : Oper), ops[j]? = some o' → (listed.setIfInBounds i true).getD j false = true → ∀ e ∈ o'.after, Region.binds .any e = true → (listed.setIfInBounds i true).getD e.on false = true := by
    intro j o' hj hl e he hb
    refine listed_keep _ _ _ ?_
    rcases listed_set _ _ _ hl with rfl | hl
    · obtain ⟨o2, ho2, _, h3⟩ := ready_mem hi
      rw [hj] at ho2; cases ho2
      exact h3 e he hb
    · exact hI.closed j o' hj hl e he hb
  have key : RgnInv ops a0 G W (listed.setIfInBounds i true) (a.put o.dst v) w' := by
    cases hd : o.dst with
    | none =>
      refine ⟨by simpa using hI.size, hI.defers, hI.tsize, hI.out, fun j o' d hj hl hd' => ?_, hW, hcl⟩
      rcases listed_set _ _ _ hl with rfl | hl
      · rw [hj] at ho; cases ho; rw [hd] at hd'; cases hd'
      · exact hst d _ (by rw [hd]; simp) (hI.good j o' d hj hl hd')
    | some d0 =>
      have hlt0 := hlt d0 hd
      refine ⟨by simpa using hI.size, hI.defers, by simpa [Act.put] using hI.tsize, fun t ht => ?_, fun j o' d hj hl hd' => ?_, hW, hcl⟩
      · show (a.tmps.setIfInBounds d0 v).getD t undef = _
        rw [getD_set_ne _ _ _ _ (fun e => ?_)]
        · exact hI.out t ht
        · subst e
          rw [Array.all_eq_true'] at ht
          have := ht o (Array.mem_of_getElem? ho)
          rw [hd] at this
          simp at this
      · show G d w' ((a.tmps.setIfInBounds d0 v).getD d undef)
        by_cases e : d0 = d
        · subst e
          rw [getD_set_self _ _ _ (by rw [hI.tsize]; exact hlt0)]
          exact hG d0 hd
        · rw [getD_set_ne _ _ _ _ e]
          rcases listed_set _ _ _ hl with rfl | hl
          · rw [hj] at ho; cases ho; rw [hd] at hd'; cases hd'; exact absurd rfl e
          · exact hst d _ (by rw [hd]; simpa using e) (hI.good j o' d hj hl hd')
  unfold wpOp
  rw [ho]
  simp only [hw, if_true]
  left
  unfold Oper.wp
  rcases hr with hr | ⟨hr, rfl⟩
  · rw [hr, Oper.upon_value]; exact key
  · rw [hr, Oper.upon_skip]; exact key

theorem RgnInv.start (a0 : Act) (G : Nat → World → Value → Prop) (W : Array Bool → World → Prop) (w : World) (h : W (Array.replicate ops.size false) w) : RgnInv ops a0 G W (Array.replicate ops.size false) a0 w := by
  have hf : ∀ i, (Array.replicate ops.size false).getD i false = false := by
    intro i
    unfold Array.getD
    split <;> simp
  refine ⟨by simp, rfl, rfl, fun _ _ => rfl, fun i o d _ hl _ => ?_, h, fun i o _ hl => ?_⟩
  · rw [hf i] at hl; cases hl
  · rw [hf i] at hl; cases hl
theorem unl_start (n : Nat) : unl (Array.replicate n false) ≤ n := by simp [unl]

/-- The region whole. -/
theorem wp_region_inv {id : Nat} {a0 : Act} {w : World} (G : Nat → World → Value → Prop) (W : Array Bool → World → Prop) (hm : P.follows .mixedOrders = true) (hW : W (Array.replicate ops.size false) w.drew)
    (hdag : (List.range ops.size).all (fun i => ((ops[i]?).map (fun o => o.after.all fun e => decide (e.on < i))).getD true) = true)
    (hdst : (List.range ops.size).all (fun i => ((ops[i]?).map (fun o => o.guard == none && (o.dst.map (fun d => decide (d < a0.tmps.size))).getD true && (List.range ops.size).all (fun j => decide (j = i) || ((ops[j]?).map (fun o' => o'.dst == none || o'.dst != o.dst)).getD true))).getD true) = true)
    (hstep : ∀ listed a w i o, RgnInv ops a0 G W listed a w → i ∈ Region.ready .any ops listed → ops[i]? = some o → OneOp P G (W (listed.setIfInBounds i true)) o a w)
    (hend : ∀ listed a w, RgnInv ops a0 G W listed a w → (∀ i, i < ops.size → listed.getD i false = true) → Q .normal a w) : (Code.region id ops true).wp P Q a0 w := by
  refine wp_region_any hm (wpAny_inv (md := .any) (RgnInv ops a0 G W) ?_ ?_ ops.size _ a0 w.drew (unl_start _) (RgnInv.start a0 G W _ hW))
  · intro listed a w i hI hi
    obtain ⟨o, ho, _, _⟩ := ready_mem hi
    have hlt : i < ops.size := (Array.getElem?_eq_some_iff.1 ho).1
    rw [List.all_eq_true] at hdst
    have h1 := hdst i (List.mem_range.2 hlt)
    simp only [ho, Option.map_some, Option.getD_some, Bool.and_eq_true] at h1
    refine hI.step hi ho (by simpa using h1.1.1) ?_ ?_ (hstep listed a w i o hI hi ho)
    · intro j o' d hj hd hd'
      have hlj : j < ops.size := (Array.getElem?_eq_some_iff.1 hj).1
      have h2 := h1.2
      rw [List.all_eq_true] at h2
      have h3 := h2 j (List.mem_range.2 hlj)
      simp only [hj, Option.map_some, Option.getD_some, hd, hd'] at h3
      simpa using h3
    · intro d hd
      have h2 := h1.1.2
      simp only [hd, Option.map_some, Option.getD_some] at h2
      simpa using h2
  · intro listed a w hI hr
    refine hend listed a w hI (ready_none hI.size (fun i o ho e he => ?_) hr)
    have hlt : i < ops.size := (Array.getElem?_eq_some_iff.1 ho).1
    rw [List.all_eq_true] at hdag
    have h1 := hdag i (List.mem_range.2 hlt)
    simp only [ho, Option.map_some, Option.getD_some] at h1
    rw [Array.all_eq_true'] at h1
    simpa using h1 e he

/-- What an operation that comes up waits for has come up. -/
theorem dep_of {listed : Array Bool} {i : Nat} (k : Nat) (hi : i ∈ Region.ready .any ops listed) (hc : ((ops[i]?).map (fun o => o.after.any fun e => decide (e.on = k) && Region.binds .any e)).getD false = true) : listed.getD k false = true := by
  obtain ⟨o, ho, _, h3⟩ := ready_mem hi
  simp only [ho, Option.map_some, Option.getD_some] at hc
  rw [Array.any_eq_true'] at hc
  obtain ⟨e, he, hb⟩ := hc
  simp only [Bool.and_eq_true, decide_eq_true_eq] at hb
  rw [← hb.1]
  exact h3 e he hb.2
theorem undone {a0 : Act} {G : Nat → World → Value → Prop} {W : Array Bool → World → Prop} {listed : Array Bool} {a : Act} {w : World} {i : Nat} (l : Nat) (hI : RgnInv ops a0 G W listed a w) (hi : i ∈ Region.ready .any ops listed)
    (hc : ((ops[l]?).map (fun o => o.after.any fun e => decide (e.on = i) && Region.binds .any e)).getD false = true) : listed.getD l false = false := by
  obtain ⟨o, ho, h2, _⟩ := ready_mem hi
  cases hl : listed.getD l false with
  | false => rfl
  | true =>
    exfalso
    cases ho' : ops[l]? with
    | none => rw [ho'] at hc; simp at hc
    | some ol =>
      simp only [ho', Option.map_some, Option.getD_some] at hc
      rw [Array.any_eq_true'] at hc
      obtain ⟨e, he, hb⟩ := hc
      simp only [Bool.and_eq_true, decide_eq_true_eq] at hb
      have := hI.closed l ol ho' hl e he hb.2
      rw [hb.1] at this
      have hlt : i < listed.size := by rw [hI.size]; exact (Array.getElem?_eq_some_iff.1 ho).1
      simp [Array.getD, hlt] at h2 this
      rw [h2] at this
      cases this
theorem RgnInv.went {a0 : Act} {G : Nat → World → Value → Prop} {W : Array Bool → World → Prop} {listed : Array Bool} {a : Act} {w : World} (hI : RgnInv ops a0 G W listed a w) (l i : Nat) (hl : listed.getD l false = true)
    (hc : ((ops[l]?).map (fun o => o.after.any fun e => decide (e.on = i) && Region.binds .any e)).getD false = true) : listed.getD i false = true := by
  cases ho' : ops[l]? with
  | none => rw [ho'] at hc; simp at hc
  | some ol =>
    simp only [ho', Option.map_some, Option.getD_some] at hc
    rw [Array.any_eq_true'] at hc
    obtain ⟨e, he, hb⟩ := hc
    simp only [Bool.and_eq_true, decide_eq_true_eq] at hb
    have := hI.closed l ol ho' hl e he hb.2
    rwa [hb.1] at this
theorem RgnInv.val {a0 : Act} {G : Nat → World → Value → Prop} {W : Array Bool → World → Prop} {listed : Array Bool} {a : Act} {w : World} (hI : RgnInv ops a0 G W listed a w) (k d : Nat) (hl : listed.getD k false = true) (hd : ((ops[k]?).bind (·.dst)) = some d) : G d w (a.eval (.tmp d)) := by
  cases ho : ops[k]? with
  | none => rw [ho] at hd; cases hd
  | some o => rw [ho] at hd; exact hI.good k o d ho hl hd
theorem RgnInv.old {a0 : Act} {G : Nat → World → Value → Prop} {W : Array Bool → World → Prop} {listed : Array Bool} {a : Act} {w : World} (hI : RgnInv ops a0 G W listed a w) (t : Nat) (ht : (ops.all fun o => o.dst != some t) = true) : a.eval (.tmp t) = a0.eval (.tmp t) := hI.out t ht
end
end Go.Proofs.YtpjjagalekolaaaGreatDoor

