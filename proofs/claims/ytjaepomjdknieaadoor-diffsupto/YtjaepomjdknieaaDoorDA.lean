/- Plain laws of append on rows that bear one mark everywhere: what is appended, and what such rows stay. No program in this text. -/
import Derived.WalkKit
import Derived.Laws.AppendOwn
namespace Go.Proofs.YtjaepomjdknieaaDoor
open Go.RowKit
set_option linter.unusedVariables false
set_option linter.unusedSimpArgs false

/-- One mark, so many times. -/
def repC (mc : List Value) (n : Nat) : List Value := (List.replicate n mc).flatten
theorem repC_succ (mc : List Value) (n : Nat) : repC mc (n + 1) = mc ++ repC mc n := by simp [repC, List.replicate_succ]
theorem repC_len (mc : List Value) (n : Nat) : (repC mc n).length = n * mc.length := by simp [repC]
theorem repC_add (mc : List Value) (n m : Nat) : repC mc n ++ repC mc m = repC mc (n + m) := by
  induction n with
  | zero => simp [repC]
  | succ n ih => rw [repC_succ, List.append_assoc, ih, ← repC_succ, show n + 1 + m = n + m + 1 by omega]
theorem repC_get (mc : List Value) (n : Nat) : ∀ j, j < n * mc.length → (repC mc n)[j]? = mc[j % mc.length]? := by
  induction n with
  | zero => intro j hj; simp at hj
  | succ n ih =>
    intro j hj
    rw [repC_succ]
    by_cases h : j < mc.length
    · rw [List.getElem?_append_left h, Nat.mod_eq_of_lt h]
    · rw [List.getElem?_append_right (by omega), ih (j - mc.length) (by rw [Nat.add_mul] at hj; omega)]
      congr 1
      rw [Nat.mod_eq_sub_mod (by omega : mc.length ≤ j)]
theorem repC_one {mc : List Value} (h : ∀ u ∈ mc, u.oneCell' = true) (n : Nat) : ∀ u ∈ repC mc n, u.oneCell' = true := by
  intro u hu
  simp only [repC, List.mem_flatten, List.mem_replicate] at hu
  obtain ⟨c, ⟨_, rfl⟩, hu⟩ := hu
  exact h u hu

theorem rep_put (mc : List Value) (hs : 0 < mc.length) (cur : List Value) (n m p : Nat) (hn : cur.take (n * mc.length) = repC mc n) (hfit : n * mc.length + m * mc.length ≤ cur.length) (hp : cur.take (p * mc.length) = repC mc p) :
    (cur.take (n * mc.length) ++ repC mc m ++ cur.drop (n * mc.length + m * mc.length)).take (p * mc.length) = repC mc p := by
  have hpl : p * mc.length ≤ cur.length := by
    have := congrArg List.length hp
    rw [List.length_take, repC_len] at this
    omega
  refine List.ext_getElem? fun j => ?_
  rw [List.getElem?_take]
  split
  · next hj =>
    rw [repC_get mc p j hj]
    have hcur : cur[j]? = mc[j % mc.length]? := by
      have := congrArg (fun l => l[j]?) hp
      simp only [List.getElem?_take, if_pos hj] at this
      rw [this, repC_get mc p j hj]
    rw [hn]
    by_cases h1 : j < n * mc.length
    · rw [List.getElem?_append_left (by simp [repC_len]; omega), List.getElem?_append_left (by rw [repC_len]; exact h1), repC_get mc n j h1]
    · by_cases h2 : j < n * mc.length + m * mc.length
      · rw [List.getElem?_append_left (by simp [repC_len]; omega), List.getElem?_append_right (by rw [repC_len]; omega), repC_len, repC_get mc m _ (by omega)]
        congr 1
        have e : j = (j - n * mc.length) + mc.length * n := by rw [Nat.mul_comm mc.length n]; omega
        conv => rhs; rw [e, Nat.add_mul_mod_self_left]
      · rw [List.getElem?_append_right (by simp [repC_len]; omega)]
        simp only [List.length_append, repC_len]
        rw [List.getElem?_drop, show n * mc.length + m * mc.length + (j - (n * mc.length + m * mc.length)) = j by omega]
        exact hcur
  · next hj =>
    rw [List.getElem?_eq_none (by rw [repC_len]; omega)]

section
variable {P : Program} (w : World)
theorem run_append_rep (base : Nat) (t ty e : TypeId) (i : TypeInfo) (z : Value) (size bytes : Nat) (ht : P.underlying t = some (.slice e)) (hi : P.info? e = some i) (hz : i.zero = some z)
    (hsize : i.size = size) (hby : i.bytes = bytes) (hzs : z.cells.size = size) (hsz : 0 < size)
    (mc : List Value) (hmc : mc.length = size) (v : Value) (n : Nat) (hown : w.ownsRow base e size v n (repC mc n))
    (a : Addr) (m c : Nat) (hnews : ∀ j u, (repC mc m)[j]? = some u → w.cell? (a.add j) = some u) (h1 : ∀ u ∈ mc, u.oneCell' = true)
    (h63 : n + m ≤ maxLen) (hbytes : (n + m) * bytes ≤ 140737488355328) (hbase : base ≤ w.heap.size) :
    ∃ v' w', (Builtin.append_ #[t, t] ty #[v, .slice (some a) m c]).run P w = .ok v' w' ∧ w'.ownsRow base e size v' (n + m) (repC mc (n + m)) ∧ w.grownBy w' v.ownBlock ∧
      (∀ b u p, w.ownsRow b e size u p (repC mc p) → w'.ownsRow b e size u p (repC mc p)) := by
  subst hmc
  subst hby
  have hl : (repC mc m).length = m * mc.length := repC_len mc m
  have h1' := repC_one h1 m
  have hsmall : n + m ≤ 9223372036854775807 := by simp only [maxLen] at h63; omega
  have hlen : (repC mc (n + m)).length = (n + m) * mc.length := repC_len mc (n + m)
  have grown : ∀ (old : Nat), old < n + m → ∀ (row : Option Nat),
      (w.drew.alloc (.cells ((repC mc n).toArray ++ (repC mc m).toArray ++ Builtin.zeroCells z.cells (grownCap w (n + m) old e - (n + m))) e)).ownsRow base e mc.length
        (.slice (some ⟨w.heap.size, 0, none⟩) (n + m) (grownCap w (n + m) old e)) (n + m) (repC mc (n + m)) ∧
      w.grownBy (w.drew.alloc (.cells ((repC mc n).toArray ++ (repC mc m).toArray ++ Builtin.zeroCells z.cells (grownCap w (n + m) old e - (n + m))) e)) row := by
    intro old ho row
    have hge := grownCap_ge w (n + m) old e
    have hcm : grownCap w (n + m) old e ≤ maxLen := grownCap_le_maxLen w (n + m) old e h63
    refine ⟨⟨hlen, .inr ⟨w.heap.size, _, _, rfl, hbase, heap_alloc_new w.drew _, hge, hcm, ?_, ?_⟩⟩, ⟨rfl, rfl, rfl, by simp, fun k hk _ => (World.grownBy_alloc w.drew _ none).block k hk (by simp)⟩⟩
    · simp only [Array.size_append, List.size_toArray, size_zeroCells, hzs, repC_len, ← Nat.add_mul]
      congr 1
      omega
    · simp only [Array.toList_append]
      rw [repC_add, ← hlen]
      exact List.take_left
  have stays : ∀ w' : World, w.grownBy w' none → ∀ b u p, w.ownsRow b e mc.length u p (repC mc p) → w'.ownsRow b e mc.length u p (repC mc p) := by
    intro w' hg b u p h
    exact h.kept hg (by cases hv : u.ownBlock <;> simp)
  rcases hown.2 with ⟨rfl, rfl⟩ | ⟨g, cap, cur, rfl, hbg, hg, hnc, hcm, hcs, htake⟩
  · by_cases hm : m = 0
    · subst hm
      refine ⟨.slice none 0 0, w, ?_, World.ownsRow_nil w base e mc.length, ⟨rfl, rfl, rfl, Nat.le_refl _, fun _ _ _ => rfl⟩, fun _ _ _ h => h⟩
      simp [Builtin.append_, run_underlying ht, sizeOf, typeInfo, hi, Builtin.lenOf, Builtin.firstCells, loadCells, loadCellsFrom]
    · have hr := run_append_nil (P := P) w t ty e i z ht hi hz a m c (repC mc m) (by rw [hsize]; exact hl) hnews (by omega) (by omega) (by have hb := hbytes; simp only [Nat.zero_add] at hb; omega)
      have hgr := grown 0 (by omega) none
      have e0 : (repC mc 0).toArray = #[] := rfl
      rw [e0] at hgr
      simp only [Nat.zero_add, Array.empty_append] at hgr ⊢
      exact ⟨_, _, hr, hgr.1, hgr.2, stays _ hgr.2⟩
  · by_cases hroom : n + m ≤ cap
    · have hfit : n * i.size + (repC mc m).length ≤ cur.size := by rw [hl, hcs, hsize, ← Nat.add_mul]; exact Nat.mul_le_mul_right _ hroom
      have hr := run_append_room (P := P) w t ty e i ht hi g n cap cur hg a m c (repC mc m) (by rw [hsize]; exact hl) hnews h1' hroom hfit
      have hput : ∀ p, cur.toList.take (p * mc.length) = repC mc p → (cur.toList.take (n * i.size) ++ repC mc m ++ cur.toList.drop (n * i.size + (repC mc m).length)).take (p * mc.length) = repC mc p := by
        intro p hp
        rw [hsize, hl]
        exact rep_put mc hsz cur.toList n m p htake (by rw [hsize, hl] at hfit; simpa using hfit) hp
      have hsz' : (cur.toList.take (n * i.size) ++ repC mc m ++ cur.toList.drop (n * i.size + (repC mc m).length)).toArray.size = cap * mc.length := by
        simp only [List.size_toArray, List.length_append, List.length_take, List.length_drop, Array.length_toList]
        omega
      refine ⟨_, _, hr, ⟨hlen, .inr ⟨g, cap, _, rfl, hbg, setRow_heap w g cur _ e _ hg, hroom, hcm, hsz', ?_⟩⟩, ⟨rfl, rfl, rfl, by simp, fun k _ hk => setRow_other w g k _ (fun e => hk (by simp [Value.ownBlock, e]))⟩, ?_⟩
      · show (cur.toList.take (n * i.size) ++ repC mc m ++ cur.toList.drop (n * i.size + (repC mc m).length)).take ((n + m) * mc.length) = repC mc (n + m)
        rw [hsize, htake, repC_add, ← hlen]
        exact List.take_left
      · intro b u p h
        rcases h.2 with hn | ⟨g', cap', cur', rfl, hb', hg', hn', hc', hs', ht'⟩
        · exact ⟨h.1, .inl hn⟩
        · by_cases he : g' = g
          · subst he
            have : cur' = cur := by
              have := hg'.symm.trans hg
              simpa using this
            subst this
            refine ⟨h.1, .inr ⟨g', cap', _, rfl, hb', setRow_heap w g' cur' _ e _ hg, hn', hc', ?_, hput p ht'⟩⟩
            rw [hsz', ← hcs, hs']
          · refine ⟨h.1, .inr ⟨g', cap', cur', rfl, hb', (setRow_other w g g' _ (fun e => he e)).trans hg', hn', hc', hs', ht'⟩⟩
    · have holds : ∀ j u, (repC mc n)[j]? = some u → w.cell? ((⟨g, 0, none⟩ : Addr).add j) = some u := hown.cells (g := g) rfl
      have hr := run_append_grow (P := P) w t ty e i z ht hi hz ⟨g, 0, none⟩ n cap (repC mc n) (by rw [hsize]; exact hown.1) holds a m c (repC mc m) (by rw [hsize]; exact hl) hnews (by omega) (by omega) (growslice_fits (by omega) hbytes)
      have hgr := grown cap (by omega) none
      exact ⟨_, _, hr, hgr.1, ⟨hgr.2.os, hgr.2.tape, hgr.2.output, hgr.2.size, fun k hk _ => hgr.2.block k hk (by simp)⟩, stays _ hgr.2⟩

theorem wpList_append_rep {ops : Array Oper} {rest : List Oper} {o : Oper} {a : Act} {Q : Exit → Act → World → Prop} (hgd : o.guard = none) (s x : Operand) (t : TypeId)
    (ho : o.op = .call { callee := .builtin .append, args := #[s, x], argTypes := #[t, t] })
    (base : Nat) (e : TypeId) (i : TypeInfo) (z : Value) (size bytes : Nat) (ht : P.underlying t = some (.slice e)) (hi : P.info? e = some i) (hz : i.zero = some z)
    (hsize : i.size = size) (hby : i.bytes = bytes) (hzs : z.cells.size = size) (hsz : 0 < size)
    (mc : List Value) (hmc : mc.length = size) (v : Value) (n : Nat) (hs : a.eval s = v) (hown : w.ownsRow base e size v n (repC mc n))
    (ad : Addr) (m c : Nat) (hx : a.eval x = .slice (some ad) m c) (hnews : ∀ j u, (repC mc m)[j]? = some u → w.cell? (ad.add j) = some u) (h1 : ∀ u ∈ mc, u.oneCell' = true)
    (h63 : n + m ≤ maxLen) (hbytes : (n + m) * bytes ≤ 140737488355328) (hbase : base ≤ w.heap.size)
    (h : ∀ v' w', w'.ownsRow base e size v' (n + m) (repC mc (n + m)) → w.grownBy w' v.ownBlock → (∀ b u p, w.ownsRow b e size u p (repC mc p) → w'.ownsRow b e size u p (repC mc p)) → wpList P ops Q rest (a.put o.dst v') w') : wpList P ops Q (o :: rest) a w :=
  wpList_plain hgd fun _ hK => by
    obtain ⟨v', w', hr, h2, h3, h4⟩ := run_append_rep (P := P) w base t o.type e i z size bytes ht hi hz hsize hby hzs hsz mc hmc v n hown ad m c hnews h1 h63 hbytes hbase
    unfold Oper.wp execOp
    simp only [ho, resolve, invoke, builtin, Sem.run_bind, Sem.run_pure, Result.andThen_ok, List.map_toArray, List.map_cons, List.map_nil, hs, hx, hr]
    exact hK _ _ (h v' w' h2 h3 h4)
end
end Go.Proofs.YtjaepomjdknieaaDoor
