/- VZ, VZ1, VZ2, WC: in one text. -/
import Derived.Test.YtpjjagalekolaaaGreatDoorP22
import Derived.Test.YtpjjagalekolaaaGreatDoorP25FJ
/- A script's course: the trees that come of its first operations. What lies in memory meanwhile. -/
namespace Go.Proofs.YtpjjagalekolaaaGreatDoor
open Go.RowKit
set_option linter.unusedVariables false
set_option linter.unusedSimpArgs false

inductive OpRow (w : World) : Value → List OpD → Prop
  | nil : OpRow w (.slice none 0 0) []
  | row (b off cap : Nat) (l : List OpD) (hb : b < w.heap.size) (h : OpsAt w b off l) : OpRow w (.slice (some ⟨b, off, none⟩) l.length cap) l
theorem OpRow.below {w w' : World} {v : Value} {l : List OpD} (h : OpRow w v l) {B : Nat} (hb : Below B w w') (hB : w.heap.size ≤ B) : OpRow w' v l := by
  cases h with
  | nil => exact .nil
  | row b off cap l hlt h => exact .row b off cap l (by have := hb.size; omega) (h.below hb (by omega))
theorem OpRow.val {w : World} {v : Value} {l : List OpD} (h : OpRow w v l) : ∃ a c, v = .slice a l.length c := by
  cases h with
  | nil => exact ⟨_, _, rfl⟩
  | row b off cap l hlt h => exact ⟨_, _, rfl⟩
theorem op_parts {w : World} {a : Option Addr} {n c : Nat} {l : List OpD} (h : OpRow w (.slice a n c) l) {k : Nat} (hk : k < l.length) : ∃ b off, a = some ⟨b, off, none⟩ ∧ n = l.length ∧ b < w.heap.size ∧ OpsAt w b off l := by
  generalize hv : Value.slice a n c = v at h
  cases h with
  | nil => simp at hk
  | row b off cap l hlb h =>
    simp only [Value.slice.injEq] at hv
    exact ⟨b, off, hv.1, hv.2.1, hlb, h⟩

theorem treesCheckF {w : World} {v : Value} {L : List EntD} (fold : Bool) (hr : RowAt w v L) (hs : SmallL L) :
    Calls Tryz.prog 56 #[v, .bool fold] w fun e w' => ∃ c k : Int, e = .returned (.tuple #[.int .i64 c, .int .i64 k]) ∧ (c == 0) = treeF fold L ∧ Below w.heap.size w w' := by
  cases hr with
  | nil =>
    cases fold
    · exact (treesCheck_nil w).mono (by rintro e w' ⟨rfl, rfl⟩; exact ⟨_, _, rfl, rfl, Below.refl _ _⟩)
    · exact (treesCheckT_nil w).mono (by rintro e w' ⟨rfl, rfl⟩; exact ⟨_, _, rfl, rfl, Below.refl _ _⟩)
  | row b off cap l hlb hc hm h =>
    cases fold
    · exact (treesCheck_any b off cap L w hs.1 hc hs.2 hlb h).mono (by rintro e w' ⟨rfl, hb⟩; exact ⟨_, _, rfl, rfl, hb⟩)
    · exact (treesCheckT_any b off cap L w hs.1 hc hs.2 hlb h).mono (by rintro e w' ⟨rfl, hb⟩; exact ⟨_, _, rfl, rfl, hb⟩)
theorem own_block {u : World} {B T s n : Nat} {v : Value} {xs : List Value} (h : u.ownsRow B T s v n xs) {g : Nat} (hg : v.ownBlock = some g) : ∃ cs, u.heap[g]? = some (.cells cs T (0, 0)) := by
  rcases h.2 with ⟨rfl, _⟩ | ⟨g', cap, cur, rfl, _, hgg, _⟩
  · simp [Value.ownBlock] at hg
  · simp [Value.ownBlock] at hg
    subst hg
    exact ⟨cur, hgg⟩
theorem own_keep2 {u u' : World} {B1 T1 s1 n1 B2 T2 s2 n2 : Nat} {v1 v2 : Value} {x1 x2 : List Value} (h : u.ownsRow B1 T1 s1 v1 n1 x1) (k : u.ownsRow B2 T2 s2 v2 n2 x2) (hne : T1 ≠ T2) (hg : u.grownBy u' v2.ownBlock) : u'.ownsRow B1 T1 s1 v1 n1 x1 := by
  refine h.kept hg ?_
  cases hb : v1.ownBlock with
  | none => exact .inl rfl
  | some g =>
    refine .inr (fun e => ?_)
    obtain ⟨c1, h1⟩ := own_block h hb
    obtain ⟨c2, h2⟩ := own_block k e.symm
    rw [h1] at h2
    simp only [Option.some.injEq, Obj.cells.injEq] at h2
    exact hne h2.2.1
theorem own_vk {u u' : World} {B1 T1 s1 n1 vb T : Nat} {v1 v : Value} {x1 : List Value} {fold : Bool} {space : Int} {rest : List Value} (h : u.ownsRow B1 T1 s1 v1 n1 x1) (k : Vk T u vb v fold space rest) (hne : T1 ≠ T) (hg : u.grownBy u' (some vb)) : u'.ownsRow B1 T1 s1 v1 n1 x1 := by
  refine h.kept hg ?_
  cases hb : v1.ownBlock with
  | none => exact .inl rfl
  | some g =>
    refine .inr (fun e => ?_)
    obtain ⟨c1, h1⟩ := own_block h hb
    cases e
    unfold Vk at k
    rw [h1] at k
    simp only [Option.some.injEq, Obj.cells.injEq] at k
    exact hne k.2.1
theorem vk_own {u u' : World} {B2 T2 s2 n2 vb T : Nat} {v2 v : Value} {x2 : List Value} {fold : Bool} {space : Int} {rest : List Value} (k : Vk T u vb v fold space rest) (h : u.ownsRow B2 T2 s2 v2 n2 x2) (hne : T ≠ T2) (hg : u.grownBy u' v2.ownBlock) : Vk T u' vb v fold space rest := by
  unfold Vk
  rw [hg.block vb k.lt (fun e => ?_)]
  · exact k
  · obtain ⟨c2, h2⟩ := own_block h e.symm
    unfold Vk at k
    rw [h2] at k
    simp only [Option.some.injEq, Obj.cells.injEq] at k
    exact hne k.2.1.symm

/-- The trees so far, in memory. -/
structure WaySt (w0 : World) (vb : Nat) (fold : Bool) (u : World) (wv : Value) (vs : List Value) (Ls : List (List EntD)) (v : Value) (Lk : List EntD) : Prop where
  bel : Below w0.heap.size w0 u
  vbge : w0.heap.size ≤ vb
  vol : Vk 85 u vb v fold 9223372036854775807 [.string ⟨#[]⟩]
  way : u.ownsRow w0.heap.size 22 1 wv vs.length vs
  len : vs.length = Ls.length
  rows : ∀ (j : Nat) (h : j < vs.length) (h' : j < Ls.length), RowAt w0 vs[j] Ls[j] ∨ u.ownsRow w0.heap.size 56 5 vs[j] Ls[j].length (flatE Ls[j])
  cur : RowAt w0 v Lk ∨ u.ownsRow w0.heap.size 56 5 v Lk.length (flatE Lk)
theorem row_of {w0 u : World} {v : Value} {L : List EntD} (hb : Below w0.heap.size w0 u) (h : RowAt w0 v L ∨ u.ownsRow w0.heap.size 56 5 v L.length (flatE L)) : RowAt u v L := by
  rcases h with h | h
  · exact h.below hb (Nat.le_refl _)
  · exact RowAt.ofOwn h
theorem WaySt.below {w0 : World} {vb : Nat} {fold : Bool} {u u' : World} {wv v : Value} {vs : List Value} {Ls : List (List EntD)} {Lk : List EntD} (h : WaySt w0 vb fold u wv vs Ls v Lk) (hb : Below u.heap.size u u') : WaySt w0 vb fold u' wv vs Ls v Lk :=
  ⟨h.bel.trans (hb.mono h.bel.size), h.vbge, h.vol.below hb h.vol.lt, own_below hb h.way, h.len, fun j h1 h2 => (h.rows j h1 h2).imp id (own_below hb), h.cur.imp id (own_below hb)⟩
/-- An operation is done. -/
theorem WaySt.did {w0 : World} {vb : Nat} {fold : Bool} {u u' : World} {wv v v' : Value} {vs : List Value} {Ls : List (List EntD)} {Lk M : List EntD} (h : WaySt w0 vb fold u wv vs Ls v Lk) (hk : Vk 85 u' vb v' fold 9223372036854775807 [.string ⟨#[]⟩]) (ho : u'.ownsRow u.heap.size 56 5 v' M.length (flatE M)) (hg : u.grownBy u' (some vb)) : WaySt w0 vb fold u' wv vs Ls v' M where
  bel := h.bel.grown hg h.bel.size (fun q hq => by cases hq; exact h.vbge)
  vbge := h.vbge
  vol := hk
  way := own_vk h.way h.vol (by decide) hg
  len := h.len
  rows := fun j h1 h2 => (h.rows j h1 h2).imp id (fun o => own_vk o h.vol (by decide) hg)
  cur := .inr (own_mono ho h.bel.size)
/-- .. and its tree is put behind the others. -/
theorem WaySt.put {w0 : World} {vb : Nat} {fold : Bool} {u u' : World} {wv v wv' : Value} {vs : List Value} {Ls : List (List EntD)} {Lk : List EntD} (h : WaySt w0 vb fold u wv vs Ls v Lk) (ho : u'.ownsRow w0.heap.size 22 1 wv' (vs.length + 1) (vs ++ [v])) (hg : u.grownBy u' wv.ownBlock) : WaySt w0 vb fold u' wv' (vs ++ [v]) (Ls ++ [Lk]) v Lk where
  bel := h.bel.grown hg h.bel.size (fun q hq => (h.way.lt q hq).1)
  vbge := h.vbge
  vol := vk_own h.vol h.way (by decide) hg
  way := by rw [List.length_append]; exact ho
  len := by simp [h.len]
  rows := fun j h1 h2 => by
    have hcur : RowAt w0 v Lk ∨ u'.ownsRow w0.heap.size 56 5 v Lk.length (flatE Lk) := h.cur.imp id (fun o => own_keep2 o h.way (by decide) hg)
    by_cases hj : j < vs.length
    · rw [List.getElem_append_left hj, List.getElem_append_left (by rw [← h.len]; exact hj)]
      exact (h.rows j hj (by rw [← h.len]; exact hj)).imp id (fun o => own_keep2 o h.way (by decide) hg)
    · have e1 : j = vs.length := by simp at h1; omega
      subst e1
      rw [List.getElem_append_right (Nat.le_refl _), List.getElem_append_right (by rw [← h.len]; exact Nat.le_refl _)]
      simp only [h.len, Nat.sub_self, List.getElem_cons_zero]
      exact hcur
  cur := h.cur.imp id (fun o => own_keep2 o h.way (by decide) hg)

theorem try_step {fold : Bool} {space : Int} {L : List EntD} {need : Int} {l : List OpD} {k : Nat} (h : k < l.length) : tryL fold space L need (l.drop k) k = match doL fold space L l[k] with | .error c => .error (c, k) | .ok L' => tryL fold space L' (max need (usedL L')) (l.drop (k + 1)) (k + 1) := by
  rw [List.drop_eq_getElem_cons h, tryL]
  cases doL fold space L l[k] <;> rfl

/-- What Try comes to, said plainly: the error and its place; or the tree and the need. -/
def tryP (fold : Bool) (space : Int) (L : List EntD) (l : List OpD) : Except (Int × Int) (List EntD × Int) :=
  if treeF fold L = false then .error (4, 0)
  else if (fwrong l 0).2 = true then .error (18, (fwrong l 0).1)
  else match tryL fold space L (usedL L) l 0 with
    | .error (c, k) => .error (c, (k : Int))
    | .ok x => .ok x
theorem script_good {l : List OpD} (h : (fwrong l 0).2 = false) : l.length ≤ 400 ∧ ∀ o ∈ l, okOp o = true := by
  rw [fwrong_scriptB] at h
  simp only [scriptB, Bool.not_eq_false', Bool.and_eq_true, decide_eq_true_eq, List.all_eq_true] at h
  exact h
theorem do_err {fold : Bool} {space : Int} {L : List EntD} {o : OpD} {n : Int} (h : doL fold space L o = .error n) : n ≠ 0 := by
  have mk : ∀ e n, mkL fold space L e = .error n → n ≠ 0 := by
    intro e n h
    unfold mkL at h
    split at h
    · cases h; decide
    · split at h
      · cases h; decide
      · split at h
        · cases h; decide
        · split at h
          · cases h; decide
          · split at h
            · cases h; decide
            · cases h
  unfold doL at h
  split at h
  · exact mk _ _ h
  · split at h
    · exact mk _ _ h
    · split at h
      · cases h; decide
      · split at h
        · cases h
        · split at h
          · unfold renL at h
            split at h
            · cases h; decide
            · split at h
              · cases h; decide
              · split at h
                · cases h; decide
                · split at h
                  · cases h; decide
                  · cases h
          · split at h
            · cases h; decide
            · split at h
              · exact mk _ _ h
              · split at h
                · cases h; decide
                · cases h
end Go.Proofs.YtpjjagalekolaaaGreatDoor

/- A script's course: the trees that come of its first operations. -/
namespace Go.Proofs.YtpjjagalekolaaaGreatDoor
open Go.RowKit
set_option linter.unusedVariables false
set_option linter.unusedSimpArgs false

theorem WaySt.start {w w2 : World} {sv : Value} {L : List EntD} {fold : Bool} (hr : RowAt w sv L) (hb : Below w.heap.size w w2) :
    WaySt w w2.heap.size fold ((w2.alloc (.cells #[sv, .bool fold, .int .i64 9223372036854775807, .string ⟨#[]⟩] 85)).alloc (.cells #[sv] 22)) (.slice (some ⟨w2.heap.size + 1, 0, none⟩) 1 1) [sv] [L] sv L where
  bel := (hb.alloc hb.size _).alloc (by have := hb.size; simp; omega) _
  vbge := hb.size
  vol := by
    unfold Vk
    exact ((World.grownBy_alloc _ _ none).block _ (by simp) (by simp)).trans (heap_alloc_new w2 _)
  way := by
    have := World.ownsRow_lit (base := w.heap.size) (e := 22) (size := 1) (w2.alloc (.cells #[sv, .bool fold, .int .i64 9223372036854775807, .string ⟨#[]⟩] 85)) #[sv] 1 (by have := hb.size; simp; omega) (by unfold maxLen; omega) rfl
    simpa using this
  len := rfl
  rows := fun j h1 h2 => by
    obtain rfl : j = 0 := by simp at h1; omega
    exact .inl hr
  cur := .inl hr

end Go.Proofs.YtpjjagalekolaaaGreatDoor

/- The program's Try. -/
namespace Go.Proofs.YtpjjagalekolaaaGreatDoor
open Go.RowKit
set_option linter.unusedVariables false
set_option linter.unusedSimpArgs false

theorem results_tmp4 {fn : Func} {t u v x : Tmp} (h : fn.results = #[.tmp t, .tmp u, .tmp v, .tmp x]) (tmps : Array Value) (P : Program) (w : World) :
    (results fn tmps).run P w = .ok (.tuple #[tmps.getD t undef, tmps.getD u undef, tmps.getD v undef, tmps.getD x undef]) w := by
  simp [results, h]

end Go.Proofs.YtpjjagalekolaaaGreatDoor

/- Work, said plainly: the trees of the way, and what carrying a script out comes to. -/
namespace Go.Proofs.YtpjjagalekolaaaGreatDoor
open Go.RowKit
set_option linter.unusedVariables false
set_option linter.unusedSimpArgs false

/-- The tree behind the first k operations, where space never lacks. -/
def wayT (fold : Bool) (S : List EntD) (l : List OpD) : Nat → List EntD
  | 0 => S
  | k + 1 => match l[k]? with
    | none => wayT fold S l k
    | some o => match doL fold 9223372036854775807 (wayT fold S l k) o with
      | .ok M => M
      | .error _ => wayT fold S l k
end Go.Proofs.YtpjjagalekolaaaGreatDoor

