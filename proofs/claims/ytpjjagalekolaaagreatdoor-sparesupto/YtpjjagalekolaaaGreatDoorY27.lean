/- VY, VZ, VZ1, VZ2, WC: in one text. -/
import Derived.Test.YtpjjagalekolaaaGreatDoorY26
import Derived.Test.YtpjjagalekolaaaGreatDoorY22
import Derived.Test.YtpjjagalekolaaaGreatDoorY16FJ
/- A volume in memory: an operation done. -/
namespace Go.Proofs.YtpjjagalekolaaaGreatDoor
open Go.RowKit
set_option linter.unusedVariables false
set_option linter.unusedSimpArgs false

/-- A volume's own block, whole: its entries, whether it folds, its space, and the rest. -/
def Vk (T : TypeId) (w : World) (vb : Nat) (v : Value) (fold : Bool) (space : Int) (rest : List Value) : Prop :=
  w.heap[vb]? = some (.cells (v :: .bool fold :: .int .i64 space :: rest).toArray T (0, 0))
theorem Vk.lt {T : TypeId} {w : World} {vb : Nat} {v : Value} {fold : Bool} {space : Int} {rest : List Value} (h : Vk T w vb v fold space rest) : vb < w.heap.size := (Array.getElem?_eq_some_iff.1 h).1
theorem Vk.vol {T : TypeId} {w : World} {vb : Nat} {v : Value} {fold : Bool} {space : Int} {rest : List Value} (h : Vk T w vb v fold space rest) : VolAt w vb v fold space where
  c0 := by rw [Lib.cell_of_heap h]; rfl
  c1 := by rw [Lib.cell_of_heap h]; rfl
  c2 := by rw [Lib.cell_of_heap h]; rfl
  lt := h.lt
theorem Vk.frozen {T : TypeId} {w : World} {vb : Nat} {v : Value} {fold : Bool} {space : Int} {rest : List Value} (h : Vk T w vb v fold space rest) (j : Nat) : w.frozen? ⟨vb, j, none⟩ = false := frozen_of_row w vb j _ T h
theorem Vk.below {T : TypeId} {w w' : World} {vb : Nat} {v : Value} {fold : Bool} {space : Int} {rest : List Value} (h : Vk T w vb v fold space rest) {B : Nat} (hb : Below B w w') (hB : vb < B) : Vk T w' vb v fold space rest := (hb.block vb hB).trans h
theorem Vk.set {T : TypeId} {w : World} {vb : Nat} {v : Value} {fold : Bool} {space : Int} {rest : List Value} (h : Vk T w vb v fold space rest) (v' : Value) : Vk T (w.setCell ⟨vb, 0, none⟩ v') vb v' fold space rest ∧ w.grownBy (w.setCell ⟨vb, 0, none⟩ v') (some vb) := by
  constructor
  · have := heap_setCell_same w vb 0 _ T v' h
    rw [Vk, this]; simp
  · exact ⟨rfl, rfl, rfl, by simp, fun k _ hk => heap_setCell_other w ⟨vb, 0, none⟩ k v' (fun e => hk (by simp [e]))⟩

/-- What Do answers: an error, and all is as it was; or nothing, and the volume has these entries. -/
def DoA (T : TypeId) (w : World) (vb : Nat) (fold : Bool) (space : Int) (rest : List Value) (x : Except Int (List EntD)) (r : Ending) (w' : World) : Prop :=
  match x with
  | .error n => r = .returned (.int .i64 n) ∧ Below w.heap.size w w'
  | .ok M => r = .returned (.int .i64 0) ∧ ∃ v', Vk T w' vb v' fold space rest ∧ w'.ownsRow w.heap.size 56 5 v' M.length (flatE M) ∧ w.grownBy w' (some vb)

theorem grown_of {w u u' : World} {vb : Nat} (hb : Below w.heap.size w u) (hg : u.grownBy u' (some vb)) : w.grownBy u' (some vb) :=
  ⟨hg.os.trans hb.os, hg.tape.trans hb.tape, hg.output.trans hb.output, Nat.le_trans hb.size hg.size, fun k hk hne => (hg.block k (Nat.lt_of_lt_of_le hk hb.size) hne).trans (hb.block k hk)⟩

/-- Every operation's own function, against doL. -/
theorem vops {w : World} {vb : Nat} {v : Value} {L : List EntD} {fold : Bool} {space : Int} (V : Vm w vb v L fold space) (K : VolOk fold L) (o : OpD) (ho : o.small) (hg : OpGood o) :
    Calls Tryz.prog (fnOf o.kind) #[.pointer (some ⟨vb, 0, none⟩), o.val] w fun r w' => Ans w.heap.size (doL fold space L o) r w' ∧ Below w.heap.size w w' := by
  have hk := hg.kinds
  by_cases h6 : o.kind = 6
  · have e1 : fnOf o.kind = 127 := by rw [h6]; rfl
    have e2 : doL fold space L o = match L[atI fold L o.pl]? with | none => .error 9 | some e => renL fold L e o.tl := by
      unfold doL
      rw [if_neg (by omega), if_neg (by omega)]
      cases L[atI fold L o.pl]? with
      | none => rfl
      | some e => simp only; rw [if_neg (by omega), if_pos h6]
    rw [e1, e2]
    exact vrename V K o ho (hg.dest (.inr h6))
  · refine vop V K o ho hg _ ?_
    have hK : o.kind = 1 ∨ o.kind = 2 ∨ o.kind = 3 ∨ o.kind = 4 ∨ o.kind = 5 ∨ o.kind = 7 := by omega
    rcases hK with h | h | h | h | h | h <;> rw [h] <;> simp [fnOf]

set_option maxHeartbeats 4000000 in
set_option maxRecDepth 100000 in
theorem vDo_of {w : World} {vb : Nat} {v : Value} {fold : Bool} {space : Int} {rest : List Value} (hv : Vk 85 w vb v fold space rest) (kind : Int) (path dest : ByteArray) (id size mode : Int) (x : Except Int (List EntD))
    (H1 : ∀ u : World, Below w.heap.size w u → Calls Tryz.prog 74 #[.agg #[.int .i64 kind, .string path, .string dest, .int .i64 id, .int .i64 size, .int .i64 mode]] u fun e w' => e = .returned (.bool true) ∧ Below u.heap.size u w')
    (H2 : ∀ u : World, Below w.heap.size w u → Calls Tryz.prog 75 #[.pointer (some ⟨vb, 0, none⟩), .agg #[.int .i64 kind, .string path, .string dest, .int .i64 id, .int .i64 size, .int .i64 mode]] u fun r w' => Ans u.heap.size x r w' ∧ Below u.heap.size u w')
    (hx : ∀ n, x = .error n → n ≠ 0) :
    Calls Tryz.prog 45 #[.pointer (some ⟨vb, 0, none⟩), .agg #[.int .i64 kind, .string path, .string dest, .int .i64 id, .int .i64 size, .int .i64 mode]] w fun r w' => DoA 85 w vb fold space rest x r w' := by
  have ST := hidD (Ob.start w ⟨kind, path, dest, id, size, mode⟩)
  have HA := hidD H1
  have HB := hidD H2
  have HV := hidD hv
  have hvlt := hv.lt
  clear H1 H2 hv
  cases x with
  | error n =>
    have hn : (n == 0) = false := by simpa using hx n rfl
    clear hx
    unfold Ans at HB
    unfold DoA
    go_enter Tryz.func45, Tryz.ntmps45
    go_wp2_with (first | (go_at_call 74; refine (HA.out _ ST.out.bel).mono ?_; rintro r w1 ⟨rfl, hb1⟩; have s1 := ST.out.below hb1; have d0 := s1.cell 0; have d1 := s1.cell 1; have d2 := s1.cell 2; have d3 := s1.cell 3; have d4 := s1.cell 4; have d5 := s1.cell 5; simp [OpD.cells] at d0 d1 d2 d3 d4 d5) | (go_at_call 75; refine (HB.out _ s1.bel).mono ?_; rintro r w2 ⟨rfl, hb2⟩; have s2 := s1.below hb2))
    go_ret
    exact ⟨rfl, s2.bel⟩
  | ok M =>
    clear hx
    unfold Ans at HB
    unfold DoA
    go_enter Tryz.func45, Tryz.ntmps45
    go_wp2_with (first | (go_at_call 74; refine (HA.out _ ST.out.bel).mono ?_; rintro r w1 ⟨rfl, hb1⟩; have s1 := ST.out.below hb1; have d0 := s1.cell 0; have d1 := s1.cell 1; have d2 := s1.cell 2; have d3 := s1.cell 3; have d4 := s1.cell 4; have d5 := s1.cell 5; simp [OpD.cells] at d0 d1 d2 d3 d4 d5) | (go_at_call 75; refine (HB.out _ s1.bel).mono ?_; rintro r w2 ⟨⟨v2, rfl, hown2⟩, hb2⟩; have s2 := s1.below hb2; obtain ⟨a2, m2, c2, hv2⟩ := own_shape hown2; subst hv2; have k2 := HV.out.below s2.bel hvlt; have f2 := k2.frozen 0; have e2 := k2.vol.c0))
    go_ret
    obtain ⟨q1, q2⟩ := k2.set (.slice a2 m2 c2)
    refine ⟨rfl, _, q1, ?_, grown_of s2.bel q2⟩
    have h3 := own_mono hown2 s1.bel.size
    refine h3.kept q2 ?_
    cases hb : (Value.slice a2 m2 c2).ownBlock with
    | none => exact .inl rfl
    | some g => exact .inr (fun e => by have := (h3.lt g hb).1; cases e; omega)
end Go.Proofs.YtpjjagalekolaaaGreatDoor

/- A script's course: the trees that come of its first operations. What lies in memory meanwhile. -/
namespace Go.Proofs.YtpjjagalekolaaaGreatDoor
open Go.RowKit
set_option linter.unusedVariables false
set_option linter.unusedSimpArgs false

inductive OpRow (w : World) : Value → List OpD → Prop
  | nil : OpRow w (.slice none 0 0) []
  | row (b off cap : Nat) (l : List OpD) (hb : b < w.heap.size) (h : OpsAt w b off l) : OpRow w (.slice (some ⟨b, off, none⟩) l.length cap) l
theorem OpRow.below {w w' : World} {v : Value} {l : List OpD} (h : OpRow w v l) {B : Nat} (hb : Below B w w') (hB : w.heap.size ≤ B) : OpRow w' v l := by
  cases h with
  | nil => exact .nil
  | row b off cap l hlt h => exact .row b off cap l (by have := hb.size; omega) (h.below hb (by omega))
theorem OpRow.val {w : World} {v : Value} {l : List OpD} (h : OpRow w v l) : ∃ a c, v = .slice a l.length c := by
  cases h with
  | nil => exact ⟨_, _, rfl⟩
  | row b off cap l hlt h => exact ⟨_, _, rfl⟩
theorem op_parts {w : World} {a : Option Addr} {n c : Nat} {l : List OpD} (h : OpRow w (.slice a n c) l) {k : Nat} (hk : k < l.length) : ∃ b off, a = some ⟨b, off, none⟩ ∧ n = l.length ∧ b < w.heap.size ∧ OpsAt w b off l := by
  generalize hv : Value.slice a n c = v at h
  cases h with
  | nil => simp at hk
  | row b off cap l hlb h =>
    simp only [Value.slice.injEq] at hv
    exact ⟨b, off, hv.1, hv.2.1, hlb, h⟩

theorem treesCheckF {w : World} {v : Value} {L : List EntD} (fold : Bool) (hr : RowAt w v L) (hs : SmallL L) :
    Calls Tryz.prog 56 #[v, .bool fold] w fun e w' => ∃ c k : Int, e = .returned (.tuple #[.int .i64 c, .int .i64 k]) ∧ (c == 0) = treeF fold L ∧ Below w.heap.size w w' := by
  cases hr with
  | nil =>
    cases fold
    · exact (treesCheck_nil w).mono (by rintro e w' ⟨rfl, rfl⟩; exact ⟨_, _, rfl, rfl, Below.refl _ _⟩)
    · exact (treesCheckT_nil w).mono (by rintro e w' ⟨rfl, rfl⟩; exact ⟨_, _, rfl, rfl, Below.refl _ _⟩)
  | row b off cap l hlb hc hm h =>
    cases fold
    · exact (treesCheck_any b off cap L w hs.1 hc hs.2 hlb h).mono (by rintro e w' ⟨rfl, hb⟩; exact ⟨_, _, rfl, rfl, hb⟩)
    · exact (treesCheckT_any b off cap L w hs.1 hc hs.2 hlb h).mono (by rintro e w' ⟨rfl, hb⟩; exact ⟨_, _, rfl, rfl, hb⟩)
theorem firstWrongF {w : World} {v : Value} {l : List OpD} (hg : Gd w) (hr : OpRow w v l) (hl : l.length ≤ 2000000) (hs : ∀ o ∈ l, o.small) :
    Calls Tryz.prog 115 #[v] w fun e w' => e = .returned (.tuple #[.int .i64 (fwrong l 0).1, .bool (fwrong l 0).2]) ∧ Below w.heap.size w w' := by
  cases hr with
  | nil => exact (firstWrong_nil w).mono (by rintro e w' ⟨rfl, rfl⟩; exact ⟨rfl, Below.refl _ _⟩)
  | row b off cap l hlb h => exact firstWrong_any b off cap l w hg hl hs hlb h

theorem own_block {u : World} {B T s n : Nat} {v : Value} {xs : List Value} (h : u.ownsRow B T s v n xs) {g : Nat} (hg : v.ownBlock = some g) : ∃ cs, u.heap[g]? = some (.cells cs T (0, 0)) := by
  rcases h.2 with ⟨rfl, _⟩ | ⟨g', cap, cur, rfl, _, hgg, _⟩
  · simp [Value.ownBlock] at hg
  · simp [Value.ownBlock] at hg
    subst hg
    exact ⟨cur, hgg⟩
theorem own_keep2 {u u' : World} {B1 T1 s1 n1 B2 T2 s2 n2 : Nat} {v1 v2 : Value} {x1 x2 : List Value} (h : u.ownsRow B1 T1 s1 v1 n1 x1) (k : u.ownsRow B2 T2 s2 v2 n2 x2) (hne : T1 ≠ T2) (hg : u.grownBy u' v2.ownBlock) : u'.ownsRow B1 T1 s1 v1 n1 x1 := by
  refine h.kept hg ?_
  cases hb : v1.ownBlock with
  | none => exact .inl rfl
  | some g =>
    refine .inr (fun e => ?_)
    obtain ⟨c1, h1⟩ := own_block h hb
    obtain ⟨c2, h2⟩ := own_block k e.symm
    rw [h1] at h2
    simp only [Option.some.injEq, Obj.cells.injEq] at h2
    exact hne h2.2.1
theorem own_vk {u u' : World} {B1 T1 s1 n1 vb T : Nat} {v1 v : Value} {x1 : List Value} {fold : Bool} {space : Int} {rest : List Value} (h : u.ownsRow B1 T1 s1 v1 n1 x1) (k : Vk T u vb v fold space rest) (hne : T1 ≠ T) (hg : u.grownBy u' (some vb)) : u'.ownsRow B1 T1 s1 v1 n1 x1 := by
  refine h.kept hg ?_
  cases hb : v1.ownBlock with
  | none => exact .inl rfl
  | some g =>
    refine .inr (fun e => ?_)
    obtain ⟨c1, h1⟩ := own_block h hb
    cases e
    unfold Vk at k
    rw [h1] at k
    simp only [Option.some.injEq, Obj.cells.injEq] at k
    exact hne k.2.1
theorem vk_own {u u' : World} {B2 T2 s2 n2 vb T : Nat} {v2 v : Value} {x2 : List Value} {fold : Bool} {space : Int} {rest : List Value} (k : Vk T u vb v fold space rest) (h : u.ownsRow B2 T2 s2 v2 n2 x2) (hne : T ≠ T2) (hg : u.grownBy u' v2.ownBlock) : Vk T u' vb v fold space rest := by
  unfold Vk
  rw [hg.block vb k.lt (fun e => ?_)]
  · exact k
  · obtain ⟨c2, h2⟩ := own_block h e.symm
    unfold Vk at k
    rw [h2] at k
    simp only [Option.some.injEq, Obj.cells.injEq] at k
    exact hne k.2.1.symm

/-- The trees so far, in memory. -/
structure WaySt (w0 : World) (vb : Nat) (fold : Bool) (u : World) (wv : Value) (vs : List Value) (Ls : List (List EntD)) (v : Value) (Lk : List EntD) : Prop where
  bel : Below w0.heap.size w0 u
  vbge : w0.heap.size ≤ vb
  vol : Vk 85 u vb v fold 9223372036854775807 [.string ⟨#[]⟩]
  way : u.ownsRow w0.heap.size 22 1 wv vs.length vs
  len : vs.length = Ls.length
  rows : ∀ (j : Nat) (h : j < vs.length) (h' : j < Ls.length), RowAt w0 vs[j] Ls[j] ∨ u.ownsRow w0.heap.size 56 5 vs[j] Ls[j].length (flatE Ls[j])
  cur : RowAt w0 v Lk ∨ u.ownsRow w0.heap.size 56 5 v Lk.length (flatE Lk)
theorem row_of {w0 u : World} {v : Value} {L : List EntD} (hb : Below w0.heap.size w0 u) (h : RowAt w0 v L ∨ u.ownsRow w0.heap.size 56 5 v L.length (flatE L)) : RowAt u v L := by
  rcases h with h | h
  · exact h.below hb (Nat.le_refl _)
  · exact RowAt.ofOwn h
theorem WaySt.below {w0 : World} {vb : Nat} {fold : Bool} {u u' : World} {wv v : Value} {vs : List Value} {Ls : List (List EntD)} {Lk : List EntD} (h : WaySt w0 vb fold u wv vs Ls v Lk) (hb : Below u.heap.size u u') : WaySt w0 vb fold u' wv vs Ls v Lk :=
  ⟨h.bel.trans (hb.mono h.bel.size), h.vbge, h.vol.below hb h.vol.lt, own_below hb h.way, h.len, fun j h1 h2 => (h.rows j h1 h2).imp id (own_below hb), h.cur.imp id (own_below hb)⟩
/-- An operation is done. -/
theorem WaySt.did {w0 : World} {vb : Nat} {fold : Bool} {u u' : World} {wv v v' : Value} {vs : List Value} {Ls : List (List EntD)} {Lk M : List EntD} (h : WaySt w0 vb fold u wv vs Ls v Lk) (hk : Vk 85 u' vb v' fold 9223372036854775807 [.string ⟨#[]⟩]) (ho : u'.ownsRow u.heap.size 56 5 v' M.length (flatE M)) (hg : u.grownBy u' (some vb)) : WaySt w0 vb fold u' wv vs Ls v' M where
  bel := h.bel.grown hg h.bel.size (fun q hq => by cases hq; exact h.vbge)
  vbge := h.vbge
  vol := hk
  way := own_vk h.way h.vol (by decide) hg
  len := h.len
  rows := fun j h1 h2 => (h.rows j h1 h2).imp id (fun o => own_vk o h.vol (by decide) hg)
  cur := .inr (own_mono ho h.bel.size)
/-- .. and its tree is put behind the others. -/
theorem WaySt.put {w0 : World} {vb : Nat} {fold : Bool} {u u' : World} {wv v wv' : Value} {vs : List Value} {Ls : List (List EntD)} {Lk : List EntD} (h : WaySt w0 vb fold u wv vs Ls v Lk) (ho : u'.ownsRow w0.heap.size 22 1 wv' (vs.length + 1) (vs ++ [v])) (hg : u.grownBy u' wv.ownBlock) : WaySt w0 vb fold u' wv' (vs ++ [v]) (Ls ++ [Lk]) v Lk where
  bel := h.bel.grown hg h.bel.size (fun q hq => (h.way.lt q hq).1)
  vbge := h.vbge
  vol := vk_own h.vol h.way (by decide) hg
  way := by rw [List.length_append]; exact ho
  len := by simp [h.len]
  rows := fun j h1 h2 => by
    have hcur : RowAt w0 v Lk ∨ u'.ownsRow w0.heap.size 56 5 v Lk.length (flatE Lk) := h.cur.imp id (fun o => own_keep2 o h.way (by decide) hg)
    by_cases hj : j < vs.length
    · rw [List.getElem_append_left hj, List.getElem_append_left (by rw [← h.len]; exact hj)]
      exact (h.rows j hj (by rw [← h.len]; exact hj)).imp id (fun o => own_keep2 o h.way (by decide) hg)
    · have e1 : j = vs.length := by simp at h1; omega
      subst e1
      rw [List.getElem_append_right (Nat.le_refl _), List.getElem_append_right (by rw [← h.len]; exact Nat.le_refl _)]
      simp only [h.len, Nat.sub_self, List.getElem_cons_zero]
      exact hcur
  cur := h.cur.imp id (fun o => own_keep2 o h.way (by decide) hg)

/-- The need so far. -/
def needL (n : Int) (Ls : List (List EntD)) : Int := Ls.foldl (fun a M => max a (usedL M)) n
theorem needL_snoc (n : Int) (Ls : List (List EntD)) (M : List EntD) : needL n (Ls ++ [M]) = max (needL n Ls) (usedL M) := by simp [needL, List.foldl_append]
theorem try_step {fold : Bool} {space : Int} {L : List EntD} {need : Int} {l : List OpD} {k : Nat} (h : k < l.length) : tryL fold space L need (l.drop k) k = match doL fold space L l[k] with | .error c => .error (c, k) | .ok L' => tryL fold space L' (max need (usedL L')) (l.drop (k + 1)) (k + 1) := by
  rw [List.drop_eq_getElem_cons h, tryL]
  cases doL fold space L l[k] <;> rfl

/-- What Try comes to, said plainly: the error and its place; or the tree and the need. -/
def tryP (fold : Bool) (space : Int) (L : List EntD) (l : List OpD) : Except (Int × Int) (List EntD × Int) :=
  if treeF fold L = false then .error (4, 0)
  else if (fwrong l 0).2 = true then .error (18, (fwrong l 0).1)
  else match tryL fold space L (usedL L) l 0 with
    | .error (c, k) => .error (c, (k : Int))
    | .ok x => .ok x
theorem script_good {l : List OpD} (h : (fwrong l 0).2 = false) : l.length ≤ 400 ∧ ∀ o ∈ l, okOp o = true := by
  rw [fwrong_scriptB] at h
  simp only [scriptB, Bool.not_eq_false', Bool.and_eq_true, decide_eq_true_eq, List.all_eq_true] at h
  exact h
theorem do_err {fold : Bool} {space : Int} {L : List EntD} {o : OpD} {n : Int} (h : doL fold space L o = .error n) : n ≠ 0 := by
  have mk : ∀ e n, mkL fold space L e = .error n → n ≠ 0 := by
    intro e n h
    unfold mkL at h
    split at h
    · cases h; decide
    · split at h
      · cases h; decide
      · split at h
        · cases h; decide
        · split at h
          · cases h; decide
          · split at h
            · cases h; decide
            · cases h
  unfold doL at h
  split at h
  · exact mk _ _ h
  · split at h
    · exact mk _ _ h
    · split at h
      · cases h; decide
      · split at h
        · cases h
        · split at h
          · unfold renL at h
            split at h
            · cases h; decide
            · split at h
              · cases h; decide
              · split at h
                · cases h; decide
                · split at h
                  · cases h; decide
                  · cases h
          · split at h
            · cases h; decide
            · split at h
              · exact mk _ _ h
              · split at h
                · cases h; decide
                · cases h
end Go.Proofs.YtpjjagalekolaaaGreatDoor

/- A script's course: the trees that come of its first operations. -/
namespace Go.Proofs.YtpjjagalekolaaaGreatDoor
open Go.RowKit
set_option linter.unusedVariables false
set_option linter.unusedSimpArgs false

theorem info22 : (Tryz.prog.info? 22).map (fun i => (i.zero, i.size, i.bytes)) = some (some (.slice none 0 0), 1, 24) := by kernel_rfl

theorem vDo {u : World} {vb : Nat} {v : Value} {L : List EntD} {fold : Bool} {space : Int} {rest : List Value} (hk : Vk 85 u vb v fold space rest) (hr : RowAt u v L) (K : VolOk fold L) (hg : Gd u) (o : OpD) (hok : okOp o = true) (hsm : o.small) (h0 : 0 ≤ space) (h1 : space ≤ 9223372036854775807) :
    Calls Tryz.prog 45 #[.pointer (some ⟨vb, 0, none⟩), .agg #[.int .i64 o.kind, .string o.path, .string o.dest, .int .i64 o.id, .int .i64 o.size, .int .i64 o.mode]] u fun r w' => DoA 85 u vb fold space rest (doL fold space L o) r w' := by
  refine vDo_of hk o.kind o.path o.dest o.id o.size o.mode _ (fun u1 hu => ?_) (fun u1 hu => ?_) (fun n hn => do_err hn)
  · have := isOp_any o u1 (hg.below hu) hsm
    rwa [hok] at this
  · refine vafter o.kind o.path o.dest o.id o.size o.mode (okOp_good hok).kinds _ (fun u2 hu2 => ?_)
    have hu' : Below u.heap.size u u2 := hu.trans (hu2.mono hu.size)
    exact vops (Vm.of K (hk.vol.below hu' hk.lt) (hr.below hu' (Nat.le_refl _)) h0 h1) K o hsm (okOp_good hok)

/-- What course answers. -/
def CrsA (w : World) (fold : Bool) (x : Except (Int × Int) (List EntD × Int)) (n : Nat) (r : Ending) (w' : World) : Prop :=
  match x with
  | .error (c, k) => r = .returned (.tuple #[.slice none 0 0, .int .i64 c, .int .i64 k]) ∧ c ≠ 0 ∧ Below w.heap.size w w'
  | .ok (M, need) => ∃ (g cap : Nat) (vs : List Value) (Ls : List (List EntD)), r = .returned (.tuple #[.slice (some ⟨g, 0, none⟩) (n + 1) cap, .int .i64 0, .int .i64 0]) ∧ Below w.heap.size w w' ∧ vs.length = n + 1 ∧ Ls.length = n + 1 ∧ (∀ (j : Nat) (h : j < vs.length), w'.cell? ⟨g, j, none⟩ = some vs[j]) ∧ (∀ (j : Nat) (h : j < vs.length) (h' : j < Ls.length), RowAt w' vs[j] Ls[j]) ∧ (∀ N ∈ Ls, VolOk fold N) ∧ Ls[n]? = some M ∧ needL 0 Ls = need

theorem WaySt.start {w w2 : World} {sv : Value} {L : List EntD} {fold : Bool} (hr : RowAt w sv L) (hb : Below w.heap.size w w2) :
    WaySt w w2.heap.size fold ((w2.alloc (.cells #[sv, .bool fold, .int .i64 9223372036854775807, .string ⟨#[]⟩] 85)).alloc (.cells #[sv] 22)) (.slice (some ⟨w2.heap.size + 1, 0, none⟩) 1 1) [sv] [L] sv L where
  bel := (hb.alloc hb.size _).alloc (by have := hb.size; simp; omega) _
  vbge := hb.size
  vol := by
    unfold Vk
    exact ((World.grownBy_alloc _ _ none).block _ (by simp) (by simp)).trans (heap_alloc_new w2 _)
  way := by
    have := World.ownsRow_lit (base := w.heap.size) (e := 22) (size := 1) (w2.alloc (.cells #[sv, .bool fold, .int .i64 9223372036854775807, .string ⟨#[]⟩] 85)) #[sv] 1 (by have := hb.size; simp; omega) (by unfold maxLen; omega) rfl
    simpa using this
  len := rfl
  rows := fun j h1 h2 => by
    obtain rfl : j = 0 := by simp at h1; omega
    exact .inl hr
  cur := .inl hr

theorem way_form {u : World} {B : Nat} {wv : Value} {vs : List Value} (h : u.ownsRow B 22 1 wv vs.length vs) (hn : 0 < vs.length) : ∃ g cap, wv = .slice (some ⟨g, 0, none⟩) vs.length cap ∧ ∀ (j : Nat) (h : j < vs.length), u.cell? ⟨g, j, none⟩ = some vs[j] := by
  rcases h.2 with ⟨rfl, h0⟩ | ⟨g, cap, cur, rfl, _⟩
  · omega
  · refine ⟨g, cap, rfl, fun j hj => ?_⟩
    rw [h.cellAt j (by omega), List.getElem?_eq_getElem hj]
theorem cell_new22 (u : World) (v : Value) : ∀ j x, [v][j]? = some x → (u.alloc (.cells #[v] 22)).cell? ((⟨u.heap.size, 0, none⟩ : Addr).add j) = some x := by
  intro j x hx
  have : (⟨u.heap.size, 0, none⟩ : Addr).add j = ⟨u.heap.size, j, none⟩ := by unfold Addr.add; split <;> simp_all
  rw [this, cell_of_row _ _ _ #[v] 22 (0, 0) (heap_alloc_new u _)]
  simpa using hx

set_option maxHeartbeats 8000000 in
set_option maxRecDepth 100000 in
theorem vcourse {w : World} {sv lv : Value} {L : List EntD} {l : List OpD} (fold : Bool) (hr : RowAt w sv L) (hs : SmallL L) (hg : Gd w) (ho : OpRow w lv l) (hl : l.length ≤ 2000000) (hos : ∀ o ∈ l, o.small) (X : Except (Int × Int) (List EntD × Int)) (hX : tryP fold 9223372036854775807 L l = X) :
    Calls Tryz.prog 68 #[sv, .bool fold, lv] w fun r w' => CrsA w fold X l.length r w' := by
  obtain ⟨i0, hi, hz0, hz1, hz2⟩ := info_parts info22
  have HC := hidD (treesCheckF fold hr hs)
  have HW := hidD (fun (u : World) (hu : Below w.heap.size w u) => firstWrongF (hg.below hu) (ho.below hu (Nat.le_refl _)) hl hos)
  have HX := hidD hX
  have HR := hidD hr
  have HO := hidD ho
  have HG := hidD hg
  have HOS := hidD hos
  obtain ⟨sa, sc, rfl⟩ := hr.val
  obtain ⟨la, lc, rfl⟩ := ho.val
  clear hX hr ho hg hos
  cases ht : treeF fold L
  · rw [ht] at HC
    have hX := HX.out
    rw [tryP, if_pos ht] at hX
    subst hX
    clear HX
    unfold CrsA
    go_enter Tryz.func68, Tryz.ntmps68
    go_wp2_with (go_at_call 56; refine HC.out.mono ?_; rintro r w1 ⟨c, k, rfl, hck, hb1⟩; have hcn : (c != 0) = true := (by simp only [bne, hck]; rfl))
    go_ret3
    exact ⟨rfl, by decide, hb1⟩
  · rw [ht] at HC
    have HT := hidD ht
    have hX := HX.out
    rw [tryP, if_neg (by rw [ht]; decide)] at hX
    clear ht
    cases hf : (fwrong l 0).2
    · have hsg := script_good hf
      rw [if_neg (by rw [hf]; decide)] at hX
      rw [hf] at HW
      have HX2 := hidD hX
      have HSG := hidD hsg.2
      have hl4 := hsg.1
      clear hX hsg HX hf
      generalize (fwrong l 0).1 = fa at *
      go_enter Tryz.func68, Tryz.ntmps68
      go_wp2_with (first | (go_at_call 56; refine HC.out.mono ?_; rintro r w1 ⟨c, k, rfl, hck, hb1⟩; have hcn : (c != 0) = false := (by simp only [bne, hck]; rfl)) | (go_at_call 115; refine (HW.out _ hb1).mono ?_; rintro r w2 ⟨rfl, hb2⟩; have u2 := hb1.trans (hb2.mono hb1.size)))
      have s3 := WaySt.start (fold := fold) HR.out u2
      have K0 := tree_vol HT.out
      have hn0 : needL 0 [L] = usedL L := by
        have := (used_le K0).1
        simp only [needL, List.foldl_cons, List.foldl_nil]
        omega
      have I0 := hidD (show VolOk fold L ∧ (∀ N ∈ [L], VolOk fold N) ∧ [L][0]? = some L ∧ tryL fold 9223372036854775807 L (usedL L) l 0 = tryL fold 9223372036854775807 L (needL 0 [L]) (l.drop 0) 0 from ⟨K0, by simpa using K0, rfl, by rw [hn0, List.drop_zero]⟩)
      have S3 := hidD s3
      have hvbs := u2.size
      clear hn0 K0 s3 HC HW hb1 hb2 u2 hcn hck
      generalize hvb : w2.heap.size = vb at *
      go_loopw [14, 40] (fun wv iv wr => ∃ (k : Nat) (vs : List Value) (Ls : List (List EntD)) (v : Value) (Lk : List EntD), k ≤ l.length ∧ iv = .int .i64 k ∧ vs.length = k + 1 ∧ Hid (WaySt w vb fold wr wv vs Ls v Lk) ∧ Hid (VolOk fold Lk ∧ (∀ N ∈ Ls, VolOk fold N) ∧ Ls[k]? = some Lk ∧ tryL fold 9223372036854775807 L (usedL L) l 0 = tryL fold 9223372036854775807 Lk (needL 0 Ls) (l.drop k) k)) (fun _ iv _ => l.length - (intOf iv).toNat)
      case atStart => exact ⟨0, _, _, _, _, Nat.zero_le _, rfl, rfl, S3, I0⟩
      case round =>
        clear S3 I0
        obtain ⟨k, vs, Ls, v, Lk, hk, rfl, hvl, S, I⟩ := hrel
        by_cases hlk : k < l.length
        · obtain ⟨b2, off2, rfl, _, hlb2, hops⟩ := op_parts HO.out hlk
          have hcw := (hops.below S.out.bel hlb2) k hlk
          have c0 : wr.cell? ⟨b2, off2 + k * 6, none⟩ = some (.int .i64 l[k].kind) := hcw 0 _ rfl
          have c1 := hcw 1 _ rfl
          have c2 := hcw 2 _ rfl
          have c3 := hcw 3 _ rfl
          have c4 := hcw 4 _ rfl
          have c5 := hcw 5 _ rfl
          have hok := HSG.out _ (List.getElem_mem hlk)
          have hsm := HOS.out _ (List.getElem_mem hlk)
          have HTS := hidD (fun need => try_step (fold := fold) (space := 9223372036854775807) (L := Lk) (need := need) hlk)
          generalize l[k] = o at *
          clear hcw hops
          have S1 := hidD (S.out.below ((Below.refl _ _).alloc (Nat.le_refl _) (.cells #[.int .i64 o.kind, .string o.path, .string o.dest, .int .i64 o.id, .int .i64 o.size, .int .i64 o.mode] 59)))
          have HD := hidD (vDo S1.out.vol (row_of S1.out.bel S1.out.cur) I.out.1 (HG.out.below S1.out.bel) o hok hsm (by decide) (by decide))
          have hsz := S1.out.bel.size
          cases hd : doL fold 9223372036854775807 Lk o with
          | error n =>
            have hn : (n != 0) = true := by simpa using do_err hd
            have hXE : X = .error (n, (k : Int)) := by
              rw [← HX2.out, I.out.2.2.2, HTS.out, hd]
            have HXE := hidD hXE
            have hn0 := do_err hd
            rw [hd] at HD
            unfold DoA at HD
            clear hXE hd HX2
            go_wp2_with (go_at_call 45; refine HD.out.mono ?_; rintro r w5 ⟨rfl, hb5⟩)
            go_ret3
            rw [HXE.out]
            exact ⟨rfl, hn0, (S1.out.below hb5).bel⟩
          | ok M =>
            have KM := do_ok I.out.1 (okOp_good hok) hd
            have I2 := hidD (show VolOk fold M ∧ (∀ N ∈ Ls ++ [M], VolOk fold N) ∧ (Ls ++ [M])[k + 1]? = some M ∧ tryL fold 9223372036854775807 L (usedL L) l 0 = tryL fold 9223372036854775807 M (needL 0 (Ls ++ [M])) (l.drop (k + 1)) (k + 1) from ⟨KM, fun N hN => by
                rcases List.mem_append.1 hN with h | h
                · exact I.out.2.1 N h
                · rw [List.mem_singleton.1 h]; exact KM, by rw [← hvl, S.out.len]; simp, by rw [I.out.2.2.2, HTS.out, hd, needL_snoc]⟩)
            rw [hd] at HD
            unfold DoA at HD
            clear hd KM HTS
            go_wp2_with (first | (go_at_call 45; refine HD.out.mono ?_; rintro r w5 ⟨rfl, v5, hk5, ho5, hg5⟩; obtain ⟨a5, n5, q5, hv5⟩ := own_shape ho5; subst hv5; have S5 := S1.out.did hk5 ho5 hg5; have e0 := hk5.vol.c0; have hw5 := S5.bel.size) | (at_builtin; refine wpList_append_own _ rfl (.tmp 51) (.tmp 54) 79 rfl w.heap.size 22 i0 _ 1 24 Tryz.underlying79 hi hz0 hz1 hz2 rfl (by decide) _ _ _ rfl (S5.way.alloc _) ⟨_, 0, none⟩ 1 1 [.slice a5 n5 q5] rfl rfl (cell_new22 w5 _) (by intro x hx; rw [List.mem_singleton.1 hx]; rfl) (by unfold maxLen; omega) (by omega) (by simp only [World.size_alloc]; omega) ?_; intro v6 w6 hown6 hg6 _))
            exact ⟨⟨k + 1, _, _, _, _, by omega, by go_num, by rw [List.length_append, hvl]; rfl, hidD ((S5.below ((Below.refl _ _).alloc (Nat.le_refl _) _)).put hown6 hg6), I2⟩, by simp [intOf]; omega⟩
        · obtain ⟨g, cap, hwv, hcells⟩ := way_form S.out.way (by omega)
          subst hwv
          obtain rfl : k = l.length := by omega
          have hXE : X = .ok (Lk, needL 0 Ls) := by
            rw [← HX2.out, I.out.2.2.2, List.drop_length, tryL]
          have HXE := hidD hXE
          have HCE := hidD hcells
          clear hXE HX2 hcells
          go_wp2
          go_ret3
          rw [HXE.out]
          have hL := S.out.len
          exact ⟨g, cap, vs, Ls, by rw [hvl]; rfl, S.out.bel, hvl, by omega, HCE.out, fun j h1 h2 => row_of S.out.bel (S.out.rows j h1 h2), I.out.2.1, I.out.2.2.1, rfl⟩
    · rw [if_pos hf] at hX
      rw [hf] at HW
      clear HX hf
      generalize (fwrong l 0).1 = fa at *
      subst hX
      unfold CrsA
      go_enter Tryz.func68, Tryz.ntmps68
      go_wp2_with (first | (go_at_call 56; refine HC.out.mono ?_; rintro r w1 ⟨c, k, rfl, hck, hb1⟩; have hcn : (c != 0) = false := (by simp only [bne, hck]; rfl)) | (go_at_call 115; refine (HW.out _ hb1).mono ?_; rintro r w2 ⟨rfl, hb2⟩; have u2 := hb1.trans (hb2.mono hb1.size)))
      go_ret3
      exact ⟨rfl, by decide, u2⟩
end Go.Proofs.YtpjjagalekolaaaGreatDoor

/- The program's Try. -/
namespace Go.Proofs.YtpjjagalekolaaaGreatDoor
open Go.RowKit
set_option linter.unusedVariables false
set_option linter.unusedSimpArgs false

theorem results_tmp4 {fn : Func} {t u v x : Tmp} (h : fn.results = #[.tmp t, .tmp u, .tmp v, .tmp x]) (tmps : Array Value) (P : Program) (w : World) :
    (results fn tmps).run P w = .ok (.tuple #[tmps.getD t undef, tmps.getD u undef, tmps.getD v undef, tmps.getD x undef]) w := by
  simp [results, h]

theorem vclone {w : World} {v : Value} {L : List EntD} (hr : RowAt w v L) (hl : L.length ≤ 1000) :
    Calls Tryz.prog 70 #[v] w fun e w' => ∃ v', e = .returned v' ∧ w'.ownsRow w.heap.size 56 5 v' L.length (flatE L) ∧ Below w.heap.size w w' := by
  cases hr with
  | nil => exact (clone_nil w).mono (by rintro e w' ⟨rfl, rfl⟩; exact ⟨_, rfl, World.ownsRow_nil _ _ _ _, Below.refl _ _⟩)
  | row b off cap l hlb hc hm h => exact clone_row b off cap L w hl hlb h

/-- What Try answers. -/
def TryA (w : World) (x : Except (Int × Int) (List EntD × Int)) (r : Ending) (w' : World) : Prop :=
  match x with
  | .error (c, k) => r = .returned (.tuple #[.slice none 0 0, .int .i64 0, .int .i64 c, .int .i64 k]) ∧ Below w.heap.size w w'
  | .ok (M, need) => ∃ v, r = .returned (.tuple #[v, .int .i64 need, .int .i64 0, .int .i64 0]) ∧ w'.ownsRow w.heap.size 56 5 v M.length (flatE M) ∧ Below w.heap.size w w'

theorem needL_take (n : Int) (Ls : List (List EntD)) (k : Nat) (h : k < Ls.length) : needL n (Ls.take (k + 1)) = max (needL n (Ls.take k)) (usedL Ls[k]) := by
  rw [List.take_succ_eq_append_getElem h, needL_snoc]
theorem needL_le {fold : Bool} (Ls : List (List EntD)) (h : ∀ N ∈ Ls, VolOk fold N) : ∀ n, 0 ≤ n → n ≤ 12000 → 0 ≤ needL n Ls ∧ needL n Ls ≤ 12000 := by
  induction Ls with
  | nil => intro n h0 h1; exact ⟨h0, h1⟩
  | cons N Ls ih =>
    intro n h0 h1
    have := used_le (h N (by simp))
    exact ih (fun M hM => h M (by simp [hM])) (max n (usedL N)) (by omega) (by omega)

set_option maxHeartbeats 8000000 in
set_option maxRecDepth 100000 in
theorem vTry {w : World} {sv lv : Value} {L : List EntD} {l : List OpD} (fold : Bool) (hr : RowAt w sv L) (hs : SmallL L) (hg : Gd w) (ho : OpRow w lv l) (hl : l.length ≤ 2000000) (hos : ∀ o ∈ l, o.small) (X : Except (Int × Int) (List EntD × Int)) (hX : tryP fold 9223372036854775807 L l = X) :
    Calls Tryz.prog 42 #[sv, .bool fold, lv] w fun r w' => TryA w X r w' := by
  have HC := hidD (vcourse fold hr hs hg ho hl hos X hX)
  obtain ⟨sa, sc, rfl⟩ := hr.val
  obtain ⟨la, lc, rfl⟩ := ho.val
  clear hX hr ho hg hos
  cases X with
  | error ck =>
    obtain ⟨c, k⟩ := ck
    unfold CrsA at HC
    unfold TryA
    go_enter Tryz.func42, Tryz.ntmps42
    go_wp2_with (go_at_call 68; refine HC.out.mono ?_; rintro r w1 ⟨rfl, hc0, hb1⟩; have hcn : (c != 0) = true := (by simpa using hc0))
    refine bodyPost_ret (results_tmp4 rfl _ _ _) rfl ?_
    exact ⟨rfl, hb1⟩
  | ok mn =>
    obtain ⟨M, need⟩ := mn
    unfold CrsA at HC
    unfold TryA
    go_enter Tryz.func42, Tryz.ntmps42
    go_wp2_with (go_at_call 68; refine HC.out.mono ?_; rintro r w1 ⟨g, cap, vs, Ls, rfl, hb1, hvl, hLl, hcells, hrows, hok, hM, hneed⟩)
    have HCE := hidD hcells
    have HRW := hidD hrows
    have HOK := hidD hok
    have HM := hidD hM
    have HN := hidD hneed
    have HB1 := hidD hb1
    have hb1s := hb1.size
    clear hcells hrows hok hM hneed hb1
    go_loopw [13, 30] (fun mv iv wr => ∃ k : Nat, k ≤ l.length + 1 ∧ iv = .int .i64 k ∧ mv = .int .i64 (needL 0 (Ls.take k)) ∧ Hid (Below w1.heap.size w1 wr)) (fun _ iv _ => l.length + 1 - (intOf iv).toNat)
    case atStart => exact ⟨0, Nat.zero_le _, rfl, rfl, hidD (Below.refl _ _)⟩
    case round =>
      obtain ⟨k, hk, rfl, rfl, HB⟩ := hrel
      by_cases hlk : k < l.length + 1
      · have hkv : k < vs.length := by omega
        have hkL : k < Ls.length := by omega
        have hgw : g < w1.heap.size := World.block_lt_of_cell? w1 ⟨g, k, none⟩ (HCE.out k hkv)
        have c0 := cell_kept HB.out hgw (HCE.out k hkv)
        have K := HOK.out _ (List.getElem_mem hkL)
        have HZ := hidD (vsizes (HRW.out k hkv hkL) K.few K.sizesOk wr HB.out)
        obtain ⟨av, cv, hval⟩ := (HRW.out k hkv hkL).val
        have HNT := hidD (needL_take 0 Ls k hkL)
        have hn1 := needL_le (Ls.take k) (fun N hN => HOK.out N (List.mem_of_mem_take hN)) 0 (by omega) (by omega)
        have hu1 := used_le K
        obtain ⟨hn2, hn3⟩ := hn1
        obtain ⟨hu2, hu3⟩ := hu1
        rw [hval] at c0 HZ
        generalize Ls[k].length = nn at *
        generalize usedL Ls[k] = us at *
        generalize needL 0 (Ls.take k) = nd at *
        clear hval K
        go_wp2_with (go_at_call 69; refine HZ.out.mono ?_; rintro r w3 ⟨rfl, hb3⟩)
        refine ⟨⟨k + 1, by omega, by go_num, ?_, hidD (HB.out.trans (hb3.mono HB.out.size))⟩, by simp [intOf]; omega⟩
        rw [HNT.out]
      · have hkv : l.length < vs.length := by omega
        have hkL : l.length < Ls.length := by omega
        obtain rfl : k = l.length + 1 := by omega
        have hgw : g < w1.heap.size := World.block_lt_of_cell? w1 ⟨g, l.length, none⟩ (HCE.out l.length hkv)
        have c0 := cell_kept HB.out hgw (HCE.out l.length hkv)
        have K := HOK.out _ (List.getElem_mem hkL)
        have hML : Ls[l.length] = M := by
          have := HM.out
          rw [List.getElem?_eq_getElem hkL] at this
          exact Option.some.inj this
        have hr5 := (HRW.out l.length hkv hkL).below HB.out (Nat.le_refl _)
        rw [hML] at hr5 K
        have HZ := hidD (vclone hr5 (by have := K.few; omega))
        obtain ⟨av, cv, hval⟩ := hr5.val
        rw [hval] at c0 HZ
        have HNN : Hid (needL 0 (Ls.take (l.length + 1)) = need) := by
          show needL 0 (Ls.take (l.length + 1)) = need
          rw [List.take_of_length_le (by omega)]; exact HN.out
        rw [HNN.out]
        have hbs := HB.out.size
        clear hr5 hval K hML HNN HN
        go_wp2_with (go_at_call 70; refine HZ.out.mono ?_; rintro r w4 ⟨v4, rfl, hown4, hb4⟩; obtain ⟨a4, n4, q4, hv4⟩ := own_shape hown4; subst hv4)
        refine bodyPost_ret (results_tmp4 rfl _ _ _) rfl ?_
        exact ⟨_, rfl, own_mono (B' := w.heap.size) hown4 (by omega), (HB1.out.trans (HB.out.mono hb1s)).trans (hb4.mono (by omega))⟩
end Go.Proofs.YtpjjagalekolaaaGreatDoor

/- Work, said plainly: the trees of the way, and what carrying a script out comes to. -/
namespace Go.Proofs.YtpjjagalekolaaaGreatDoor
open Go.RowKit
set_option linter.unusedVariables false
set_option linter.unusedSimpArgs false

/-- The tree behind the first k operations, where space never lacks. -/
def wayT (fold : Bool) (S : List EntD) (l : List OpD) : Nat → List EntD
  | 0 => S
  | k + 1 => match l[k]? with
    | none => wayT fold S l k
    | some o => match doL fold 9223372036854775807 (wayT fold S l k) o with
      | .ok M => M
      | .error _ => wayT fold S l k
theorem wayT_step {fold : Bool} {S : List EntD} {l : List OpD} {k : Nat} (h : k < l.length) {M : List EntD} (hd : doL fold 9223372036854775807 (wayT fold S l k) l[k] = .ok M) : wayT fold S l (k + 1) = M := by
  rw [wayT, List.getElem?_eq_getElem h]
  simp only [hd]

/-- Carrying out what is left. -/
def seqL (fold : Bool) (space : Int) (V : List EntD) : List OpD → Nat → Int × Nat × List EntD
  | [], i => (0, i, V)
  | o :: l, i => match doL fold space V o with
    | .error c => (c, i, V)
    | .ok M => seqL fold space M l (i + 1)
theorem seq_step {fold : Bool} {space : Int} {V : List EntD} {l : List OpD} {k : Nat} (h : k < l.length) : seqL fold space V (l.drop k) k = match doL fold space V l[k] with | .error c => (c, k, V) | .ok M => seqL fold space M (l.drop (k + 1)) (k + 1) := by
  rw [List.drop_eq_getElem_cons h, seqL]
theorem seq_end {fold : Bool} {space : Int} {V : List EntD} {l : List OpD} : seqL fold space V (l.drop l.length) l.length = (0, l.length, V) := by
  rw [List.drop_length, seqL]

theorem mk_two {fold : Bool} {space : Int} {L M : List EntD} {e : EntD} (h : mkL fold 9223372036854775807 L e = .ok M) : mkL fold space L e = .ok M ∨ (mkL fold space L e = .error 11 ∧ M.length = L.length + 1) := by
  unfold mkL at h ⊢
  split at h
  · cases h
  · rename_i h1
    rw [if_neg h1]
    cases hp : placeL fold L e.pl with
    | none => rw [hp] at h; cases h
    | some p =>
      rw [hp] at h
      dsimp only at h ⊢
      split at h
      · cases h
      · rename_i h2
        rw [if_neg h2]
        split at h
        · cases h
        · rename_i h3
          rw [if_neg h3]
          split at h
          · cases h
          · cases h
            split
            · exact .inr ⟨rfl, by rw [(insL_perm _ _).length_eq]; rfl⟩
            · exact .inl rfl
theorem do_two {fold : Bool} {space : Int} {L M : List EntD} {o : OpD} (h : doL fold 9223372036854775807 L o = .ok M) : doL fold space L o = .ok M ∨ (doL fold space L o = .error 11 ∧ M.length = L.length + 1) := by
  unfold doL at h ⊢
  split
  · rename_i hk; rw [if_pos hk] at h; exact mk_two h
  · rename_i hk; rw [if_neg hk] at h
    split
    · rename_i hk2; rw [if_pos hk2] at h; exact mk_two h
    · rename_i hk2; rw [if_neg hk2] at h
      cases hf : L[atI fold L o.pl]? with
      | none => rw [hf] at h; cases h
      | some e =>
        rw [hf] at h
        dsimp only at h ⊢
        split at h
        · rename_i h7; rw [if_pos h7]; exact .inl h
        · rename_i h7; rw [if_neg h7]
          split at h
          · rename_i h6; rw [if_pos h6]; exact .inl h
          · rename_i h6; rw [if_neg h6]
            split at h
            · cases h
            · rename_i h10; rw [if_neg h10]
              split at h
              · rename_i h5; rw [if_pos h5]; exact mk_two h
              · rename_i h5; rw [if_neg h5]; exact .inl h
theorem do_idle {fold : Bool} {space : Int} {L : List EntD} {o : OpD} (h : doL fold 9223372036854775807 L o = .ok L) : doL fold space L o = .ok L := by
  rcases do_two (space := space) h with h | ⟨_, h⟩
  · exact h
  · omega
theorem do_err4 {fold : Bool} {space : Int} {L : List EntD} {o : OpD} {n : Int} (h : doL fold space L o = .error n) : n ≠ 4 := by
  have mk : ∀ e n, mkL fold space L e = .error n → n ≠ 4 := by
    intro e n h
    unfold mkL at h
    split at h
    · cases h; decide
    · split at h
      · cases h; decide
      · split at h
        · cases h; decide
        · split at h
          · cases h; decide
          · split at h
            · cases h; decide
            · cases h
  unfold doL at h
  split at h
  · exact mk _ _ h
  · split at h
    · exact mk _ _ h
    · split at h
      · cases h; decide
      · split at h
        · cases h
        · split at h
          · unfold renL at h
            split at h
            · cases h; decide
            · split at h
              · cases h; decide
              · split at h
                · cases h; decide
                · split at h
                  · cases h; decide
                  · cases h
          · split at h
            · cases h; decide
            · split at h
              · exact mk _ _ h
              · split at h
                · cases h; decide
                · cases h
theorem try_err4 {fold : Bool} {space : Int} : ∀ (l : List OpD) (L : List EntD) (need : Int) (i : Nat) (c : Int) (k : Nat), tryL fold space L need l i = .error (c, k) → c ≠ 4
  | [], L, need, i, c, k, h => by rw [tryL] at h; cases h
  | o :: l, L, need, i, c, k, h => by
    rw [tryL] at h
    split at h
    · rename_i hd
      cases h
      exact do_err4 hd
    · exact try_err4 l _ _ _ c k h

theorem try_err0 {fold : Bool} {space : Int} : ∀ (l : List OpD) (L : List EntD) (need : Int) (i : Nat) (c : Int) (k : Nat), tryL fold space L need l i = .error (c, k) → c ≠ 0
  | [], L, need, i, c, k, h => by rw [tryL] at h; cases h
  | o :: l, L, need, i, c, k, h => by
    rw [tryL] at h
    split at h
    · rename_i hd
      cases h
      exact do_err hd
    · exact try_err0 l _ _ _ c k h

/-- How many operations are done, as the journal and the tree tell it. -/
def DoneAt (V : List EntD) (W : Nat → List EntD) (m : Nat) (d : Int) : Prop :=
  (V = W m ∧ d = m) ∨ (V ≠ W m ∧ 0 < m ∧ V = W (m - 1) ∧ d = (m : Int) - 1) ∨ (V ≠ W m ∧ (0 < m → V ≠ W (m - 1)) ∧ d = -1)

/-- What the document's Work comes to on a tree V: the error, the place and the tree. -/
def workP (fold : Bool) (space : Int) (V S : List EntD) (l : List OpD) (e : Int) (k : Int) (V' : List EntD) : Prop :=
  match tryP fold 9223372036854775807 S l with
  | .error (c, p) => V' = V ∧ if c = 4 then e = 4 ∧ k = 0 else e = 18 ∧ k = p
  | .ok _ => (V ≠ S ∧ V' = V ∧ e = 16 ∧ k = 0) ∨ (V = S ∧ ∃ n : Nat, k = n ∧ seqL fold space V l 0 = (e, n, V'))
end Go.Proofs.YtpjjagalekolaaaGreatDoor

