/- LA, LB: in one text. -/
import Derived.Test.YtehkdjdflgknnaaGreatDoorY20XH
import Derived.Test.YtehkdjdflgknnaaGreatDoorY21DG
import Derived.Test.YtehkdjdflgknnaaGreatDoorY22T
/- What the law Tries leans on: what is handed in, what comes out, the book between the rounds. -/
namespace Go.Proofs.YtehkdjdflgknnaaGreatDoor
open Go.RowKit
set_option linter.unusedVariables false
set_option linter.unusedSimpArgs false

set_option maxHeartbeats 400000 in
theorem num_anyL (n : Int) (w : World) :
    Calls Tryz.prog 14 #[.int .i64 n] w fun e w' => e = .returned (.int .i64 n) ∧ w' = w := by
  go_enter Tryz.func14, Tryz.ntmps14
  go_wp2
  go_ret
  exact ⟨rfl, rfl⟩

def dirD : EntD := ⟨⟨#[100]⟩, true, 0, 0, 7⟩
def fileD : EntD := ⟨⟨#[100, 47, 102]⟩, false, 5, 0, 0⟩
theorem dirD_small : ∀ o ∈ [dirD], o.small := by
  intro o ho
  simp only [List.mem_singleton] at ho
  subst ho
  unfold EntD.small
  decide
theorem fileD_small : ∀ o ∈ [fileD], o.small := by
  intro o ho
  simp only [List.mem_singleton] at ho
  subst ho
  unfold EntD.small
  decide
theorem chk_dir : chkP [dirD] = (0, 0) := by kernel_rfl
theorem chk_file : chkP [fileD] = (2, 0) := by kernel_rfl

set_option maxHeartbeats 1000000 in
theorem alive_any (w : World) : Calls Tryz.prog 6 #[] w fun e w' => e = .returned (.bool true) ∧ Below w.heap.size w w' := by
  have H1 := hidD (convoyCheck_any w.heap.size 0 1 [dirD] (w.alloc (.cells #[.string ⟨#[100]⟩, .bool true, .int .i64 0, .int .i64 0, .int .i64 7] 75)) (by simp) (by simp) dirD_small (by simp) (cells_new w dirD))
  have H2 := hidD (fun u : World => convoyCheck_any u.heap.size 0 1 [fileD] (u.alloc (.cells #[.string ⟨#[100, 47, 102]⟩, .bool false, .int .i64 5, .int .i64 0, .int .i64 0] 75)) (by simp) (by simp) fileD_small (by simp) (cells_new u fileD))
  rw [chk_dir] at H1
  rw [chk_file] at H2
  go_enter Tryz.func6, Tryz.ntmps6
  go_wp2_with fail
  refine H1.out.mono ?_
  rintro e w1 ⟨rfl, hb1⟩
  have B1 := hidD (((Below.refl w.heap.size w).alloc (Nat.le_refl _) _).trans (hb1.mono (by simp)))
  clear hb1 H1
  go_wp2_with fail
  refine (H2.out w1).mono ?_
  rintro e w2 ⟨rfl, hb2⟩
  have B2 := hidD ((B1.out.alloc B1.out.size _).trans (hb2.mono (by have := B1.out.size; simp; omega)))
  clear hb2 H2 B1
  go_wp2
  go_ret
  exact ⟨rfl, B2.out⟩

theorem RoomyE.left {w : World} {g : Nat} {l : List EntD} (h : EntsAt w g 0 (l ++ [mineE])) : EntsAt w g 0 l := fun k hk j v hv => h k (by simp; omega) j v (by rw [List.getElem_append_left hk]; exact hv)
theorem Roomy.left {w : World} {g : Nat} {l : List OpD} (h : OpsAt w g 0 (l ++ [mine])) : OpsAt w g 0 l := fun k hk j v hv => h k (by simp; omega) j v (by rw [List.getElem_append_left hk]; exact hv)

/-- The argument, and what stands for it with spare room. -/
inductive PairAt (w : World) : Value → Value → List EntD → Prop
  | nil : PairAt w (.slice none 0 0) (.slice none 0 0) []
  | row (b off c B g cap : Nat) (l : List EntD) (hb : b < w.heap.size) (he : EntsAt w b off l) (h : RoomyE w B g cap l) : PairAt w (.slice (some ⟨b, off, none⟩) l.length c) (.slice (some ⟨g, 0, none⟩) l.length cap) l
theorem RoomyE.bel {w w' : World} {B g cap : Nat} {l : List EntD} (h : RoomyE w B g cap l) (hb : Below w.heap.size w w') : RoomyE w' B g cap l := ⟨h.1, by have := hb.size; have := h.2.1; omega, h.2.2.1, h.2.2.2.1, h.2.2.2.2.below hb h.2.1⟩
theorem Roomy.bel {w w' : World} {B g cap : Nat} {l : List OpD} (h : Roomy w B g cap l) (hb : Below w.heap.size w w') : Roomy w' B g cap l := ⟨h.1, by have := hb.size; have := h.2.1; omega, h.2.2.1, h.2.2.2.1, h.2.2.2.2.below hb h.2.1⟩
theorem PairAt.below {w w' : World} {v v' : Value} {l : List EntD} (h : PairAt w v v' l) (hb : Below w.heap.size w w') : PairAt w' v v' l := by
  cases h with
  | nil => exact .nil
  | row b off c B g cap l hlt he h => exact .row b off c B g cap l (by have := hb.size; omega) (he.below hb hlt) (h.bel hb)
theorem PairAt.rm {w : World} {v v' : Value} {l : List EntD} (h : PairAt w v v' l) : RowAt w v' l := by
  cases h with
  | nil => exact .nil
  | row b off c B g cap l hlt he h => exact .row g 0 cap l h.2.1 (by have := h.2.2.1; omega) h.2.2.2.1 (RoomyE.left h.2.2.2.2)
theorem roomy_u {w : World} {v : Value} {l : List EntD} (h : RowAt w v l) (hl : l.length ≤ 2000000) : Calls Tryz.prog 7 #[v] w fun e w' => ∃ v', e = .returned v' ∧ PairAt w' v v' l ∧ Below w.heap.size w w' := by
  cases h with
  | nil => exact (roomy_nil w).mono (fun e w' he => ⟨_, he.1, .nil, by rw [he.2]; exact Below.refl _ _⟩)
  | row b off cap l hlt hc hm h =>
    refine (roomy_any b off cap l w hl hlt h).mono ?_
    rintro e w' ⟨g, cap', rfl, hr, hb⟩
    exact ⟨_, rfl, .row b off cap _ g cap' l (by have := hb.size; omega) (h.below hb hlt) hr, hb⟩
theorem kept_u {w : World} {v v' : Value} {l : List EntD} (h : PairAt w v v' l) (hl : l.length ≤ 2000000) : Calls Tryz.prog 12 #[v', v] w fun e w' => e = .returned (.bool true) ∧ Below w.heap.size w w' := by
  cases h with
  | nil => exact (keptE_nil w).mono (fun e w' he => ⟨he.1, by rw [he.2]; exact Below.refl _ _⟩)
  | row b off c B g cap l hlt he h => exact keptE_any g cap b off c l w B hl h he

inductive OpPair (w : World) : Value → Value → List OpD → Prop
  | nil : OpPair w (.slice none 0 0) (.slice none 0 0) []
  | row (b off c B g cap : Nat) (l : List OpD) (hb : b < w.heap.size) (he : OpsAt w b off l) (h : Roomy w B g cap l) : OpPair w (.slice (some ⟨b, off, none⟩) l.length c) (.slice (some ⟨g, 0, none⟩) l.length cap) l
theorem OpPair.below {w w' : World} {v v' : Value} {l : List OpD} (h : OpPair w v v' l) (hb : Below w.heap.size w w') : OpPair w' v v' l := by
  cases h with
  | nil => exact .nil
  | row b off c B g cap l hlt he h => exact .row b off c B g cap l (by have := hb.size; omega) (he.below hb hlt) (h.bel hb)
theorem OpPair.rm {w : World} {v v' : Value} {l : List OpD} (h : OpPair w v v' l) : OpRow w v' l := by
  cases h with
  | nil => exact .nil
  | row b off c B g cap l hlt he h => exact .row g 0 cap l h.2.1 (Roomy.left h.2.2.2.2)
theorem roomyOps_u {w : World} {v : Value} {l : List OpD} (h : OpRow w v l) (hl : l.length ≤ 2000000) : Calls Tryz.prog 8 #[v] w fun e w' => ∃ v', e = .returned v' ∧ OpPair w' v v' l ∧ Below w.heap.size w w' := by
  cases h with
  | nil => exact (roomyOps_nil w).mono (fun e w' he => ⟨_, he.1, .nil, by rw [he.2]; exact Below.refl _ _⟩)
  | row b off cap l hlt h =>
    refine (roomyOps_any b off cap l w hl hlt h).mono ?_
    rintro e w' ⟨g, cap', rfl, hr, hb⟩
    exact ⟨_, rfl, .row b off cap _ g cap' l (by have := hb.size; omega) (h.below hb hlt) hr, hb⟩
theorem keptOps_u {w : World} {v v' : Value} {l : List OpD} (h : OpPair w v v' l) (hl : l.length ≤ 2000000) : Calls Tryz.prog 13 #[v', v] w fun e w' => e = .returned (.bool true) ∧ Below w.heap.size w w' := by
  cases h with
  | nil => exact (keptOps_nil w).mono (fun e w' he => ⟨he.1, by rw [he.2]; exact Below.refl _ _⟩)
  | row b off c B g cap l hlt he h => exact keptOps_any g cap b off c l w B hl h he

set_option maxHeartbeats 1000000 in
theorem same0 (a1 a2 : Option Addr) (c1 c2 : Nat) (w : World) :
    Calls Tryz.prog 11 #[.slice a1 0 c1, .slice a2 0 c2] w fun e w' => e = .returned (.bool true) ∧ w' = w := by
  go_enter Tryz.func11, Tryz.ntmps11
  go_wp2
  refine wp_loop_rounds 1 ?_
  rw [rounds_succ]
  go_wp2
  go_ret
  exact ⟨rfl, rfl⟩
theorem sameF {w : World} {v1 v2 : Value} {M : List EntD} (h1 : RowAt w v1 M) (h2 : RowAt w v2 M) (hl : M.length ≤ 2000000) :
    Calls Tryz.prog 11 #[v1, v2] w fun e w' => e = .returned (.bool true) ∧ Below w.heap.size w w' := by
  by_cases h0 : M = []
  · obtain ⟨a1, c1, rfl⟩ := h1.val
    obtain ⟨a2, c2, rfl⟩ := h2.val
    subst h0
    exact (same0 a1 a2 c1 c2 w).mono (by rintro e w' ⟨rfl, rfl⟩; exact ⟨rfl, Below.refl _ _⟩)
  · cases h1 with
    | nil => exact absurd rfl h0
    | row b1 o1 c1 l hb1 hc1 hm1 e1 =>
      cases h2 with
      | nil => exact absurd rfl h0
      | row b2 o2 c2 l hb2 hc2 hm2 e2 => exact (sameE_any b1 o1 c1 b2 o2 c2 M w hl e1 e2).mono (by rintro e w' ⟨rfl, n, rfl⟩; exact ⟨rfl, below_drewE _ n⟩)

/-! What both Trys tell, in one form. -/
def rM (x : Except (Int × Int) (List EntD × Int)) : List EntD := match x with | .error _ => [] | .ok (M, _) => M
def rN (x : Except (Int × Int) (List EntD × Int)) : Int := match x with | .error _ => 0 | .ok (_, n) => n
def rC (x : Except (Int × Int) (List EntD × Int)) : Int := match x with | .error (c, _) => c | .ok _ => 0
def rK (x : Except (Int × Int) (List EntD × Int)) : Int := match x with | .error (_, k) => k | .ok _ => 0
theorem TryA.one {w : World} {x : Except (Int × Int) (List EntD × Int)} {r : Ending} {w' : World} (h : TryA w x r w') : ∃ v, r = .returned (.tuple #[v, .int .i64 (rN x), .int .i64 (rC x), .int .i64 (rK x)]) ∧ w'.ownsRow w.heap.size 75 5 v (rM x).length (flatE (rM x)) ∧ Below w.heap.size w w' := by
  cases x with
  | error ck =>
    obtain ⟨c, k⟩ := ck
    exact ⟨_, h.1, World.ownsRow_nil _ _ _ _, h.2⟩
  | ok mn =>
    obtain ⟨M, n⟩ := mn
    exact h
theorem RTryA.one {w : World} {x : Except (Int × Int) (List EntD × Int)} {r : Ending} {w' : World} (h : RTryA w x r w') : ∃ v, r = .returned (.tuple #[v, .int .i64 (rN x), .int .i64 (rC x), .int .i64 (rK x)]) ∧ RowAt w' v (rM x) ∧ Below w.heap.size w w' := by
  cases x with
  | error ck =>
    obtain ⟨c, k⟩ := ck
    exact ⟨_, h.1, .nil, h.2⟩
  | ok mn =>
    obtain ⟨M, n⟩ := mn
    exact h

set_option maxHeartbeats 1000000 in
theorem faceTry {w : World} {v1 v2 : Value} {fold : Bool} {x : Except (Int × Int) (List EntD × Int)} (h : Calls Tryz.prog 30 #[v1, .bool fold, v2] w fun r w' => TryA w x r w') :
    Calls Tryz.prog 9 #[v1, .bool fold, v2] w fun r w' => ∃ v, r = .returned (.tuple #[v, .int .i64 (rN x), .int .i64 (rC x), .int .i64 (rK x)]) ∧ w'.ownsRow w.heap.size 75 5 v (rM x).length (flatE (rM x)) ∧ Below w.heap.size w w' := by
  have H := hidD (h.mono (fun r w' hr => hr.one))
  clear h
  go_enter Tryz.func9, Tryz.ntmps9
  go_wp2_with fail
  refine H.out.mono ?_
  rintro e w1 ⟨v, rfl, ho, hb⟩
  have HO := hidD ho
  clear ho
  go_wp2
  refine bodyPost_ret (results_tmp4 rfl _ _ _) rfl ?_
  exact ⟨_, rfl, HO.out, hb⟩

theorem try_vol {fold : Bool} {space : Int} : ∀ (l : List OpD) (L : List EntD) (need : Int) (i : Nat) (M : List EntD) (n : Int), VolOk fold L → (∀ o ∈ l, OpGood o) → tryL fold space L need l i = .ok (M, n) → VolOk fold M := by
  intro l
  induction l with
  | nil =>
    intro L need i M n V _ h
    rw [tryL] at h
    cases h
    exact V
  | cons o t ih =>
    intro L need i M n V ho h
    rw [tryL] at h
    cases hd : doL fold space L o with
    | error c => rw [hd] at h; cases h
    | ok L' =>
      rw [hd] at h
      exact ih L' _ _ M n (do_ok V (ho o (by simp)) hd) (fun x hx => ho x (by simp [hx])) h
theorem tryP_len (fold : Bool) (space : Int) (L : List EntD) (l : List OpD) : (rM (tryP fold space L l)).length ≤ 120 := by
  unfold tryP
  split
  · simp [rM]
  · next ht =>
    split
    · simp [rM]
    · next hf =>
      have hsg := script_good (by simpa using hf)
      cases hx : tryL fold space L (usedL L) l 0 with
      | error ck => obtain ⟨c, k⟩ := ck; simp [rM]
      | ok mn =>
        obtain ⟨M, n⟩ := mn
        exact (try_vol l L _ _ M n (tree_vol (by simpa using ht)) (fun o ho => okOp_good (hsg.2 o ho)) hx).few
theorem tryP_space (fold : Bool) (L : List EntD) (l : List OpD) : tryP fold 1099511627776 L l = tryP fold 9223372036854775807 L l := by
  unfold tryP
  split
  · rfl
  · next ht =>
    split
    · rfl
    · next hf =>
      have hsg := script_good (by simpa using hf)
      rw [try_space (s1 := 1099511627776) (s2 := 9223372036854775807) (by decide) (by decide) l L (usedL L) 0 (tree_vol (by simpa using ht)) (fun o ho => okOp_good (hsg.2 o ho))]

/-! The book between the rounds. -/
def Qs (w : World) (cs : List Value) : Prop := ∀ (i : Nat) (h : i < cs.length), ∃ q n base vl, cs[i] = .slice (some ⟨q, 0, none⟩) 4 4 ∧ Quaden base i n vl q w ∧ n ≤ 3000000
structure LawInv (w0 : World) (bk kk : Nat) (w : World) : Prop where
  bel : Below w0.heap.size w0 w
  lt : w0.heap.size ≤ bk
  ex : ∃ cv cs, w.heap[bk]? = some (.cells #[cv, .slice none 0 0, .slice none 0 0] 30 (0, 0)) ∧ w.ownsRow w0.heap.size 81 1 cv kk cs ∧ cs.length = kk ∧ Qs w cs
theorem row_same {w w' : World} {base e size n : Nat} {v : Value} {xs : List Value} (h : w.ownsRow base e size v n xs) (hk : ∀ b, v.ownBlock = some b → w'.heap[b]? = w.heap[b]?) : w'.ownsRow base e size v n xs := by
  refine ⟨h.1, ?_⟩
  rcases h.2 with hn | ⟨g, cap, cur, rfl, hb, hg, rest⟩
  · exact .inl hn
  · exact .inr ⟨g, cap, cur, rfl, hb, (hk g rfl).trans hg, rest⟩
theorem Quaden.same {w w' : World} {base k n q : Nat} {vl : Value} (h : Quaden base k n vl q w) (hq : ∀ c : Array Value, w.heap[q]? = some (Obj.cells c 22 (0, 0)) → w'.heap[q]? = w.heap[q]?) (hr : ∀ b u p xs, w.ownsRow b 75 5 u p xs → w'.ownsRow b 75 5 u p xs) : Quaden base k n vl q w' := by
  obtain ⟨u1, u2, u6, h0, h1, h2, h3, h4⟩ := h
  exact ⟨u1, u2, u6, (hq _ h0).trans h0, hr _ _ _ _ h1, hr _ _ _ _ h2, hr _ _ _ _ h3, hr _ _ _ _ h4⟩
theorem Qs.same {w w' : World} {cs : List Value} (h : Qs w cs) (hq : ∀ (q : Nat) (c : Array Value), w.heap[q]? = some (Obj.cells c 22 (0, 0)) → w'.heap[q]? = w.heap[q]?) (hr : ∀ b u p xs, w.ownsRow b 75 5 u p xs → w'.ownsRow b 75 5 u p xs) : Qs w' cs := by
  intro i hi
  obtain ⟨q, n, base, vl, e, hQ, hn⟩ := h i hi
  exact ⟨q, n, base, vl, e, hQ.same (hq q) hr, hn⟩
theorem LawInv.below {w0 w w' : World} {bk kk : Nat} (h : LawInv w0 bk kk w) (hb : Below w.heap.size w w') : LawInv w0 bk kk w' := by
  obtain ⟨hbel, hlt, cv, cs, h1, h2, h3, h4⟩ := h
  refine ⟨hbel.trans (hb.mono hbel.size), hlt, cv, cs, (hb.block bk (Array.getElem?_eq_some_iff.1 h1).1).trans h1, own_below hb h2, h3, h4.same (fun q c hc => hb.block q (Array.getElem?_eq_some_iff.1 hc).1) (fun b u p xs hx => own_below hb hx)⟩
theorem LawInv.start (w0 w : World) (hb : Below w0.heap.size w0 w) : LawInv w0 w.heap.size 0 (w.alloc (.cells #[.slice none 0 0, .slice none 0 0, .slice none 0 0] 30)) :=
  ⟨hb.alloc hb.size _, hb.size, _, [], heap_alloc_new w _, World.ownsRow_nil _ _ _ _, rfl, fun i hi => by simp at hi⟩

/-- A list is taken. -/
theorem book_u {w0 wr w : World} {bk kk B n : Nat} {v : Value} {xs : List Value} (h0 : LawInv w0 bk kk wr) (hb : Below wr.heap.size wr w) (hB : wr.heap.size ≤ B) (hBw : B ≤ w.heap.size) (hk : kk ≤ 3000000) (hn : n ≤ 3000000) (hv : w.ownsRow B 75 5 v n xs) :
    Calls Tryz.prog 15 #[.pointer (some ⟨bk, 0, none⟩), v] w fun e w' => e = .returned (.tuple #[]) ∧ LawInv w0 bk (kk + 1) w' ∧ w.heap.size ≤ w'.heap.size := by
  obtain ⟨hbel0, hlt, cv, cs, i1, i2, i3, i4⟩ := h0
  have hsz := hb.size
  have hs00 := hbel0.size
  have hbel := hbel0.trans (hb.mono hs00)
  have h1 := (hb.block bk (Array.getElem?_eq_some_iff.1 i1).1).trans i1
  have h2 := own_below hb i2
  have hs0 := hbel.size
  have key : Calls Tryz.prog 15 #[.pointer (some ⟨bk, 0, none⟩), v] w fun e w' => e = .returned (.tuple #[]) ∧ Tooken B w0.heap.size bk kk n v cv (.slice none 0 0) (.slice none 0 0) cs w w' := by
    rcases hv.2 with ⟨rfl, rfl⟩ | ⟨g, cap, cur, rfl, hrest⟩
    · exact bookEntry_nil bk B w0.heap.size kk cv _ _ cs w hk hBw hs0 h1 h2
    · exact bookEntry_some bk B w0.heap.size kk n g cap xs cv _ _ cs w hk hn hBw hs0 h1 h2 hv
  refine key.mono ?_
  rintro e w' ⟨rfl, ⟨cv', q, t1, t2, t3, t4⟩, told, tos, ttp, tout, tsz⟩
  refine ⟨rfl, ?_, tsz⟩
  have hvB : ∀ b, v.ownBlock = some b → B ≤ b := fun b e => (hv.lt b e).1
  have hcB : ∀ b, cv.ownBlock = some b → w0.heap.size ≤ b := fun b e => (h2.lt b e).1
  have hbel2 : Below w0.heap.size w0 w' := by
    refine ⟨tos.trans hbel.os, ttp.trans hbel.tape, tout.trans hbel.output, by omega, fun b hb0 => ?_⟩
    refine (told b (by omega) (by omega) (fun e => ?_) (fun e => ?_)).trans (hbel.block b hb0)
    · have := hvB b e; omega
    · have := hcB b e; omega
  have oldB : ∀ b, b < wr.heap.size → b ≠ bk → cv.ownBlock ≠ some b → w'.heap[b]? = wr.heap[b]? := fun b hb0 hne hc =>
    (told b (by omega) hne (fun e => by have := hvB b e; omega) hc).trans (hb.block b hb0)
  have hQ : Qs w' cs := by
    refine i4.same (fun q c hc => ?_) (fun b u p xs hx => ?_)
    · refine oldB q (Array.getElem?_eq_some_iff.1 hc).1 (fun e => ?_) (row_far i2 hc (by decide))
      rw [e, i1] at hc
      simp at hc
    · refine row_same hx (fun b' e => oldB b' (hx.lt b' e).2 (fun e2 => row_far hx i1 (by decide) (by rw [e, e2])) (fun e2 => ?_))
      rcases row_apart hx i2 (by decide) with h | h
      · rw [e] at h; cases h
      · exact h (by rw [e, e2])
  refine ⟨hbel2, hlt, cv', cs ++ [.slice (some ⟨q, 0, none⟩) 4 4], t1, t4, by simp [i3], fun i hi => ?_⟩
  by_cases he : i < cs.length
  · obtain ⟨q', n', base', vl', e, hQ', hn'⟩ := hQ i he
    exact ⟨q', n', base', vl', by rw [List.getElem_append_left he]; exact e, hQ', hn'⟩
  · have hi' : i = kk := by simp at hi; omega
    subst hi'
    exact ⟨q, n, B, v, by rw [List.getElem_append_right (by omega)]; simp [i3], t3, hn⟩
theorem Qs.book {w : World} {cs : List Value} (h : Qs w cs) : Booken w cs := by
  intro i hi
  obtain ⟨q, n, base, vl, e, hQ, hn⟩ := h i hi
  exact ⟨q, e, quad_marked hQ hn⟩

end Go.Proofs.YtehkdjdflgknnaaGreatDoor

/- The law itself: the call of Tries answers true. -/
namespace Go.Proofs.YtehkdjdflgknnaaGreatDoor
open Go.RowKit
set_option linter.unusedVariables false
set_option linter.unusedSimpArgs false

set_option maxHeartbeats 8000000 in
set_option maxRecDepth 100000 in
theorem tries_any (v1 v2 : Value) (fold : Bool) (S : List EntD) (l : List OpD) (w : World) (hg : Gd w) (h1 : RowAt w v1 S) (h2 : OpRow w v2 l) (l1 : S.length ≤ 2000000) (l2 : l.length ≤ 2000000) (s1 : ∀ o ∈ S, o.small) (s2 : ∀ o ∈ l, o.small) :
    Calls Tryz.prog 3 #[v1, .bool fold, v2] w fun e w' => e = .returned (.bool true) ∧ Below w.heap.size w w' := by
  have H1 := hidD h1
  have H2 := hidD h2
  have HG := hidD hg
  have HS1 := hidD s1
  have HS2 := hidD s2
  obtain ⟨X, hX⟩ : ∃ X, tryP fold 9223372036854775807 S l = X := ⟨_, rfl⟩
  have hLL : (rM X).length ≤ 120 := by rw [← hX]; exact tryP_len _ _ _ _
  have HXp := hidD hX
  have HXr : Hid (tryP fold 1099511627776 S l = X) := (tryP_space fold S l).trans hX
  clear h1 h2 s1 s2 hg hX
  go_enter Tryz.func3, Tryz.ntmps3
  go_wp2_with fail
  refine (alive_any w).mono ?_
  rintro e w1 ⟨rfl, hb1⟩
  have I0 := hidD (LawInv.start w w1 hb1)
  clear hb1
  go_wp2
  go_loopw [9] (fun k wr => ∃ kk : Nat, kk ≤ 2 ∧ k = .int .i64 kk ∧ LawInv w w1.heap.size kk wr) (fun k _ => 2 - (intOf k).toNat)
  case atStart => exact ⟨0, by omega, rfl, I0.out⟩
  case round =>
    obtain ⟨kk, hkk, rfl, hinv⟩ := hrel
    have HI := hidD hinv
    clear hinv I0
    by_cases hlt : kk < 2
    · go_wp2_with fail
      refine (roomy_u (H1.out.below HI.out.bel (Nat.le_refl _)) l1).mono ?_
      rintro e w2 ⟨x, rfl, px, hb2⟩
      have PX2 := hidD px
      have B2 := hidD hb2
      clear px hb2
      go_wp2_with fail
      refine (roomyOps_u (H2.out.below (HI.out.bel.trans (B2.out.mono HI.out.bel.size)) (Nat.le_refl _)) l2).mono ?_
      rintro e w3 ⟨y, rfl, py, hb3⟩
      have PX3 := hidD (PX2.out.below hb3)
      have PY3 := hidD py
      have B3 := hidD (B2.out.trans (hb3.mono B2.out.size))
      clear py hb3 PX2 B2
      go_wp2_with fail
      refine (faceTry (vTry fold PX3.out.rm ⟨l1, HS1.out⟩ (HG.out.below (HI.out.bel.trans (B3.out.mono HI.out.bel.size))) PY3.out.rm l2 HS2.out X HXp.out)).mono ?_
      rintro e w4 ⟨vt, rfl, ho, hb4⟩
      have PX4 := hidD (PX3.out.below hb4)
      have PY4 := hidD (PY3.out.below hb4)
      have O4 := hidD ho
      have hz34 := hb4.size
      have B4 := hidD (B3.out.trans (hb4.mono B3.out.size))
      have hz3 := B3.out.size
      clear ho hb4 PX3 PY3 B3
      go_wp2_with fail
      refine (Calls.mono (refTry fold (H1.out.below (HI.out.bel.trans (B4.out.mono HI.out.bel.size)) (Nat.le_refl _)) ⟨l1, HS1.out⟩ (H2.out.below (HI.out.bel.trans (B4.out.mono HI.out.bel.size)) (Nat.le_refl _)) l2 HS2.out X HXr.out) ?_)
      intro e w5 hpost
      obtain ⟨vu, rfl, hm, hb5⟩ := hpost.one
      clear hpost
      have PX5 := hidD (PX4.out.below hb5)
      have PY5 := hidD (PY4.out.below hb5)
      have O5 := hidD (own_below hb5 O4.out)
      have M5 := hidD hm
      have hz45 := hb5.size
      have B5 := hidD (B4.out.trans (hb5.mono B4.out.size))
      clear hm hb5 PX4 PY4 O4 B4
      go_wp2_with fail
      refine (sameF (RowAt.ofOwn O5.out) M5.out (by omega)).mono ?_
      rintro e w6 ⟨rfl, bd⟩
      have PX6 := hidD (PX5.out.below bd)
      have PY6 := hidD (PY5.out.below bd)
      have O6 := hidD (own_below bd O5.out)
      have B6 := hidD (B5.out.trans (bd.mono B5.out.size))
      have hz56 := bd.size
      clear bd PX5 PY5 O5 M5 B5
      go_wp2_with fail
      refine (kept_u PX6.out l1).mono ?_
      rintro e w7 ⟨rfl, hb7⟩
      have PY7 := hidD (PY6.out.below hb7)
      have O7 := hidD (own_below hb7 O6.out)
      have B7 := hidD (B6.out.trans (hb7.mono B6.out.size))
      have hz67 := hb7.size
      clear hb7 PX6 PY6 O6 B6
      go_wp2_with fail
      refine (keptOps_u PY7.out l2).mono ?_
      rintro e w8 ⟨rfl, hb8⟩
      have O8 := hidD (own_below hb8 O7.out)
      have B8 := hidD (B7.out.trans (hb8.mono B7.out.size))
      have hz78 := hb8.size
      clear hb8 PY7 O7 B7
      have e1 : (rN X != rN X) = false := by simp
      have e2 : (rC X != rC X) = false := by simp
      have e3 : (rK X != rK X) = false := by simp
      have HBU := hidD (book_u HI.out B8.out hz3 (by omega) (by omega) (by omega) O8.out)
      go_wp2_with (go_at_call 14; refine (num_anyL _ _).mono ?_; rintro e w' ⟨rfl, rfl⟩)
      refine HBU.out.mono ?_
      rintro e w9 ⟨rfl, hi9, _⟩
      have HI9 := hidD hi9
      clear hi9 HBU HI O8 B8
      go_wp2
      exact ⟨⟨kk + 1, by omega, by go_num, HI9.out⟩, by simp [intOf]; omega⟩
    · have hk2 : kk = 2 := by omega
      subst hk2
      obtain ⟨hbel, hlt2, cv, cs, i1, i2, i3, i4⟩ := HI.out
      obtain ⟨g, cap, hcv, _⟩ := row_some i2 (by omega)
      rw [hcv, ← i3] at i1 i2
      have HK := hidD (looks_en w1.heap.size w.heap.size g cap cs wr (by omega) i1 i2 i4.book)
      clear i1 i2 i4 hcv
      have HBL := hidD hbel
      clear hbel
      go_wp2_with fail
      refine HK.out.mono ?_
      rintro e w9 ⟨rfl, nn, rfl⟩
      go_wp2
      go_ret
      exact ⟨rfl, HBL.out.trans ⟨rfl, rfl, rfl, Nat.le_refl _, fun _ _ => rfl⟩⟩
end Go.Proofs.YtehkdjdflgknnaaGreatDoor

