/- What the law Tries leans on: what is handed in, what comes out, the book between the rounds. -/
import Derived.Test.YtpjjagalekolaaaGreatDoorP29XH
import Derived.Test.YtpjjagalekolaaaGreatDoorP42
namespace Go.Proofs.YtpjjagalekolaaaGreatDoor
open Go.RowKit
set_option linter.unusedVariables false
set_option linter.unusedSimpArgs false

set_option maxHeartbeats 400000 in
theorem num_anyL (n : Int) (w : World) :
    Calls Tryz.prog 14 #[.int .i64 n] w fun e w' => e = .returned (.int .i64 n) ∧ w' = w := by
  go_enter Tryz.func14, Tryz.ntmps14
  go_wp2
  go_ret
  exact ⟨rfl, rfl⟩

def dirD : EntD := ⟨⟨#[100]⟩, true, 0, 0, 7⟩
def fileD : EntD := ⟨⟨#[100, 47, 102]⟩, false, 5, 0, 0⟩
theorem dirD_small : ∀ o ∈ [dirD], o.small := by
  intro o ho
  simp only [List.mem_singleton] at ho
  subst ho
  unfold EntD.small
  decide
theorem fileD_small : ∀ o ∈ [fileD], o.small := by
  intro o ho
  simp only [List.mem_singleton] at ho
  subst ho
  unfold EntD.small
  decide
theorem chk_dir : chkP [dirD] = (0, 0) := by kernel_rfl
theorem chk_file : chkP [fileD] = (2, 0) := by kernel_rfl

set_option maxHeartbeats 1000000 in
theorem aliveL (w : World) : Calls Tryz.prog 7 #[] w fun e w' => e = .returned (.bool true) ∧ Below w.heap.size w w' := by
  have H1 := hidD (convoyCheck_any w.heap.size 0 1 [dirD] (w.alloc (.cells #[.string ⟨#[100]⟩, .bool true, .int .i64 0, .int .i64 0, .int .i64 7] 56)) (by simp) (by simp) dirD_small (by simp) (cells_new w dirD))
  have H2 := hidD (fun u : World => convoyCheck_any u.heap.size 0 1 [fileD] (u.alloc (.cells #[.string ⟨#[100, 47, 102]⟩, .bool false, .int .i64 5, .int .i64 0, .int .i64 0] 56)) (by simp) (by simp) fileD_small (by simp) (cells_new u fileD))
  rw [chk_dir] at H1
  rw [chk_file] at H2
  go_enter Tryz.func7, Tryz.ntmps7
  go_wp2_with fail
  refine H1.out.mono ?_
  rintro e w1 ⟨rfl, hb1⟩
  have B1 := hidD (((Below.refl w.heap.size w).alloc (Nat.le_refl _) _).trans (hb1.mono (by simp)))
  clear hb1 H1
  go_wp2_with fail
  refine (H2.out w1).mono ?_
  rintro e w2 ⟨rfl, hb2⟩
  have B2 := hidD ((B1.out.alloc B1.out.size _).trans (hb2.mono (by have := B1.out.size; simp; omega)))
  clear hb2 H2 B1
  go_wp2
  go_ret
  exact ⟨rfl, B2.out⟩

theorem RoomyE.left {w : World} {g : Nat} {l : List EntD} (h : EntsAt w g 0 (l ++ [mineE])) : EntsAt w g 0 l := fun k hk j v hv => h k (by simp; omega) j v (by rw [List.getElem_append_left hk]; exact hv)
/-- The argument, and what stands for it with spare room. -/
inductive PairAt (w : World) : Value → Value → List EntD → Prop
  | nil : PairAt w (.slice none 0 0) (.slice none 0 0) []
  | row (b off c B g cap : Nat) (l : List EntD) (hb : b < w.heap.size) (he : EntsAt w b off l) (h : RoomyE w B g cap l) : PairAt w (.slice (some ⟨b, off, none⟩) l.length c) (.slice (some ⟨g, 0, none⟩) l.length cap) l
theorem RoomyE.bel {w w' : World} {B g cap : Nat} {l : List EntD} (h : RoomyE w B g cap l) (hb : Below w.heap.size w w') : RoomyE w' B g cap l := ⟨h.1, by have := hb.size; have := h.2.1; omega, h.2.2.1, h.2.2.2.1, h.2.2.2.2.below hb h.2.1⟩
theorem PairAt.below {w w' : World} {v v' : Value} {l : List EntD} (h : PairAt w v v' l) (hb : Below w.heap.size w w') : PairAt w' v v' l := by
  cases h with
  | nil => exact .nil
  | row b off c B g cap l hlt he h => exact .row b off c B g cap l (by have := hb.size; omega) (he.below hb hlt) (h.bel hb)
theorem PairAt.rm {w : World} {v v' : Value} {l : List EntD} (h : PairAt w v v' l) : RowAt w v' l := by
  cases h with
  | nil => exact .nil
  | row b off c B g cap l hlt he h => exact .row g 0 cap l h.2.1 (by have := h.2.2.1; omega) h.2.2.2.1 (RoomyE.left h.2.2.2.2)
theorem roomy_u {w : World} {v : Value} {l : List EntD} (h : RowAt w v l) (hl : l.length ≤ 2000000) : Calls Tryz.prog 8 #[v] w fun e w' => ∃ v', e = .returned v' ∧ PairAt w' v v' l ∧ Below w.heap.size w w' := by
  cases h with
  | nil => exact (roomy_nil w).mono (fun e w' he => ⟨_, he.1, .nil, by rw [he.2]; exact Below.refl _ _⟩)
  | row b off cap l hlt hc hm h =>
    refine (roomy_any b off cap l w hl hlt h).mono ?_
    rintro e w' ⟨g, cap', rfl, hr, hb⟩
    exact ⟨_, rfl, .row b off cap _ g cap' l (by have := hb.size; omega) (h.below hb hlt) hr, hb⟩
theorem kept_u {w : World} {v v' : Value} {l : List EntD} (h : PairAt w v v' l) (hl : l.length ≤ 2000000) : Calls Tryz.prog 12 #[v', v] w fun e w' => e = .returned (.bool true) ∧ Below w.heap.size w w' := by
  cases h with
  | nil => exact (keptE_nil w).mono (fun e w' he => ⟨he.1, by rw [he.2]; exact Below.refl _ _⟩)
  | row b off c B g cap l hlt he h => exact keptE_any g cap b off c l w B hl h he

set_option maxHeartbeats 1000000 in
theorem same0 (a1 a2 : Option Addr) (c1 c2 : Nat) (w : World) :
    Calls Tryz.prog 16 #[.slice a1 0 c1, .slice a2 0 c2] w fun e w' => e = .returned (.bool true) ∧ w' = w := by
  go_enter Tryz.func16, Tryz.ntmps16
  go_wp2
  refine wp_loop_rounds 1 ?_
  rw [rounds_succ]
  go_wp2
  go_ret
  exact ⟨rfl, rfl⟩
theorem sameF {w : World} {v1 v2 : Value} {M : List EntD} (h1 : RowAt w v1 M) (h2 : RowAt w v2 M) (hl : M.length ≤ 2000000) :
    Calls Tryz.prog 16 #[v1, v2] w fun e w' => e = .returned (.bool true) ∧ Below w.heap.size w w' := by
  by_cases h0 : M = []
  · obtain ⟨a1, c1, rfl⟩ := h1.val
    obtain ⟨a2, c2, rfl⟩ := h2.val
    subst h0
    exact (same0 a1 a2 c1 c2 w).mono (by rintro e w' ⟨rfl, rfl⟩; exact ⟨rfl, Below.refl _ _⟩)
  · cases h1 with
    | nil => exact absurd rfl h0
    | row b1 o1 c1 l hb1 hc1 hm1 e1 =>
      cases h2 with
      | nil => exact absurd rfl h0
      | row b2 o2 c2 l hb2 hc2 hm2 e2 => exact (sameE_any b1 o1 c1 b2 o2 c2 M w hl e1 e2).mono (by rintro e w' ⟨rfl, n, rfl⟩; exact ⟨rfl, below_drewE _ n⟩)

/-! What both Trys tell, in one form. -/
def rM (x : Except (Int × Int) (List EntD × Int)) : List EntD := match x with | .error _ => [] | .ok (M, _) => M
def rN (x : Except (Int × Int) (List EntD × Int)) : Int := match x with | .error _ => 0 | .ok (_, n) => n
def rC (x : Except (Int × Int) (List EntD × Int)) : Int := match x with | .error (c, _) => c | .ok _ => 0
def rK (x : Except (Int × Int) (List EntD × Int)) : Int := match x with | .error (_, k) => k | .ok _ => 0
theorem RTryA.one {w : World} {x : Except (Int × Int) (List EntD × Int)} {r : Ending} {w' : World} (h : RTryA w x r w') : ∃ v, r = .returned (.tuple #[v, .int .i64 (rN x), .int .i64 (rC x), .int .i64 (rK x)]) ∧ RowAt w' v (rM x) ∧ Below w.heap.size w w' := by
  cases x with
  | error ck =>
    obtain ⟨c, k⟩ := ck
    exact ⟨_, h.1, .nil, h.2⟩
  | ok mn =>
    obtain ⟨M, n⟩ := mn
    exact h

theorem tryP_space (fold : Bool) (L : List EntD) (l : List OpD) : tryP fold 1099511627776 L l = tryP fold 9223372036854775807 L l := by
  unfold tryP
  split
  · rfl
  · next ht =>
    split
    · rfl
    · next hf =>
      have hsg := script_good (by simpa using hf)
      rw [try_space (s1 := 1099511627776) (s2 := 9223372036854775807) (by decide) (by decide) l L (usedL L) 0 (tree_vol (by simpa using ht)) (fun o ho => okOp_good (hsg.2 o ho))]

end Go.Proofs.YtpjjagalekolaaaGreatDoor

