/- The law at a slice of which nothing is read. -/
import Derived.Test.YtjaepomjdknieaaDoorY
namespace Go.Proofs.YtjaepomjdknieaaDoor
open Go.RowKit
set_option linter.unusedVariables false

set_option maxHeartbeats 2000000 in
set_option maxRecDepth 100000 in
theorem roomyOps_empty (a : Addr) (w : World) :
    Calls Tryd.prog 18 #[.slice (some a) 0 0] w fun e w' => ∃ g cap', e = .returned (.slice (some ⟨g, 0, none⟩) 0 cap') ∧ Roomy w' w.heap.size g cap' [] ∧ Below w.heap.size w w' := by
  obtain ⟨i0, hi, hz0, hz1', hz2⟩ := info_parts info71
  have hneq := fun (u : World) (a : Option Addr) (n c : Nat) => Lib.run_eql_slice_nil (P := Tryd.prog) u 46 71 a n c 0 0 Tryd.underlying46
  go_enter Tryd.func18, Tryd.ntmps18
  go_wp2_with (first | (at_builtin; refine wpList_append_own _ rfl (.const (.slice none 0 0)) (.tmp 5) 46 rfl w.heap.size 71 i0 _ 6 64 Tryd.underlying46 hi hz0 hz1' hz2 rfl (by decide) (.slice none 0 0) 0 [] rfl (World.ownsRow_nil _ _ _ _) a 0 0 [] rfl rfl (fun j u hu => by simp at hu) (fun u hu => by simp at hu) (by unfold maxLen; omega) (by omega) (Nat.le_refl _) ?_; intro v1 w1 hown1 hg1 _; simp only [Nat.zero_add, List.nil_append] at hown1; have hb1 := (Below.refl w.heap.size w).grown hg1 (Nat.le_refl _) (fun k hk => by simp [Value.ownBlock] at hk); have hz1 := hb1.size) | (at_builtin; refine wpList_append_own _ rfl (.tmp 6) (.tmp 8) 46 rfl w.heap.size 71 i0 _ 6 64 Tryd.underlying46 hi hz0 hz1' hz2 rfl (by decide) _ _ _ rfl (hown1.alloc _) ⟨_, 0, none⟩ 1 1 (flat [mine]) rfl rfl (mine_new _) (flat_one _) (by unfold maxLen; omega) (by omega) (by simp only [World.size_alloc]; omega) ?_; intro v2 w2 hown2 hg2 _; obtain ⟨g, cap2, hv2, hr⟩ := roomy_of (l := []) hown2; subst hv2; have hb2 := (hb1.alloc hz1 _).grown hg2 (by simp only [World.size_alloc]; omega) (fun k hk => (hown1.lt k hk).1); have hcap := hr.2.2.1; have hcm := hr.2.2.2.1))
  go_ret
  exact ⟨g, cap2, rfl, hr, hb2⟩

set_option maxHeartbeats 1000000 in
theorem wrong_empty (a : Addr) (w : World) :
    Calls Tryd.prog 38 #[.slice (some a) 0 0] w fun e w' => e = .returned (.int .i64 (-1)) ∧ w' = w := by
  go_enter Tryd.func38, Tryd.ntmps38
  go_wp2
  refine wp_loop_rounds 1 ?_
  rw [rounds_succ]
  go_wp2
  go_ret
  exact ⟨rfl, rfl⟩

set_option maxHeartbeats 1000000 in
set_option maxRecDepth 100000 in
theorem refEncode_empty (a : Addr) (w : World) :
    Calls Tryd.prog 20 #[.slice (some a) 0 0] w fun e w' => e = .returned (.tuple #[.string (encS []), .int .i64 (encE [])]) ∧ Below w.heap.size w w' := by
  have e0 : encS [] = ⟨(two8 0).toArray⟩ := by simp [encS, scriptB, enc8]
  have e1 : encE [] = 0 := by simp [encE, scriptB]
  rw [e0, e1]
  clear e0 e1
  go_enter Tryd.func20, Tryd.ntmps20
  go_wp2_with fail
  refine (wrong_empty a w).mono ?_
  rintro e w ⟨rfl, rfl⟩
  go_wp2_with fail
  refine (two_any 0 w (by omega) (by omega)).mono ?_
  rintro e w2 ⟨rfl, rfl⟩
  go_wp2_with fail
  refine wp_loop_rounds 1 ?_
  rw [rounds_succ]
  go_wp2
  go_ret2
  exact ⟨rfl, (Below.refl _ _).alloc (Nat.le_refl _) _⟩

set_option maxHeartbeats 1000000 in
set_option maxRecDepth 100000 in
theorem refPrint_empty (a : Addr) (w : World) :
    Calls Tryd.prog 22 #[.slice (some a) 0 0] w fun e w' => e = .returned (.tuple #[.string (prtS []), .int .i64 (encE [])]) ∧ w' = w := by
  have e0 : prtS [] = ⟨#[]⟩ := by simp [prtS, scriptB, prt8]
  have e1 : encE [] = 0 := by simp [encE, scriptB]
  rw [e0, e1]
  clear e0 e1
  go_enter Tryd.func22, Tryd.ntmps22
  go_wp2_with fail
  refine (wrong_empty a w).mono ?_
  rintro e w ⟨rfl, rfl⟩
  go_wp2_with fail
  refine wp_loop_rounds 1 ?_
  rw [rounds_succ]
  go_wp2
  go_ret2
  exact ⟨rfl, rfl⟩

set_option maxHeartbeats 1000000 in
theorem sameOps_empty (b a : Addr) (c1 : Nat) (w : World) :
    Calls Tryd.prog 26 #[.slice (some b) 0 c1, .slice (some a) 0 0] w fun e w' => e = .returned (.bool true) ∧ w' = w := by
  go_enter Tryd.func26, Tryd.ntmps26
  go_wp2
  refine wp_loop_rounds 1 ?_
  rw [rounds_succ]
  go_wp2
  go_ret
  exact ⟨rfl, rfl⟩

set_option maxHeartbeats 1000000 in
set_option maxRecDepth 100000 in
theorem keptOps_empty (g cg : Nat) (a : Addr) (w : World) (B : Nat) (hr : Roomy w B g cg []) :
    Calls Tryd.prog 23 #[.slice (some ⟨g, 0, none⟩) 0 cg, .slice (some a) 0 0] w fun e w' => e = .returned (.bool true) ∧ w' = w := by
  have hneq := fun (u : World) (a : Option Addr) (n c : Nat) => Lib.run_eql_slice_nil (P := Tryd.prog) u 46 71 a n c 0 0 Tryd.underlying46
  obtain ⟨hB, hg, hcap, hcm, hrow⟩ := hr
  have hm : w.cell? ⟨g, 1, none⟩ = some (.string ⟨#[109, 105, 110, 101]⟩) := by
    have := hrow 0 (by simp) 1 (.string ⟨#[109, 105, 110, 101]⟩) (by simp [mine, OpD.cells])
    simpa using this
  have hcap' : (1 : Int) ≤ (cg : Int) := by simp at hcap; omega
  unfold maxLen at hcm
  go_enter Tryd.func23, Tryd.ntmps23
  go_wp2_with fail
  refine (sameOps_empty ⟨g, 0, none⟩ a cg w).mono ?_
  rintro e w ⟨rfl, rfl⟩
  clear hrow
  go_wp2
  go_ret
  exact ⟨rfl, rfl⟩

set_option maxHeartbeats 2000000 in
set_option maxRecDepth 100000 in
theorem writes_empty (a : Addr) (w : World) (hg : Gd w) :
    Calls Tryd.prog 5 #[.slice (some a) 0 0] w fun e w' => e = .returned (.bool true) ∧ Below w.heap.size w w' := by
  have HG : Hid (Gd w) := hg
  clear hg
  go_enter Tryd.func5, Tryd.ntmps5
  go_wp2_with fail
  refine (roomyOps_empty a w).mono ?_
  rintro e w1 ⟨g, cg, rfl, hr1, hb1⟩
  have hz1 := hb1.size
  go_wp2_with fail
  refine (faceEncode_any _ _ _ w1 (encode_any g 0 cg [] w1 (HG.out.below hb1) (by simp) (fun o ho => by simp at ho) hr1.2.1 (fun k hk => by simp at hk))).mono ?_
  rintro e w2 ⟨rfl, hb2⟩
  have hz2 := hb2.size
  have B2 : Hid (Below w.heap.size w w2) := hb1.trans (hb2.mono hz1)
  have R2 : Hid (Roomy w2 w.heap.size g cg []) := hr1.below hb2
  clear hr1 hb2 hb1
  go_wp2_with fail
  refine (refEncode_empty a w2).mono ?_
  rintro e w3 ⟨rfl, hb3⟩
  have hz3 := hb3.size
  have B3 : Hid (Below w.heap.size w w3) := B2.out.trans (hb3.mono (by omega))
  have R3 : Hid (Roomy w3 w.heap.size g cg []) := R2.out.below hb3
  clear hb3 R2 B2
  go_wp2_with fail
  refine (facePrint_any _ _ _ w3 (print_any g 0 cg [] w3 (HG.out.below B3.out) (by simp) (fun o ho => by simp at ho) R3.out.2.1 (fun k hk => by simp at hk))).mono ?_
  rintro e w4 ⟨rfl, hb4⟩
  have hz4 := hb4.size
  have B4 : Hid (Below w.heap.size w w4) := B3.out.trans (hb4.mono (by omega))
  have R4 : Hid (Roomy w4 w.heap.size g cg []) := R3.out.below hb4
  clear hb4 R3 B3
  go_wp2_with fail
  refine (refPrint_empty a w4).mono ?_
  rintro e w4 ⟨rfl, rfl⟩
  go_wp2_with fail
  refine (keptOps_empty g cg a w4 w.heap.size R4.out).mono ?_
  rintro e w4 ⟨rfl, rfl⟩
  go_wp2_with (go_at_call 12; refine (num_any _ _).mono ?_; rintro e w' ⟨rfl, rfl⟩)
  go_ret
  exact ⟨rfl, B4.out⟩
end Go.Proofs.YtjaepomjdknieaaDoor
