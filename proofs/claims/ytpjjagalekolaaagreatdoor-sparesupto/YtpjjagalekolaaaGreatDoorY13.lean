/- KR, KS, KT, KU, KV: in one text. -/
import Derived.Test.YtpjjagalekolaaaGreatDoorY12
import Derived.Lib.AppendZerosOnto
/- Rows of numbers: the library's Clone, Grow and Concat at the sizes that a swap wants. -/
namespace Go.Proofs.YtpjjagalekolaaaGreatDoor
open Go.RowKit
set_option linter.unusedVariables false
set_option linter.unusedSimpArgs false

theorem own_emptyI (w : World) : (w.alloc (.cells #[] 3)).ownsRow w.heap.size 3 1 (.slice (some ⟨w.heap.size, 0, none⟩) 0 0) 0 [] :=
  ⟨rfl, .inr ⟨w.heap.size, 0, #[], rfl, Nat.le_refl _, heap_alloc_new w _, Nat.le_refl _, by unfold maxLen; omega, rfl, rfl⟩⟩
theorem one_at {w : World} {F : Nat} {v : Value} (h : Blk w F 3 [v]) : ∀ (j : Nat) (x : Value), [v][j]? = some x → w.cell? ((⟨F, 0, none⟩ : Addr).add j) = some x := by
  intro j x hx
  match j with
  | 0 =>
    have := h.cell 0 hx
    simpa [Addr.add] using this
  | n + 1 => simp at hx

set_option maxHeartbeats 2000000 in
set_option maxRecDepth 100000 in
theorem cloneI_one {w : World} {F cf : Nat} {k : Int} (h : Blk w F 3 [.int .i64 k]) :
    Calls Tryz.prog 184 #[.slice (some ⟨F, 0, none⟩) 1 cf] w fun e w' => ∃ v, e = .returned v ∧ w'.ownsRow w.heap.size 3 1 v 1 [.int .i64 k] ∧ Below w.heap.size w w' := by
  obtain ⟨i0, hi, hz0, hz1, hz2⟩ := info_parts info3
  have hneq := fun (u : World) (a : Option Addr) (n c : Nat) => Lib.run_eql_slice_nil (P := Tryz.prog) u 23 3 a n c 0 0 Tryz.underlying23
  have hb1 : Below w.heap.size w (w.alloc (.cells #[] 3)) := (Below.refl _ _).alloc (Nat.le_refl _) _
  have HE := hidD (one_at (h.below hb1))
  have HO := hidD (own_emptyI w)
  have HB := hidD hb1
  clear h hb1
  go_enter Tryz.func184, Tryz.ntmps184
  go_wp2_with (at_builtin; refine wpList_append_own _ rfl _ _ 23 rfl w.heap.size 3 i0 _ 1 8 Tryz.underlying23 hi hz0 hz1 hz2 rfl (by decide) _ _ _ rfl HO.out ⟨F, 0, none⟩ 1 cf [.int .i64 k] rfl rfl HE.out (by intro x hx; rw [List.mem_singleton.1 hx]; rfl) (by unfold maxLen; omega) (by omega) HB.out.size ?_; intro v2 w2 hown2 hg2 _)
  go_ret
  refine ⟨v2, rfl, ?_, HB.out.grown hg2 HB.out.size (fun q hq => (HO.out.lt q hq).1)⟩
  simpa using hown2
set_option maxHeartbeats 1000000 in
theorem cloneI_nil (w : World) : Calls Tryz.prog 184 #[.slice none 0 0] w fun e w' => e = .returned (.slice none 0 0) ∧ w' = w := by
  have hneq := fun (u : World) (a : Option Addr) (n c : Nat) => Lib.run_eql_slice_nil (P := Tryz.prog) u 23 3 a n c 0 0 Tryz.underlying23
  go_enter Tryz.func184, Tryz.ntmps184
  go_wp2
  go_ret
  exact ⟨rfl, rfl⟩

set_option maxHeartbeats 2000000 in
set_option maxRecDepth 100000 in
theorem growI_one (w : World) :
    Calls Tryz.prog 207 #[.slice none 0 0, .int .i64 1] w fun e w' => ∃ v, e = .returned v ∧ w'.ownsRow w.heap.size 3 1 v 0 [] ∧ Below w.heap.size w w' := by
  obtain ⟨i0, hi, hz0, hz1, hz2⟩ := info_parts info3
  have hrun : ∀ ty, (Builtin.append_ #[23, 3] ty #[.slice none 0 0, .int .i64 1]).run Tryz.prog w =
      .ok (.slice (some ⟨w.heap.size, 0, none⟩) 1 (grownCap w 1 0 3)) (w.drew.alloc (.cells (#[] ++ Builtin.zeroCells (Value.int .i64 0).cells 1 ++ Builtin.zeroCells (Value.int .i64 0).cells (grownCap w 1 0 3 - 1)) 3)) := fun ty => by
    have h := Lib.run_append_grow_zeros (P := Tryz.prog) w 23 3 ty 3 i0 _ .i64 .i64 Tryz.underlying23 Tryz.underlying3 hi hz0 none 0 0 [] (run_firstCells_none w.drew i0.size 0 0 0) 1 (by omega) (by rw [hz1]; decide) (by omega) (by omega) (by rw [hz2]; omega) (by rw [hz2]; exact growslice_fits (by omega) (by omega))
    simpa using h
  have hG1 := grownCap_ge w 1 0 3
  have hG2 := grownCap_le_maxLen w 1 0 3 (by unfold maxLen; omega)
  have hown : ∀ cur : Array Value, cur.size = grownCap w 1 0 3 * 1 → (w.drew.alloc (.cells cur 3)).ownsRow w.heap.size 3 1 (.slice (some ⟨w.heap.size, 0, none⟩) 0 (grownCap w 1 0 3)) 0 [] := fun cur hc => World.ownsRow_made w.drew cur (grownCap w 1 0 3) (Nat.le_refl _) hG2 hc
  have HO := hidD (hown (#[] ++ Builtin.zeroCells (Value.int .i64 0).cells 1 ++ Builtin.zeroCells (Value.int .i64 0).cells (grownCap w 1 0 3 - 1)) (by
    have h5 : (Value.int .i64 0).cells.size = 1 := rfl
    rw [Array.size_append, Array.size_append, size_zeroCells, size_zeroCells, h5]
    simp; omega))
  clear hown
  generalize (#[] ++ Builtin.zeroCells (Value.int .i64 0).cells 1 ++ Builtin.zeroCells (Value.int .i64 0).cells (grownCap w 1 0 3 - 1)) = cur at *
  generalize grownCap w 1 0 3 = G at *
  have HR := hidD hrun
  clear hrun
  have hG3 : G ≤ 9223372036854775807 := by unfold maxLen at hG2; omega
  go_enter Tryz.func207, Tryz.ntmps207
  go_wp2_with (at_builtin; refine Lib.wpList_append_run _ rfl _ _ _ _ rfl _ _ rfl rfl _ _ (HR.out _) ?_)
  go_ret
  exact ⟨_, rfl, HO.out, (Below.refl _ _).drew.alloc (Nat.le_refl _) _⟩

theorem run_append_zero {P : Program} (w : World) (base : Nat) (t ty e : TypeId) (i : TypeInfo) (size : Nat) (ht : P.underlying t = some (.slice e)) (hi : P.info? e = some i) (hsize : i.size = size)
    (v : Value) (n : Nat) (xs : List Value) (hown : w.ownsRow base e size v n xs) (a : Option Addr) (c : Nat) : (Builtin.append_ #[t, t] ty #[v, .slice a 0 c]).run P w = .ok v w := by
  rcases hown.2 with ⟨rfl, rfl⟩ | ⟨g, cap, cur, rfl, hB, hg, hn, hm, hs, hx⟩
  · cases a <;> simp [Builtin.append_, run_underlying ht, sizeOf, typeInfo, hi, Builtin.lenOf, Builtin.firstCells, loadCells, loadCellsFrom]
  · cases a <;> simp [Builtin.append_, run_underlying ht, sizeOf, typeInfo, hi, Builtin.lenOf, Builtin.firstCells, loadCells, loadCellsFrom, storeCells, hn]

set_option maxHeartbeats 4000000 in
set_option maxRecDepth 100000 in
theorem concatI {w : World} {pb F cf ca : Nat} {a : Option Addr} {k : Int} (hp : Blk w pb 23 [.slice a 0 ca, .slice (some ⟨F, 0, none⟩) 1 cf, .slice none 0 0]) (h : Blk w F 3 [.int .i64 k]) :
    Calls Tryz.prog 185 #[.slice (some ⟨pb, 0, none⟩) 3 3] w fun e w' => ∃ v, e = .returned v ∧ w'.ownsRow w.heap.size 3 1 v 1 [.int .i64 k] ∧ Below w.heap.size w w' := by
  obtain ⟨i0, hi, hz0, hz1, hz2⟩ := info_parts info3
  have p0 := hp.cell 0 rfl
  have p1 := hp.cell 1 rfl
  have p2 := hp.cell 2 rfl
  have HP := hidD (And.intro hp h)
  clear hp h
  go_enter Tryz.func185, Tryz.ntmps185
  go_wp2
  refine wp_loop_rounds 4 ?_
  rw [rounds_succ]
  go_wp2
  rw [rounds_succ]
  go_wp2
  rw [rounds_succ]
  go_wp2
  rw [rounds_succ]
  go_wp2_with fail
  refine (growI_one _).mono ?_
  rintro e w1 ⟨v1, rfl, hown1, hb1⟩
  obtain ⟨a1, cc1, hv1⟩ := row_shape0 hown1
  subst hv1
  have q0 := (HP.out.1.below hb1).cell 0 rfl
  have q1 := (HP.out.1.below hb1).cell 1 rfl
  have HE := hidD (one_at (HP.out.2.below hb1))
  have hs1 := hb1.size
  have HB := hidD hb1
  have HA := hidD (fun ty => run_append_zero (P := Tryz.prog) w1 _ 23 ty 3 i0 1 Tryz.underlying23 hi hz1 _ _ _ hown1 a ca)
  have HO := hidD hown1
  clear hown1 hb1 p0 p1 p2
  go_wp2_with fail
  refine wp_loop_rounds 4 ?_
  rw [rounds_succ]
  go_wp2_with (at_builtin; refine Lib.wpList_append_run _ rfl _ _ _ _ rfl _ _ rfl rfl _ _ (HA.out _) ?_)
  rw [rounds_succ]
  go_wp2_with (at_builtin; refine wpList_append_own _ rfl _ _ 23 rfl w.heap.size 3 i0 _ 1 8 Tryz.underlying23 hi hz0 hz1 hz2 rfl (by decide) _ _ _ rfl HO.out ⟨F, 0, none⟩ 1 cf [.int .i64 k] rfl rfl HE.out (by intro x hx; rw [List.mem_singleton.1 hx]; rfl) (by unfold maxLen; omega) (by omega) hs1 ?_; intro v2 w2 hown2 hg2 _)
  obtain ⟨a2, cc2, hv2⟩ := row_shape0 hown2
  subst hv2
  have hb2 := HB.out.grown hg2 HB.out.size (fun q hq => (HO.out.lt q hq).1)
  have r2 := (HP.out.1.below hb2).cell 2 rfl
  have HB2 := hidD hb2
  have HA2 := hidD (fun ty => run_append_zero (P := Tryz.prog) w2 _ 23 ty 3 i0 1 Tryz.underlying23 hi hz1 _ _ _ hown2 none 0)
  have HO2 := hidD hown2
  clear hown2 hg2 hb2 q0 q1
  rw [rounds_succ]
  go_wp2_with (at_builtin; refine Lib.wpList_append_run _ rfl _ _ _ _ rfl _ _ rfl rfl _ _ (HA2.out _) ?_)
  rw [rounds_succ]
  go_wp2
  go_ret
  exact ⟨_, rfl, HO2.out, HB2.out⟩
end Go.Proofs.YtpjjagalekolaaaGreatDoor

/- The planner takes its steps in order: does a step wait for itself? -/
namespace Go.Proofs.YtpjjagalekolaaaGreatDoor
open Go.RowKit
set_option linter.unusedVariables false
set_option linter.unusedSimpArgs false

/-- Another block is written. -/
theorem Rst.other {w0 u : World} {R g c F0 F1 : Nat} {st : List Value} {rdy : Value} {nr : Nat} {rx : List Value} {opv : Value} {no : Nat} {ops : List Value} {sp : Int} (h : Rst w0 u R g c F0 F1 st rdy nr rx opv no ops sp) {M : Nat} {xs : List Value} (hM : Blk u M 4 xs) (hge : w0.heap.size ≤ M) (j : Nat) (v : Value) : Rst w0 (u.setCell ⟨M, j, none⟩ v) R g c F0 F1 st rdy nr rx opv no ops sp :=
  ⟨below_set h.bel _ _ _ h.bel.size hge, h.ge, h.r.other j v (h.r.ne hM (by decide)), row_blk hM h.st (by decide) (gb_set _ _ _ _), row_blk hM h.rd (by decide) (gb_set _ _ _ _), row_blk hM h.op (by decide) (gb_set _ _ _ _), h.f0.other j v (h.f0.ne hM (by decide)), h.f1.other j v (h.f1.ne hM (by decide)), h.nf⟩

theorem own_monoK {w : World} {B B' e s : Nat} {v : Value} {n : Nat} {xs : List Value} (h : w.ownsRow B e s v n xs) (hb : B' ≤ B) : w.ownsRow B' e s v n xs := by
  refine ⟨h.1, ?_⟩
  rcases h.2 with h1 | ⟨g, cap, cur, h1, h2, h3⟩
  · exact .inl h1
  · exact .inr ⟨g, cap, cur, h1, Nat.le_trans hb h2, h3⟩
theorem concatI_at {u : World} {F cf ca : Nat} {a : Option Addr} {k : Int} (h : Blk u F 3 [.int .i64 k]) :
    Calls Tryz.prog 185 #[.slice (some ⟨u.heap.size, 0, none⟩) 3 3] (u.alloc (.cells #[.slice a 0 ca, .slice (some ⟨F, 0, none⟩) 1 cf, .slice none 0 0] 23)).drew fun e w' => ∃ v, e = .returned v ∧ w'.ownsRow u.heap.size 3 1 v 1 [.int .i64 k] ∧ Below u.heap.size u w' := by
  have hb : Below u.heap.size u (u.alloc (.cells #[.slice a 0 ca, .slice (some ⟨F, 0, none⟩) 1 cf, .slice none 0 0] 23)).drew := (box_below u _ 23).trans (Below.mono (below_drewB _) (by simp))
  have hp : Blk (u.alloc (.cells #[.slice a 0 ca, .slice (some ⟨F, 0, none⟩) 1 cf, .slice none 0 0] 23)).drew u.heap.size 23 [.slice a 0 ca, .slice (some ⟨F, 0, none⟩) 1 cf, .slice none 0 0] := Blk.new u 23 [.slice a 0 ca, .slice (some ⟨F, 0, none⟩) 1 cf, .slice none 0 0]
  refine (concatI hp (h.below hb)).mono ?_
  rintro e w' ⟨v, rfl, hown, hb'⟩
  have hz := hb.size
  exact ⟨v, rfl, own_monoK hown hz, hb.trans (hb'.mono hz)⟩

set_option maxHeartbeats 8000000 in
set_option maxRecDepth 100000 in
theorem waits_0 {w0 u : World} {R g c F0 c0 F1 c1 : Nat} {rdy : Value} {nr : Nat} {rx : List Value} {opv : Value} {no : Nat} {ops : List Value} {sp : Int} (S : Rst w0 u R g c F0 F1 (st2 F0 c0 F1 c1) rdy nr rx opv no ops sp) :
    Calls Tryz.prog 145 #[.pointer (some ⟨R, 0, none⟩), .int .i64 0] u fun e w' => e = .returned (.bool true) ∧ Rst w0 w' R g c F0 F1 (st2 F0 c0 F1 c1) rdy nr rx opv no ops sp := by
  have hmk : ∀ (w : World), (Instr.makeSlice 224 (.int .i64 2) (.int .i64 2)).run Tryz.prog w = .ok (.slice (some ⟨w.heap.size, 0, none⟩) 2 2) (w.alloc (.cells #[.bool false, .bool false] 4)) := fun w => by kernel_rfl
  have d0 := S.r.cell 0 rfl
  have hge := S.bel.size
  have S1 := hidD (S.below (box_below u #[.bool false, .bool false] 4))
  have d0' := S1.out.r.cell 0 rfl
  have d7 := (blk_of_row S1.out.st).cell 7 rfl
  have M1 := hidD (Blk.new u 4 [.bool false, .bool false])
  clear S
  go_enter Tryz.func145, Tryz.ntmps145
  go_wp2_with fail
  generalize hU : u.alloc (.cells #[.bool false, .bool false] 4) = U at *
  refine (cloneI_one S1.out.f0).mono ?_
  rintro e w1 ⟨v1, rfl, hown1, hb1⟩
  obtain ⟨g1, k1, hv1⟩ := row_form hown1 (by decide)
  subst hv1
  have S2 := hidD (S1.out.below hb1)
  have M2 := hidD (M1.out.below hb1)
  have l0 := (blk_of_row hown1).cell 0 rfl
  obtain ⟨hk1, hk2⟩ := row_cap hown1
  have m1 := M2.out.cell 1 rfl
  have fm1 := M2.out.frozen 1
  have S3 := hidD (S2.out.other M2.out hge 1 (.bool true))
  have e0 := S3.out.r.cell 0 rfl
  have e16 := (blk_of_row S3.out.st).cell 16 rfl
  have e17 := (blk_of_row S3.out.st).cell 17 rfl
  clear hown1 hb1 S1 M1 d0' d7 d0 M2 S2
  by_cases hkk : k1 = 1
  all_goals
    first | subst hkk | skip
    go_wp2_with fail
    refine wp_loop_rounds 2 ?_
    rw [rounds_succ]
    go_wp2_with fail
    generalize hV : w1.setCell ⟨u.heap.size, 1, none⟩ (.bool true) = V at *
    have HC := hidD (fun (a : Option Addr) (ca : Nat) => concatI_at (cf := c1) (a := a) (ca := ca) S3.out.f1)
    have HBx := hidD (fun (cs : Array Value) => S3.out.below (box_below V cs 23))
    go_region_held3 (fun v => v.cell? ⟨R, 0, none⟩ = some (.slice (some ⟨g, 0, none⟩) 2 c) ∧ v.cell? ⟨g, 16, none⟩ = some (.slice (some ⟨F1, 0, none⟩) 1 c1) ∧ v.cell? ⟨g, 17, none⟩ = some (.slice none 0 0)) (go_keep) (first | (go_at_call 185; refine (HC.out _ _).mono ?_; rintro e w4 ⟨v4, rfl, hown4, hb4⟩; have S4 := S3.out.below hb4; have r0 := S4.r.cell 0 rfl; have r16 := (blk_of_row S4.st).cell 16 rfl; have r17 := (blk_of_row S4.st).cell 17 rfl))
    obtain ⟨g4, k4, hv4⟩ := row_form hown4 (by decide)
    subst hv4
    have l4 := (blk_of_row hown4).cell 0 rfl
    obtain ⟨hk3, hk4⟩ := row_cap hown4
    have S5 := hidD S4
    clear hown4 hb4 S4 S3 HC HBx hV hU
    go_wp2_with fail
    rw [rounds_succ]
    go_wp2_with fail
    all_goals
      go_ret
      exact ⟨rfl, S5.out⟩

set_option maxHeartbeats 4000000 in
set_option maxRecDepth 100000 in
theorem waits_done {w0 u : World} {R g c F0 F1 : Nat} {rdy : Value} {nr : Nat} {rx : List Value} {opv : Value} {no : Nat} {ops : List Value} {sp : Int} (S : Rst w0 u R g c F0 F1 st4 rdy nr rx opv no ops sp) (i : Nat) (hi : i = 0 ∨ i = 1) :
    Calls Tryz.prog 145 #[.pointer (some ⟨R, 0, none⟩), .int .i64 i] u fun e w' => e = .returned (.bool false) ∧ Rst w0 w' R g c F0 F1 st4 rdy nr rx opv no ops sp := by
  have hmk : ∀ (w : World), (Instr.makeSlice 224 (.int .i64 2) (.int .i64 2)).run Tryz.prog w = .ok (.slice (some ⟨w.heap.size, 0, none⟩) 2 2) (w.alloc (.cells #[.bool false, .bool false] 4)) := fun w => by kernel_rfl
  have d0 := S.r.cell 0 rfl
  have S1 := hidD (S.below (box_below u #[.bool false, .bool false] 4))
  have d0' := S1.out.r.cell 0 rfl
  have d7 := (blk_of_row S1.out.st).cell 7 rfl
  have d16 := (blk_of_row S1.out.st).cell 16 rfl
  clear S
  rcases hi with rfl | rfl
  all_goals
    go_enter Tryz.func145, Tryz.ntmps145
    go_wp2_with fail
    refine (cloneI_nil _).mono ?_
    rintro e wz ⟨rfl, hwz⟩; rw [hwz]; clear hwz
    go_wp2_with fail
    refine wp_loop_rounds 1 ?_
    rw [rounds_succ]
    go_wp2_with fail
    go_ret
    exact ⟨rfl, S1.out⟩
end Go.Proofs.YtpjjagalekolaaaGreatDoor

/- The planner takes its steps in order: the whole, at a swap. -/
namespace Go.Proofs.YtpjjagalekolaaaGreatDoor
open Go.RowKit
set_option linter.unusedVariables false
set_option linter.unusedSimpArgs false

set_option maxHeartbeats 4000000 in
set_option maxRecDepth 100000 in
theorem knot_0 {w0 u : World} {R g c F0 c0 F1 c1 : Nat} {rdy : Value} {nr : Nat} {rx : List Value} {opv : Value} {no : Nat} {ops : List Value} {sp : Int} (S : Rst w0 u R g c F0 F1 (st2 F0 c0 F1 c1) rdy nr rx opv no ops sp) :
    Calls Tryz.prog 95 #[.pointer (some ⟨R, 0, none⟩)] u fun e w' => e = .returned (.int .i64 0) ∧ Rst w0 w' R g c F0 F1 (st2 F0 c0 F1 c1) rdy nr rx opv no ops sp := by
  have d0 := S.r.cell 0 rfl
  have k0 := (blk_of_row S.st).cell 0 rfl
  have HW := hidD (waits_0 S)
  clear S
  go_enter Tryz.func95, Tryz.ntmps95
  go_wp2_with fail
  refine wp_loop_rounds 1 ?_
  rw [rounds_succ]
  go_wp2_with fail
  refine HW.out.mono ?_
  rintro e w1 ⟨rfl, hS⟩
  have S1 := hidD hS
  clear hS
  go_wp2_with fail
  go_ret
  exact ⟨rfl, S1.out⟩
set_option maxHeartbeats 4000000 in
set_option maxRecDepth 100000 in
theorem knot_done {w0 u : World} {R g c F0 F1 : Nat} {rdy : Value} {nr : Nat} {rx : List Value} {opv : Value} {no : Nat} {ops : List Value} {sp : Int} (S : Rst w0 u R g c F0 F1 st4 rdy nr rx opv no ops sp) :
    Calls Tryz.prog 95 #[.pointer (some ⟨R, 0, none⟩)] u fun e w' => e = .returned (.int .i64 (-1)) ∧ Rst w0 w' R g c F0 F1 st4 rdy nr rx opv no ops sp := by
  have d0 := S.r.cell 0 rfl
  have k0 := (blk_of_row S.st).cell 0 rfl
  have HW := hidD (waits_done S 0 (.inl rfl))
  clear S
  go_enter Tryz.func95, Tryz.ntmps95
  go_wp2_with fail
  refine wp_loop_rounds 3 ?_
  rw [rounds_succ]
  go_wp2_with fail
  refine HW.out.mono ?_
  rintro e w1 ⟨rfl, hS⟩
  have d1 := hS.r.cell 0 rfl
  have k9 := (blk_of_row hS.st).cell 9 rfl
  have HW1 := hidD (waits_done hS 1 (.inr rfl))
  clear hS HW
  go_wp2_with fail
  rw [rounds_succ]
  go_wp2_with fail
  refine HW1.out.mono ?_
  rintro e w2 ⟨rfl, hS⟩
  have S1 := hidD hS
  clear hS HW1
  go_wp2_with fail
  rw [rounds_succ]
  go_wp2_with fail
  go_ret
  exact ⟨rfl, S1.out⟩

theorem Rst.start {w0 u : World} {g c F0 c0 F1 c1 : Nat} (hb : Below w0.heap.size w0 u) (hs : u.ownsRow w0.heap.size 155 9 (.slice (some ⟨g, 0, none⟩) 2 c) 2 (st2 F0 c0 F1 c1)) (h0 : Blk u F0 3 [.int .i64 1]) (h1 : Blk u F1 3 [.int .i64 0]) :
    Rst w0 (u.alloc (.cells #[.slice (some ⟨g, 0, none⟩) 2 c, .slice none 0 0, .slice none 0 0, .int .i64 0] 153)) u.heap.size g c F0 F1 (st2 F0 c0 F1 c1) (.slice none 0 0) 0 [] (.slice none 0 0) 0 [] 0 := by
  have hx := box_below u #[.slice (some ⟨g, 0, none⟩) 2 c, .slice none 0 0, .slice none 0 0, .int .i64 0] 153
  exact ⟨hb.trans (hx.mono hb.size), hb.size, Blk.new u 153 [.slice (some ⟨g, 0, none⟩) 2 c, .slice none 0 0, .slice none 0 0, .int .i64 0], own_belowK hx hs, World.ownsRow_nil _ _ _ _, World.ownsRow_nil _ _ _ _, h0.below hx, h1.below hx, by simp [Value.ownBlock]⟩

/-- The script of a swap. -/
def swapC : List Value := renC ⟨#[97]⟩ ⟨#[126, 48]⟩ ++ renC ⟨#[98]⟩ ⟨#[97]⟩ ++ renC ⟨#[126, 48]⟩ ⟨#[98]⟩

set_option maxHeartbeats 4000000 in
set_option maxRecDepth 100000 in
theorem inOrder_swap {w0 u : World} {g c F0 c0 F1 c1 : Nat} (hb : Below w0.heap.size w0 u) (hs : u.ownsRow w0.heap.size 155 9 (.slice (some ⟨g, 0, none⟩) 2 c) 2 (st2 F0 c0 F1 c1)) (h0 : Blk u F0 3 [.int .i64 1]) (h1 : Blk u F1 3 [.int .i64 0]) :
    Calls Tryz.prog 58 #[.slice (some ⟨g, 0, none⟩) 2 c] u fun e w' => ∃ ov, e = .returned ov ∧ w'.ownsRow w0.heap.size 59 6 ov 3 swapC ∧ Below w0.heap.size w0 w' := by
  have S := hidD (Rst.start hb hs h0 h1)
  have k6 := (blk_of_row S.out.st).cell 6 rfl
  have k15 := (blk_of_row S.out.st).cell 15 rfl
  clear hb hs h0 h1
  go_enter Tryz.func58, Tryz.ntmps58
  go_wp2_with fail
  refine wp_loop_rounds 3 ?_
  rw [rounds_succ]
  go_wp2_with fail
  rw [rounds_succ]
  go_wp2_with fail
  rw [rounds_succ]
  go_wp2_with fail
  refine (takeReady_none S.out).mono ?_
  rintro e wz ⟨rfl, hwz⟩; rw [hwz]; clear hwz
  go_wp2_with fail
  refine (knot_0 S.out).mono ?_
  rintro e w1 ⟨rfl, hS⟩
  have S1 := hidD hS
  clear hS S k6 k15
  go_wp2_with fail
  refine wp_loop_rounds 2 ?_
  rw [rounds_succ]
  go_wp2_with fail
  refine (stepAside_swap S1.out (by decide)).mono ?_
  rintro e w2 ⟨rfl, q, cq, ov, hS⟩
  have S2 := hidD hS
  clear hS S1
  go_wp2_with fail
  refine (takeReady_swap S2.out (by decide)).mono ?_
  rintro e w3 ⟨rfl, rd, ov3, hS⟩
  have S3 := hidD hS
  clear hS S2
  go_wp2_with fail
  refine (knot_done S3.out).mono ?_
  rintro e w4 ⟨rfl, hS⟩
  have S4 := hidD hS
  have d2 := hS.r.cell 2 rfl
  clear hS S3
  go_wp2_with fail
  rw [rounds_succ]
  go_wp2_with fail
  go_ret
  exact ⟨_, rfl, S4.out.op, S4.out.bel⟩
end Go.Proofs.YtpjjagalekolaaaGreatDoor

/- What the planner refuses: which contents are missing. -/
namespace Go.Proofs.YtpjjagalekolaaaGreatDoor
open Go.RowKit
set_option linter.unusedVariables false
set_option linter.unusedSimpArgs false

theorem id_1 : fstI (fun o => o.id == (1 : Int)) sD = 0 := by kernel_rfl
theorem id_2 : fstI (fun o => o.id == (2 : Int)) sD = 1 := by kernel_rfl
theorem id_3 : fstI (fun o => o.id == (3 : Int)) sD = -1 := by kernel_rfl
theorem findId_s {u : World} {bs : Nat} (h : Blk u bs 56 sC) (id r : Int) (hr : fstI (fun o => o.id == id) sD = r) : Calls Tryz.prog 139 #[.slice (some ⟨bs, 0, none⟩) 2 2, .int .i64 id] u fun e w' => e = .returned (.int .i64 r) ∧ Below u.heap.size u w' := by
  have := findId_any bs 0 2 sD id u (by decide) sD_small h.lt (ents_of h)
  rw [hr] at this
  exact this

set_option maxHeartbeats 4000000 in
set_option maxRecDepth 100000 in
theorem missing_swap {u : World} {bs bt : Nat} (I : Inp u bs bt) :
    Calls Tryz.prog 92 #[.slice (some ⟨bs, 0, none⟩) 2 2, .slice (some ⟨bt, 0, none⟩) 2 2, .slice none 0 0] u fun e w' => e = .returned (.int .i64 0) ∧ Below u.heap.size u w' := by
  have HI := hidD I
  have t0 := I.t.cell 0 rfl
  have t1 := I.t.cell 1 rfl
  have t2 := I.t.cell 2 rfl
  have t3 := I.t.cell 3 rfl
  have t4 := I.t.cell 4 rfl
  clear I
  have X1 := hidD (Blk.new u 56 [.string ⟨#[97]⟩, .bool false, .int .i64 2, .int .i64 3, .int .i64 0])
  have BB1 := hidD (box_below u #[.string ⟨#[97]⟩, .bool false, .int .i64 2, .int .i64 3, .int .i64 0] 56)
  have HI1 := hidD (HI.out.below BB1.out)
  have a1 := X1.out.cell 1 rfl
  have a2 := X1.out.cell 2 rfl
  go_enter Tryz.func92, Tryz.ntmps92
  go_wp2
  go_step3
  go_wp2
  go_step3
  go_wp2
  refine wp_loop_rounds 3 ?_
  rw [rounds_succ]
  go_wp2_with fail
  refine (findId_s HI1.out.s 2 1 id_2).mono ?_
  rintro e w1 ⟨rfl, hb1⟩
  have HB1 := hidD (BB1.out.trans (hb1.mono BB1.out.size))
  have HI2 := hidD (HI1.out.below hb1)
  clear hb1 t0 t1 t2 t3 t4 a1 a2 X1 BB1 HI1
  go_wp2_with fail
  have t0 := HI2.out.t.cell 5 rfl
  have t1 := HI2.out.t.cell 6 rfl
  have t2 := HI2.out.t.cell 7 rfl
  have t3 := HI2.out.t.cell 8 rfl
  have t4 := HI2.out.t.cell 9 rfl
  have X1 := hidD (Blk.new w1 56 [.string ⟨#[98]⟩, .bool false, .int .i64 1, .int .i64 3, .int .i64 0])
  have BB1 := hidD (box_below w1 #[.string ⟨#[98]⟩, .bool false, .int .i64 1, .int .i64 3, .int .i64 0] 56)
  have HI1 := hidD (HI2.out.below BB1.out)
  have a1 := X1.out.cell 1 rfl
  have a2 := X1.out.cell 2 rfl
  rw [rounds_succ]
  go_wp2_with fail
  refine (findId_s HI1.out.s 1 0 id_1).mono ?_
  rintro e w2 ⟨rfl, hb1⟩
  have HB2 := hidD ((HB1.out.trans (BB1.out.mono HB1.out.size)).trans (hb1.mono (Nat.le_trans HB1.out.size BB1.out.size)))
  clear hb1 t0 t1 t2 t3 t4 a1 a2 X1 BB1 HI1
  go_wp2_with fail
  rw [rounds_succ]
  go_wp2_with fail
  rw [Exit.noGoto_ret]
  go_ret
  exact ⟨rfl, HB2.out⟩

/-- A file that is not there. -/
def cC : List Value := [.string ⟨#[99]⟩, .bool false, .int .i64 3, .int .i64 3, .int .i64 0]

set_option maxHeartbeats 4000000 in
set_option maxRecDepth 100000 in
theorem missing_store {u : World} {bs bt bi : Nat} (hs : Blk u bs 56 sC) (ht : Blk u bt 56 cC) (hi : Blk u bi 3 [.int .i64 4]) :
    Calls Tryz.prog 92 #[.slice (some ⟨bs, 0, none⟩) 2 2, .slice (some ⟨bt, 0, none⟩) 1 1, .slice (some ⟨bi, 0, none⟩) 1 1] u fun e w' => e = .returned (.int .i64 3) ∧ Below u.heap.size u w' := by
  have t0 := ht.cell 0 rfl
  have t1 := ht.cell 1 rfl
  have t2 := ht.cell 2 rfl
  have t3 := ht.cell 3 rfl
  have t4 := ht.cell 4 rfl
  have X1 := hidD (Blk.new u 56 [.string ⟨#[99]⟩, .bool false, .int .i64 3, .int .i64 3, .int .i64 0])
  have BB1 := hidD (box_below u #[.string ⟨#[99]⟩, .bool false, .int .i64 3, .int .i64 3, .int .i64 0] 56)
  have HS := hidD (hs.below BB1.out)
  have HN := hidD (hi.below BB1.out)
  have a1 := X1.out.cell 1 rfl
  have a2 := X1.out.cell 2 rfl
  clear hs ht hi
  go_enter Tryz.func92, Tryz.ntmps92
  go_wp2
  go_step3
  go_wp2
  go_step3
  go_wp2
  refine wp_loop_rounds 2 ?_
  rw [rounds_succ]
  go_wp2_with fail
  refine (findId_s HS.out 3 (-1) id_3).mono ?_
  rintro e w1 ⟨rfl, hb1⟩
  have HB1 := hidD (BB1.out.trans (hb1.mono BB1.out.size))
  have n0 := (HN.out.below hb1).cell 0 rfl
  have a2' := (X1.out.below hb1).cell 2 rfl
  clear hb1 t0 t1 t2 t3 t4 a1 a2 X1 BB1
  go_wp2_with fail
  refine wp_loop_rounds 2 ?_
  rw [rounds_succ]
  go_wp2_with fail
  rw [rounds_succ]
  go_wp2_with fail
  rw [rounds_succ]
  go_wp2_with fail
  rw [Exit.noGoto_ret]
  go_ret
  exact ⟨rfl, HB1.out⟩
end Go.Proofs.YtpjjagalekolaaaGreatDoor

/- What the planner refuses, and the whole of a plan at a swap. -/
namespace Go.Proofs.YtpjjagalekolaaaGreatDoor
open Go.RowKit
set_option linter.unusedVariables false
set_option linter.unusedSimpArgs false

def cD : List EntD := [fileE ⟨#[99]⟩ 3]
theorem cD_small : ∀ o ∈ cD, o.small := by
  intro o ho
  simp only [cD, List.mem_cons, List.not_mem_nil, or_false] at ho
  rcases ho with rfl; unfold EntD.small; decide
theorem ents_one {u : World} {b : Nat} {x : EntD} (h : Blk u b 56 x.cells) : EntsAt u b 0 [x] := by
  intro k hk j v hv
  obtain rfl : k = 0 := by simp at hk; omega
  simp only [List.getElem_cons_zero] at hv
  rw [show 0 + 0 * 5 + j = j by omega]
  exact h.cell j hv
theorem chk_s : chkP sD = (0, 0) := by kernel_rfl
theorem chk_t : chkP tD = (0, 0) := by kernel_rfl
theorem chk_c : chkP cD = (0, 0) := by kernel_rfl
theorem check_sK {u : World} {b : Nat} (h : Blk u b 56 sC) : Calls Tryz.prog 56 #[.slice (some ⟨b, 0, none⟩) 2 2, .bool false] u fun e w' => e = .returned (.tuple #[.int .i64 0, .int .i64 0]) ∧ Below u.heap.size u w' := by
  have := treesCheck_any b 0 2 sD u (by decide) (by decide) sD_small h.lt (ents_of h)
  rw [chk_s] at this
  exact this
theorem check_tK {u : World} {b : Nat} (h : Blk u b 56 tC) : Calls Tryz.prog 56 #[.slice (some ⟨b, 0, none⟩) 2 2, .bool false] u fun e w' => e = .returned (.tuple #[.int .i64 0, .int .i64 0]) ∧ Below u.heap.size u w' := by
  have := treesCheck_any b 0 2 tD u (by decide) (by decide) tD_small h.lt (ents_of h)
  rw [chk_t] at this
  exact this
theorem check_cK {u : World} {b : Nat} (h : Blk u b 56 cC) : Calls Tryz.prog 56 #[.slice (some ⟨b, 0, none⟩) 1 1, .bool false] u fun e w' => e = .returned (.tuple #[.int .i64 0, .int .i64 0]) ∧ Below u.heap.size u w' := by
  have := treesCheck_any b 0 1 cD u (by decide) (by decide) cD_small h.lt (ents_one h)
  rw [chk_c] at this
  exact this
theorem other_sK {u : World} {b : Nat} (h : Blk u b 56 sC) (p : ByteArray) (id : Int) (ho : otherB sD (fileE p id) = false) : Calls Tryz.prog 91 #[.slice (some ⟨b, 0, none⟩) 2 2, .agg #[.string p, .bool false, .int .i64 id, .int .i64 3, .int .i64 0]] u fun e w' => e = .returned (.bool false) ∧ Below u.heap.size u w' := by
  have := hasOther_any b 0 2 sD (fileE p id) u (by decide) h.lt (ents_of h)
  rw [ho] at this
  exact this

set_option maxHeartbeats 4000000 in
set_option maxRecDepth 100000 in
theorem refusal_swap {u : World} {bs bt : Nat} (hs : Blk u bs 56 sC) (ht : Blk u bt 56 tC) :
    Calls Tryz.prog 57 #[.slice (some ⟨bs, 0, none⟩) 2 2, .slice (some ⟨bt, 0, none⟩) 2 2, .bool false, .slice none 0 0] u fun e w' => e = .returned (.tuple #[.int .i64 0, .int .i64 0]) ∧ Below u.heap.size u w' := by
  have HB0 := hidD (box_below u #[.slice (some ⟨bs, 0, none⟩) 2 2, .slice (some ⟨bt, 0, none⟩) 2 2] 22)
  have P0 := hidD (Blk.new u 22 [.slice (some ⟨bs, 0, none⟩) 2 2, .slice (some ⟨bt, 0, none⟩) 2 2])
  have HS := hidD (hs.below HB0.out)
  have HT := hidD (ht.below HB0.out)
  have p0 := P0.out.cell 0 rfl
  clear hs ht
  go_enter Tryz.func57, Tryz.ntmps57
  go_wp2
  refine wp_loop_rounds 3 ?_
  rw [rounds_succ]
  go_wp2_with fail
  refine (check_sK HS.out).mono ?_
  rintro e w1 ⟨rfl, hb⟩
  have HB1 := hidD (HB0.out.trans (hb.mono HB0.out.size))
  have S1 := hidD (HS.out.below hb)
  have T1 := hidD (HT.out.below hb)
  have p1 := (P0.out.below hb).cell 1 rfl
  clear hb p0 P0 HS HT
  go_wp2_with fail
  rw [rounds_succ]
  go_wp2_with fail
  refine (check_tK T1.out).mono ?_
  rintro e w2 ⟨rfl, hb⟩
  have HB2 := hidD (HB1.out.trans (hb.mono HB1.out.size))
  have S2 := hidD (S1.out.below hb)
  have T2 := hidD (T1.out.below hb)
  clear hb p1 S1 T1
  go_wp2_with fail
  rw [rounds_succ]
  go_wp2_with fail
  refine wp_loop_rounds 3 ?_
  have t0 := T2.out.cell 0 rfl
  have t1 := T2.out.cell 1 rfl
  have t2 := T2.out.cell 2 rfl
  have t3 := T2.out.cell 3 rfl
  have t4 := T2.out.cell 4 rfl
  have X := hidD (Blk.new w2 56 [.string ⟨#[97]⟩, .bool false, .int .i64 2, .int .i64 3, .int .i64 0])
  have BX := hidD (box_below w2 #[.string ⟨#[97]⟩, .bool false, .int .i64 2, .int .i64 3, .int .i64 0] 56)
  have SX := hidD (S2.out.below BX.out)
  have x0 := X.out.cell 0 rfl
  have x1 := X.out.cell 1 rfl
  have x2 := X.out.cell 2 rfl
  have x3 := X.out.cell 3 rfl
  have x4 := X.out.cell 4 rfl
  rw [rounds_succ]
  go_wp2_with fail
  refine (other_sK SX.out ⟨#[97]⟩ 2 (by kernel_rfl)).mono ?_
  rintro e w3 ⟨rfl, hb⟩
  have HB3 := hidD ((HB2.out.trans (BX.out.mono HB2.out.size)).trans (hb.mono (Nat.le_trans HB2.out.size BX.out.size)))
  have S3 := hidD (SX.out.below hb)
  have T3 := hidD ((T2.out.below BX.out).below hb)
  clear hb X BX SX x0 x1 x2 x3 x4 t0 t1 t2 t3 t4
  go_wp2_with fail
  have t0 := T3.out.cell 5 rfl
  have t1 := T3.out.cell 6 rfl
  have t2 := T3.out.cell 7 rfl
  have t3 := T3.out.cell 8 rfl
  have t4 := T3.out.cell 9 rfl
  have X := hidD (Blk.new w3 56 [.string ⟨#[98]⟩, .bool false, .int .i64 1, .int .i64 3, .int .i64 0])
  have BX := hidD (box_below w3 #[.string ⟨#[98]⟩, .bool false, .int .i64 1, .int .i64 3, .int .i64 0] 56)
  have SX := hidD (S3.out.below BX.out)
  have x0 := X.out.cell 0 rfl
  have x1 := X.out.cell 1 rfl
  have x2 := X.out.cell 2 rfl
  have x3 := X.out.cell 3 rfl
  have x4 := X.out.cell 4 rfl
  rw [rounds_succ]
  go_wp2_with fail
  refine (other_sK SX.out ⟨#[98]⟩ 1 (by kernel_rfl)).mono ?_
  rintro e w4 ⟨rfl, hb⟩
  have HB4 := hidD ((HB3.out.trans (BX.out.mono HB3.out.size)).trans (hb.mono (Nat.le_trans HB3.out.size BX.out.size)))
  have S4 := hidD (SX.out.below hb)
  have T4 := hidD ((T3.out.below BX.out).below hb)
  clear hb X BX SX x0 x1 x2 x3 x4 t0 t1 t2 t3 t4
  go_wp2_with fail
  rw [rounds_succ]
  go_wp2_with fail
  refine (missing_swap ⟨S4.out, T4.out⟩).mono ?_
  rintro e w5 ⟨rfl, hb⟩
  have HBz := hidD (HB4.out.trans (hb.mono HB4.out.size))
  clear hb
  go_wp2_with fail
  go_ret2
  exact ⟨rfl, HBz.out⟩

set_option maxHeartbeats 4000000 in
set_option maxRecDepth 100000 in
theorem refusal_store {u : World} {bs bt bi : Nat} (hs : Blk u bs 56 sC) (ht : Blk u bt 56 cC) (hi : Blk u bi 3 [.int .i64 4]) :
    Calls Tryz.prog 57 #[.slice (some ⟨bs, 0, none⟩) 2 2, .slice (some ⟨bt, 0, none⟩) 1 1, .bool false, .slice (some ⟨bi, 0, none⟩) 1 1] u fun e w' => e = .returned (.tuple #[.int .i64 7, .int .i64 3]) ∧ Below u.heap.size u w' := by
  have HB0 := hidD (box_below u #[.slice (some ⟨bs, 0, none⟩) 2 2, .slice (some ⟨bt, 0, none⟩) 1 1] 22)
  have P0 := hidD (Blk.new u 22 [.slice (some ⟨bs, 0, none⟩) 2 2, .slice (some ⟨bt, 0, none⟩) 1 1])
  have HS := hidD (hs.below HB0.out)
  have HT := hidD (ht.below HB0.out)
  have HN := hidD (hi.below HB0.out)
  have p0 := P0.out.cell 0 rfl
  clear hs ht hi
  go_enter Tryz.func57, Tryz.ntmps57
  go_wp2
  refine wp_loop_rounds 3 ?_
  rw [rounds_succ]
  go_wp2_with fail
  refine (check_sK HS.out).mono ?_
  rintro e w1 ⟨rfl, hb⟩
  have HB1 := hidD (HB0.out.trans (hb.mono HB0.out.size))
  have S1 := hidD (HS.out.below hb)
  have T1 := hidD (HT.out.below hb)
  have N1 := hidD (HN.out.below hb)
  have p1 := (P0.out.below hb).cell 1 rfl
  clear hb p0 P0 HS HT
  go_wp2_with fail
  rw [rounds_succ]
  go_wp2_with fail
  refine (check_cK T1.out).mono ?_
  rintro e w2 ⟨rfl, hb⟩
  have HB2 := hidD (HB1.out.trans (hb.mono HB1.out.size))
  have S2 := hidD (S1.out.below hb)
  have T2 := hidD (T1.out.below hb)
  have N2 := hidD (N1.out.below hb)
  clear hb p1 S1 T1
  go_wp2_with fail
  rw [rounds_succ]
  go_wp2_with fail
  refine wp_loop_rounds 2 ?_
  have t0 := T2.out.cell 0 rfl
  have t1 := T2.out.cell 1 rfl
  have t2 := T2.out.cell 2 rfl
  have t3 := T2.out.cell 3 rfl
  have t4 := T2.out.cell 4 rfl
  have X := hidD (Blk.new w2 56 [.string ⟨#[99]⟩, .bool false, .int .i64 3, .int .i64 3, .int .i64 0])
  have BX := hidD (box_below w2 #[.string ⟨#[99]⟩, .bool false, .int .i64 3, .int .i64 3, .int .i64 0] 56)
  have SX := hidD (S2.out.below BX.out)
  have x0 := X.out.cell 0 rfl
  have x1 := X.out.cell 1 rfl
  have x2 := X.out.cell 2 rfl
  have x3 := X.out.cell 3 rfl
  have x4 := X.out.cell 4 rfl
  rw [rounds_succ]
  go_wp2_with fail
  refine (other_sK SX.out ⟨#[99]⟩ 3 (by kernel_rfl)).mono ?_
  rintro e w3 ⟨rfl, hb⟩
  have HB3 := hidD ((HB2.out.trans (BX.out.mono HB2.out.size)).trans (hb.mono (Nat.le_trans HB2.out.size BX.out.size)))
  have S3 := hidD (SX.out.below hb)
  have T3 := hidD ((T2.out.below BX.out).below hb)
  have N3 := hidD ((N2.out.below BX.out).below hb)
  clear hb X BX SX x0 x1 x2 x3 x4 t0 t1 t2 t3 t4
  go_wp2_with fail
  rw [rounds_succ]
  go_wp2_with fail
  refine (missing_store S3.out T3.out N3.out).mono ?_
  rintro e w4 ⟨rfl, hb⟩
  have HBz := hidD (HB3.out.trans (hb.mono HB3.out.size))
  clear hb
  go_wp2_with fail
  go_ret2
  exact ⟨rfl, HBz.out⟩

set_option maxHeartbeats 4000000 in
set_option maxRecDepth 100000 in
theorem plan28_swap {u : World} {bs bt : Nat} (hs : Blk u bs 56 sC) (ht : Blk u bt 56 tC) :
    Calls Tryz.prog 36 #[.slice (some ⟨bs, 0, none⟩) 2 2, .slice (some ⟨bt, 0, none⟩) 2 2, .bool false, .slice none 0 0] u fun e w' => ∃ ov, e = .returned (.tuple #[ov, .int .i64 0, .int .i64 0]) ∧ w'.ownsRow u.heap.size 59 6 ov 3 swapC ∧ Below u.heap.size u w' := by
  have HR := hidD (refusal_swap hs ht)
  have HI := hidD (Inp.mk hs ht)
  clear hs ht
  go_enter Tryz.func36, Tryz.ntmps36
  go_wp2_with fail
  refine HR.out.mono ?_
  rintro e w1 ⟨rfl, hb⟩
  have HB := hidD hb
  have HI1 := hidD (HI.out.below hb)
  clear hb HI HR
  go_wp2_with fail
  refine (steps_swap HI1.out).mono ?_
  rintro e w2 ⟨g, c, F0, c0, F1, c1, rfl, hown, h0, h1, hne, _, _, hb2⟩
  have HO := hidD (inOrder_swap hb2 hown h0 h1)
  clear hown h0 h1 hb2
  go_wp2_with fail
  refine HO.out.mono ?_
  rintro e w3 ⟨ov, rfl, hown, hb3⟩
  have H3 := hidD (And.intro hown hb3)
  clear hown hb3 HO
  go_wp2_with fail
  go_ret3
  exact ⟨ov, rfl, own_monoK H3.out.1 HB.out.size, HB.out.trans (H3.out.2.mono HB.out.size)⟩
set_option maxHeartbeats 4000000 in
set_option maxRecDepth 100000 in
theorem plan_swap {u : World} {bs bt : Nat} (hs : Blk u bs 56 sC) (ht : Blk u bt 56 tC) :
    Calls Tryz.prog 10 #[.slice (some ⟨bs, 0, none⟩) 2 2, .slice (some ⟨bt, 0, none⟩) 2 2, .bool false, .slice none 0 0] u fun e w' => ∃ ov, e = .returned (.tuple #[ov, .int .i64 0, .int .i64 0]) ∧ w'.ownsRow u.heap.size 59 6 ov 3 swapC ∧ Below u.heap.size u w' := by
  have HP := hidD (plan28_swap hs ht)
  clear hs ht
  go_enter Tryz.func10, Tryz.ntmps10
  go_wp2_with fail
  refine HP.out.mono ?_
  rintro e w1 ⟨ov, rfl, hown, hb⟩
  have H1 := hidD (And.intro hown hb)
  clear hown hb
  go_wp2_with fail
  go_ret3
  exact ⟨ov, rfl, H1.out.1, H1.out.2⟩
set_option maxHeartbeats 4000000 in
set_option maxRecDepth 100000 in
theorem plan_store {u : World} {bs bt bi : Nat} (hs : Blk u bs 56 sC) (ht : Blk u bt 56 cC) (hi : Blk u bi 3 [.int .i64 4]) :
    Calls Tryz.prog 10 #[.slice (some ⟨bs, 0, none⟩) 2 2, .slice (some ⟨bt, 0, none⟩) 1 1, .bool false, .slice (some ⟨bi, 0, none⟩) 1 1] u fun e w' => e = .returned (.tuple #[.slice none 0 0, .int .i64 7, .int .i64 3]) ∧ Below u.heap.size u w' := by
  have HR := hidD (refusal_store hs ht hi)
  clear hs ht hi
  have h28 : Calls Tryz.prog 36 #[.slice (some ⟨bs, 0, none⟩) 2 2, .slice (some ⟨bt, 0, none⟩) 1 1, .bool false, .slice (some ⟨bi, 0, none⟩) 1 1] u fun e w' => e = .returned (.tuple #[.slice none 0 0, .int .i64 7, .int .i64 3]) ∧ Below u.heap.size u w' := by
    go_enter Tryz.func36, Tryz.ntmps36
    go_wp2_with fail
    refine HR.out.mono ?_
    rintro e w1 ⟨rfl, hb⟩
    have HB := hidD hb
    clear hb
    go_wp2_with fail
    go_ret3
    exact ⟨rfl, HB.out⟩
  have H28 := hidD h28
  clear h28
  go_enter Tryz.func10, Tryz.ntmps10
  go_wp2_with fail
  refine H28.out.mono ?_
  rintro e w1 ⟨rfl, hb⟩
  have HB := hidD hb
  clear hb
  go_wp2_with fail
  go_ret3
  exact ⟨rfl, HB.out⟩
end Go.Proofs.YtpjjagalekolaaaGreatDoor

