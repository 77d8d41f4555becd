/- Operations of a script: the reference's test. -/
import Derived.Test.YtjaepomjdknieaaDoorG
namespace Go.Proofs.YtjaepomjdknieaaDoor
open Go.RowKit
set_option linter.unusedSimpArgs false

set_option maxHeartbeats 1000000 in
theorem anyPath_any (s : ByteArray) (w : World) (hs : s.size ≤ 1500000) :
    Calls Tryd.prog 87 #[.string s] w fun e w' => e = .returned (.bool (placeB s.data.toList true)) ∧ Below w.heap.size w w' := by
  go_enter Tryd.func87, Tryd.ntmps87
  go_wp2_with (first | (go_at_call 73; refine (refPath_any _ _ hs).mono ?_; rintro e w1 ⟨rfl, hb⟩) | (go_at_call 74; refine (refSpare_any _ _ (by omega)).mono ?_; rintro e w' ⟨rfl, rfl⟩))
  all_goals
    go_ret
    exact ⟨ret_bool (by simp [placeB, *]), hb⟩

theorem placeB_false (l : List UInt8) : placeB l false = pathL l := by simp [placeB]

/-- What the reference reads of the box behind its calls. -/
theorem box_kept {w w1 w2 w3 : World} {o : Obj} (h1 : Below (w.heap.size + 1) (w.alloc o) w1) (h2 : Below w1.heap.size w1 w2) (h3 : Below w2.heap.size w2 w3) :
    (∀ j, w1.cell? ⟨w.heap.size, j, none⟩ = (w.alloc o).cell? ⟨w.heap.size, j, none⟩) ∧ (∀ j, w2.cell? ⟨w.heap.size, j, none⟩ = (w.alloc o).cell? ⟨w.heap.size, j, none⟩) ∧ (∀ j, w3.cell? ⟨w.heap.size, j, none⟩ = (w.alloc o).cell? ⟨w.heap.size, j, none⟩) ∧ Below w.heap.size w w3 := by
  have s1 := h1.size
  have s2 := h2.size
  simp only [World.size_alloc] at s1
  have a1 : ∀ j, w1.cell? ⟨w.heap.size, j, none⟩ = (w.alloc o).cell? ⟨w.heap.size, j, none⟩ := fun j => h1.cell (p := ⟨w.heap.size, j, none⟩) (Nat.lt_succ_self _)
  have a2 : ∀ j, w2.cell? ⟨w.heap.size, j, none⟩ = (w.alloc o).cell? ⟨w.heap.size, j, none⟩ := fun j => (h2.cell (p := ⟨w.heap.size, j, none⟩) (by show w.heap.size < _; omega)).trans (a1 j)
  have a3 : ∀ j, w3.cell? ⟨w.heap.size, j, none⟩ = (w.alloc o).cell? ⟨w.heap.size, j, none⟩ := fun j => (h3.cell (p := ⟨w.heap.size, j, none⟩) (by show w.heap.size < _; omega)).trans (a2 j)
  exact ⟨a1, a2, a3, (((Below.refl _ _).alloc (Nat.le_refl _) _).trans (h1.mono (by omega))).trans ((h2.mono (by omega)).trans (h3.mono (by omega)))⟩

set_option maxHeartbeats 2000000 in
set_option maxRecDepth 100000 in
theorem refIs_1 (o : OpD) (w : World) (hs : o.small) :
    Calls Tryd.prog 64 #[.agg #[.int .i64 1, .string o.path, .string o.dest, .int .i64 o.id, .int .i64 o.size, .int .i64 o.mode]] w fun e w' => e = .returned (.bool (opFits o (needOf 1))) ∧ Below w.heap.size w w' := by
  go_enter Tryd.func64, Tryd.ntmps64
  go_wp2_with fail
  refine (anyPath_any _ _ hs.1).mono ?_
  rintro e w1 ⟨rfl, hb1⟩
  obtain ⟨hc1, _⟩ := bcell hb1
  have hz1 := hb1.size
  simp only [World.size_alloc] at hz1 hb1
  have hz1a : w.heap.size < w1.heap.size := by omega
  go_wp2_with fail
  refine (anyPath_any _ _ hs.2).mono ?_
  rintro e w2 ⟨rfl, hb2⟩
  obtain ⟨hc2, _⟩ := bcell hb2
  have hz2 := hb2.size
  have hz2a : w.heap.size < w2.heap.size := by omega
  go_wp2_with fail
  refine (refPath_any _ _ hs.1).mono ?_
  rintro e w3 ⟨rfl, hb3⟩
  obtain ⟨hc3, _⟩ := bcell hb3
  have HB : Hid (Below w.heap.size w w3) := (box_kept hb1 hb2 hb3).2.2.2
  clear hb1 hb2 hb3 hz1 hz2
  go_wp2_with (go_at_call 88; refine (refWithin_any _ _ _ _).mono ?_; rintro e w' ⟨rfl, rfl⟩)
  all_goals
    go_ret
    refine ⟨ret_bool ?_, HB.out⟩
    clear hc1 hc2 hc3
    (try simp only [Lib.toList_data] at *)
    rw [Bool.eq_iff_iff]
    simp only [opFits, needOf, toB, fitsB, placeB_false, withinB, Bool.and_eq_true, Bool.or_eq_true, decide_eq_true_eq, beq_iff_eq, List.isEmpty_iff, if_true, Bool.false_eq_true, if_false, false_iff, true_iff] at *
    grind

set_option maxHeartbeats 2000000 in
set_option maxRecDepth 100000 in
theorem refIs_2 (o : OpD) (w : World) (hs : o.small) :
    Calls Tryd.prog 64 #[.agg #[.int .i64 2, .string o.path, .string o.dest, .int .i64 o.id, .int .i64 o.size, .int .i64 o.mode]] w fun e w' => e = .returned (.bool (opFits o (needOf 2))) ∧ Below w.heap.size w w' := by
  go_enter Tryd.func64, Tryd.ntmps64
  go_wp2_with fail
  refine (anyPath_any _ _ hs.1).mono ?_
  rintro e w1 ⟨rfl, hb1⟩
  obtain ⟨hc1, _⟩ := bcell hb1
  have hz1 := hb1.size
  simp only [World.size_alloc] at hz1 hb1
  have hz1a : w.heap.size < w1.heap.size := by omega
  go_wp2_with fail
  refine (anyPath_any _ _ hs.2).mono ?_
  rintro e w2 ⟨rfl, hb2⟩
  obtain ⟨hc2, _⟩ := bcell hb2
  have hz2 := hb2.size
  have hz2a : w.heap.size < w2.heap.size := by omega
  go_wp2_with fail
  refine (refPath_any _ _ hs.1).mono ?_
  rintro e w3 ⟨rfl, hb3⟩
  obtain ⟨hc3, _⟩ := bcell hb3
  have HB : Hid (Below w.heap.size w w3) := (box_kept hb1 hb2 hb3).2.2.2
  clear hb1 hb2 hb3 hz1 hz2
  go_wp2_with (go_at_call 88; refine (refWithin_any _ _ _ _).mono ?_; rintro e w' ⟨rfl, rfl⟩)
  all_goals
    go_ret
    refine ⟨ret_bool ?_, HB.out⟩
    clear hc1 hc2 hc3
    (try simp only [Lib.toList_data] at *)
    rw [Bool.eq_iff_iff]
    simp only [opFits, needOf, toB, fitsB, placeB_false, withinB, Bool.and_eq_true, Bool.or_eq_true, decide_eq_true_eq, beq_iff_eq, List.isEmpty_iff, if_true, Bool.false_eq_true, if_false, false_iff, true_iff] at *
    grind

set_option maxHeartbeats 2000000 in
set_option maxRecDepth 100000 in
theorem refIs_3 (o : OpD) (w : World) (hs : o.small) :
    Calls Tryd.prog 64 #[.agg #[.int .i64 3, .string o.path, .string o.dest, .int .i64 o.id, .int .i64 o.size, .int .i64 o.mode]] w fun e w' => e = .returned (.bool (opFits o (needOf 3))) ∧ Below w.heap.size w w' := by
  go_enter Tryd.func64, Tryd.ntmps64
  go_wp2_with fail
  refine (anyPath_any _ _ hs.1).mono ?_
  rintro e w1 ⟨rfl, hb1⟩
  obtain ⟨hc1, _⟩ := bcell hb1
  have hz1 := hb1.size
  simp only [World.size_alloc] at hz1 hb1
  have hz1a : w.heap.size < w1.heap.size := by omega
  go_wp2_with fail
  refine (anyPath_any _ _ hs.2).mono ?_
  rintro e w2 ⟨rfl, hb2⟩
  obtain ⟨hc2, _⟩ := bcell hb2
  have hz2 := hb2.size
  have hz2a : w.heap.size < w2.heap.size := by omega
  go_wp2_with fail
  refine (refPath_any _ _ hs.1).mono ?_
  rintro e w3 ⟨rfl, hb3⟩
  obtain ⟨hc3, _⟩ := bcell hb3
  have HB : Hid (Below w.heap.size w w3) := (box_kept hb1 hb2 hb3).2.2.2
  clear hb1 hb2 hb3 hz1 hz2
  go_wp2_with (go_at_call 88; refine (refWithin_any _ _ _ _).mono ?_; rintro e w' ⟨rfl, rfl⟩)
  all_goals
    go_ret
    refine ⟨ret_bool ?_, HB.out⟩
    clear hc1 hc2 hc3
    (try simp only [Lib.toList_data] at *)
    rw [Bool.eq_iff_iff]
    simp only [opFits, needOf, toB, fitsB, placeB_false, withinB, Bool.and_eq_true, Bool.or_eq_true, decide_eq_true_eq, beq_iff_eq, List.isEmpty_iff, if_true, Bool.false_eq_true, if_false, false_iff, true_iff] at *
    grind

set_option maxHeartbeats 2000000 in
set_option maxRecDepth 100000 in
theorem refIs_4 (o : OpD) (w : World) (hs : o.small) :
    Calls Tryd.prog 64 #[.agg #[.int .i64 4, .string o.path, .string o.dest, .int .i64 o.id, .int .i64 o.size, .int .i64 o.mode]] w fun e w' => e = .returned (.bool (opFits o (needOf 4))) ∧ Below w.heap.size w w' := by
  go_enter Tryd.func64, Tryd.ntmps64
  go_wp2_with fail
  refine (anyPath_any _ _ hs.1).mono ?_
  rintro e w1 ⟨rfl, hb1⟩
  obtain ⟨hc1, _⟩ := bcell hb1
  have hz1 := hb1.size
  simp only [World.size_alloc] at hz1 hb1
  have hz1a : w.heap.size < w1.heap.size := by omega
  go_wp2_with fail
  refine (anyPath_any _ _ hs.2).mono ?_
  rintro e w2 ⟨rfl, hb2⟩
  obtain ⟨hc2, _⟩ := bcell hb2
  have hz2 := hb2.size
  have hz2a : w.heap.size < w2.heap.size := by omega
  go_wp2_with fail
  refine (refPath_any _ _ hs.1).mono ?_
  rintro e w3 ⟨rfl, hb3⟩
  obtain ⟨hc3, _⟩ := bcell hb3
  have HB : Hid (Below w.heap.size w w3) := (box_kept hb1 hb2 hb3).2.2.2
  clear hb1 hb2 hb3 hz1 hz2
  go_wp2_with (go_at_call 88; refine (refWithin_any _ _ _ _).mono ?_; rintro e w' ⟨rfl, rfl⟩)
  all_goals
    go_ret
    refine ⟨ret_bool ?_, HB.out⟩
    clear hc1 hc2 hc3
    (try simp only [Lib.toList_data] at *)
    rw [Bool.eq_iff_iff]
    simp only [opFits, needOf, toB, fitsB, placeB_false, withinB, Bool.and_eq_true, Bool.or_eq_true, decide_eq_true_eq, beq_iff_eq, List.isEmpty_iff, if_true, Bool.false_eq_true, if_false, false_iff, true_iff] at *
    grind

set_option maxHeartbeats 2000000 in
set_option maxRecDepth 100000 in
theorem refIs_5 (o : OpD) (w : World) (hs : o.small) :
    Calls Tryd.prog 64 #[.agg #[.int .i64 5, .string o.path, .string o.dest, .int .i64 o.id, .int .i64 o.size, .int .i64 o.mode]] w fun e w' => e = .returned (.bool (opFits o (needOf 5))) ∧ Below w.heap.size w w' := by
  go_enter Tryd.func64, Tryd.ntmps64
  go_wp2_with fail
  refine (anyPath_any _ _ hs.1).mono ?_
  rintro e w1 ⟨rfl, hb1⟩
  obtain ⟨hc1, _⟩ := bcell hb1
  have hz1 := hb1.size
  simp only [World.size_alloc] at hz1 hb1
  have hz1a : w.heap.size < w1.heap.size := by omega
  go_wp2_with fail
  refine (anyPath_any _ _ hs.2).mono ?_
  rintro e w2 ⟨rfl, hb2⟩
  obtain ⟨hc2, _⟩ := bcell hb2
  have hz2 := hb2.size
  have hz2a : w.heap.size < w2.heap.size := by omega
  go_wp2_with fail
  refine (refPath_any _ _ hs.1).mono ?_
  rintro e w3 ⟨rfl, hb3⟩
  obtain ⟨hc3, _⟩ := bcell hb3
  have HB : Hid (Below w.heap.size w w3) := (box_kept hb1 hb2 hb3).2.2.2
  clear hb1 hb2 hb3 hz1 hz2
  go_wp2_with (go_at_call 88; refine (refWithin_any _ _ _ _).mono ?_; rintro e w' ⟨rfl, rfl⟩)
  all_goals
    go_ret
    refine ⟨ret_bool ?_, HB.out⟩
    clear hc1 hc2 hc3
    (try simp only [Lib.toList_data] at *)
    rw [Bool.eq_iff_iff]
    simp only [opFits, needOf, toB, fitsB, placeB_false, withinB, Bool.and_eq_true, Bool.or_eq_true, decide_eq_true_eq, beq_iff_eq, List.isEmpty_iff, if_true, Bool.false_eq_true, if_false, false_iff, true_iff] at *
    grind

set_option maxHeartbeats 2000000 in
set_option maxRecDepth 100000 in
theorem refIs_6 (o : OpD) (w : World) (hs : o.small) :
    Calls Tryd.prog 64 #[.agg #[.int .i64 6, .string o.path, .string o.dest, .int .i64 o.id, .int .i64 o.size, .int .i64 o.mode]] w fun e w' => e = .returned (.bool (opFits o (needOf 6))) ∧ Below w.heap.size w w' := by
  go_enter Tryd.func64, Tryd.ntmps64
  go_wp2_with fail
  refine (anyPath_any _ _ hs.1).mono ?_
  rintro e w1 ⟨rfl, hb1⟩
  obtain ⟨hc1, _⟩ := bcell hb1
  have hz1 := hb1.size
  simp only [World.size_alloc] at hz1 hb1
  have hz1a : w.heap.size < w1.heap.size := by omega
  go_wp2_with fail
  refine (anyPath_any _ _ hs.2).mono ?_
  rintro e w2 ⟨rfl, hb2⟩
  obtain ⟨hc2, _⟩ := bcell hb2
  have hz2 := hb2.size
  have hz2a : w.heap.size < w2.heap.size := by omega
  go_wp2_with fail
  refine (refPath_any _ _ hs.1).mono ?_
  rintro e w3 ⟨rfl, hb3⟩
  obtain ⟨hc3, _⟩ := bcell hb3
  have HB : Hid (Below w.heap.size w w3) := (box_kept hb1 hb2 hb3).2.2.2
  clear hb1 hb2 hb3 hz1 hz2
  go_wp2_with (go_at_call 88; refine (refWithin_any _ _ _ _).mono ?_; rintro e w' ⟨rfl, rfl⟩)
  all_goals
    go_ret
    refine ⟨ret_bool ?_, HB.out⟩
    clear hc1 hc2 hc3
    (try simp only [Lib.toList_data] at *)
    rw [Bool.eq_iff_iff]
    simp only [opFits, needOf, toB, fitsB, placeB_false, withinB, Bool.and_eq_true, Bool.or_eq_true, decide_eq_true_eq, beq_iff_eq, List.isEmpty_iff, if_true, Bool.false_eq_true, if_false, false_iff, true_iff] at *
    grind

set_option maxHeartbeats 2000000 in
set_option maxRecDepth 100000 in
theorem refIs_7 (o : OpD) (w : World) (hs : o.small) :
    Calls Tryd.prog 64 #[.agg #[.int .i64 7, .string o.path, .string o.dest, .int .i64 o.id, .int .i64 o.size, .int .i64 o.mode]] w fun e w' => e = .returned (.bool (opFits o (needOf 7))) ∧ Below w.heap.size w w' := by
  go_enter Tryd.func64, Tryd.ntmps64
  go_wp2_with fail
  refine (anyPath_any _ _ hs.1).mono ?_
  rintro e w1 ⟨rfl, hb1⟩
  obtain ⟨hc1, _⟩ := bcell hb1
  have hz1 := hb1.size
  simp only [World.size_alloc] at hz1 hb1
  have hz1a : w.heap.size < w1.heap.size := by omega
  go_wp2_with fail
  refine (anyPath_any _ _ hs.2).mono ?_
  rintro e w2 ⟨rfl, hb2⟩
  obtain ⟨hc2, _⟩ := bcell hb2
  have hz2 := hb2.size
  have hz2a : w.heap.size < w2.heap.size := by omega
  go_wp2_with fail
  refine (refPath_any _ _ hs.1).mono ?_
  rintro e w3 ⟨rfl, hb3⟩
  obtain ⟨hc3, _⟩ := bcell hb3
  have HB : Hid (Below w.heap.size w w3) := (box_kept hb1 hb2 hb3).2.2.2
  clear hb1 hb2 hb3 hz1 hz2
  go_wp2_with (go_at_call 88; refine (refWithin_any _ _ _ _).mono ?_; rintro e w' ⟨rfl, rfl⟩)
  all_goals
    go_ret
    refine ⟨ret_bool ?_, HB.out⟩
    clear hc1 hc2 hc3
    (try simp only [Lib.toList_data] at *)
    rw [Bool.eq_iff_iff]
    simp only [opFits, needOf, toB, fitsB, placeB_false, withinB, Bool.and_eq_true, Bool.or_eq_true, decide_eq_true_eq, beq_iff_eq, List.isEmpty_iff, if_true, Bool.false_eq_true, if_false, false_iff, true_iff] at *
    grind

set_option maxHeartbeats 2000000 in
set_option maxRecDepth 100000 in
theorem refIs_other (o : OpD) (w : World) (hs : o.small) (k1 : (o.kind == 1) = false) (k2 : (o.kind == 2) = false) (k3 : (o.kind == 3) = false) (k4 : (o.kind == 4) = false) (k5 : (o.kind == 5) = false) (k6 : (o.kind == 6) = false) (k7 : (o.kind == 7) = false) :
    Calls Tryd.prog 64 #[.agg #[.int .i64 o.kind, .string o.path, .string o.dest, .int .i64 o.id, .int .i64 o.size, .int .i64 o.mode]] w fun e w' => e = .returned (.bool (false)) ∧ Below w.heap.size w w' := by
  go_enter Tryd.func64, Tryd.ntmps64
  go_wp2_with fail
  refine (anyPath_any _ _ hs.1).mono ?_
  rintro e w1 ⟨rfl, hb1⟩
  obtain ⟨hc1, _⟩ := bcell hb1
  have hz1 := hb1.size
  simp only [World.size_alloc] at hz1 hb1
  have hz1a : w.heap.size < w1.heap.size := by omega
  go_wp2_with fail
  refine (anyPath_any _ _ hs.2).mono ?_
  rintro e w2 ⟨rfl, hb2⟩
  obtain ⟨hc2, _⟩ := bcell hb2
  have hz2 := hb2.size
  have hz2a : w.heap.size < w2.heap.size := by omega
  go_wp2_with fail
  refine (refPath_any _ _ hs.1).mono ?_
  rintro e w3 ⟨rfl, hb3⟩
  obtain ⟨hc3, _⟩ := bcell hb3
  have HB : Hid (Below w.heap.size w w3) := (box_kept hb1 hb2 hb3).2.2.2
  clear hb1 hb2 hb3 hz1 hz2
  go_wp2_with (go_at_call 88; refine (refWithin_any _ _ _ _).mono ?_; rintro e w' ⟨rfl, rfl⟩)
  all_goals
    go_ret
    exact ⟨rfl, HB.out⟩

theorem refIs_any (o : OpD) (w : World) (hs : o.small) :
    Calls Tryd.prog 64 #[.agg #[.int .i64 o.kind, .string o.path, .string o.dest, .int .i64 o.id, .int .i64 o.size, .int .i64 o.mode]] w fun e w' => e = .returned (.bool (okOp o)) ∧ Below w.heap.size w w' := by
  by_cases hk : 1 ≤ o.kind ∧ o.kind ≤ 7
  · have e1 : withinB o.kind 1 7 = true := by simp [withinB]; omega
    rw [okOp, e1, Bool.true_and]
    rcases (by omega : o.kind = 1 ∨ o.kind = 2 ∨ o.kind = 3 ∨ o.kind = 4 ∨ o.kind = 5 ∨ o.kind = 6 ∨ o.kind = 7) with h | h | h | h | h | h | h
    · rw [h]; exact refIs_1 o w hs
    · rw [h]; exact refIs_2 o w hs
    · rw [h]; exact refIs_3 o w hs
    · rw [h]; exact refIs_4 o w hs
    · rw [h]; exact refIs_5 o w hs
    · rw [h]; exact refIs_6 o w hs
    · rw [h]; exact refIs_7 o w hs
  · have e1 : withinB o.kind 1 7 = false := by
      cases h : withinB o.kind 1 7
      · rfl
      · exfalso; apply hk; simpa [withinB] using h
    rw [okOp, e1, Bool.false_and]
    exact refIs_other o w hs (by simp; omega) (by simp; omega) (by simp; omega) (by simp; omega) (by simp; omega) (by simp; omega) (by simp; omega)
end Go.Proofs.YtjaepomjdknieaaDoor
