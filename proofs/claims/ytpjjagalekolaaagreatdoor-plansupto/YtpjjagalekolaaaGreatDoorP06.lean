/- G, H, N: in one text. -/
import Derived.Test.YtpjjagalekolaaaGreatDoorP05
import Derived.Lib.SmallJoins
/- What the package-level tables hold; which lists of operations are scripts: the program's test. -/
namespace Go.Proofs.YtpjjagalekolaaaGreatDoor
open Go.RowKit

def needOf : Nat → Need
  | 1 => ⟨⟨#[109, 107, 100, 105, 114]⟩, false, false, false, true⟩
  | 2 => ⟨⟨#[114, 109, 100, 105, 114]⟩, true, false, false, false⟩
  | 3 => ⟨⟨#[117, 110, 108, 105, 110, 107]⟩, true, false, false, false⟩
  | 4 => ⟨⟨#[119, 114, 105, 116, 101]⟩, true, false, true, true⟩
  | 5 => ⟨⟨#[99, 111, 112, 121]⟩, true, true, false, true⟩
  | 6 => ⟨⟨#[114, 101, 110, 97, 109, 101]⟩, true, true, false, false⟩
  | 7 => ⟨⟨#[99, 104, 109, 111, 100]⟩, true, false, false, true⟩
  | _ => ⟨⟨#[]⟩, false, false, false, false⟩

def okOp (o : OpD) : Bool := withinB o.kind 1 7 && opFits o (needOf o.kind.toNat)

/-- The ground: what the program's package-level variables hold. -/
structure Gd (w : World) : Prop where
  big : 4 ≤ w.heap.size
  len : ∃ m, w.cell? ⟨1, 0, none⟩ = some (.int .i64 m)
  need : ∀ k, k < 8 → ∀ j v, (needOf k).cells[j]? = some v → w.cell? ⟨0, k * 5 + j, none⟩ = some v

theorem Gd.below {w w' : World} (h : Gd w) (hb : Below w.heap.size w w') : Gd w' where
  big := by have := hb.size; have := h.big; omega
  len := by obtain ⟨m, hm⟩ := h.len; exact ⟨m, cell_kept hb (by have := h.big; omega) hm⟩
  need := fun k hk j v hv => cell_kept hb (by have := h.big; omega) (h.need k hk j v hv)

theorem Gd.alloc {w : World} (h : Gd w) (o : Obj) : Gd (w.alloc o) := h.below ((Below.refl _ _).alloc (Nat.le_refl _) o)

def OpD.val (o : OpD) : Value := .agg #[.int .i64 o.kind, .string o.path, .string o.dest, .int .i64 o.id, .int .i64 o.size, .int .i64 o.mode]
def OpD.small (o : OpD) : Prop := o.path.size ≤ 1500000 ∧ o.dest.size ≤ 1500000

/-- A row of operations in memory. -/
def OpsAt (w : World) (b off : Nat) (l : List OpD) : Prop := ∀ (k : Nat) (h : k < l.length), ∀ j v, l[k].cells[j]? = some v → w.cell? ⟨b, off + k * 6 + j, none⟩ = some v

theorem OpsAt.below {w w' : World} {b off : Nat} {l : List OpD} (h : OpsAt w b off l) {B : Nat} (hb : Below B w w') (hB : b < B) : OpsAt w' b off l :=
  fun k hk j v hv => cell_kept hb hB (h k hk j v hv)

def scriptB (l : List OpD) : Bool := decide (l.length ≤ 400) && l.all okOp

/-- The first operation that is wrong, seen from number i on. -/
def fwrong : List OpD → Nat → Int × Bool
  | [], _ => (0, false)
  | o :: t, i => if i = 400 ∨ okOp o = false then (i, true) else fwrong t (i + 1)
theorem fwrong_at (l : List OpD) (k : Nat) (h : k < l.length) : fwrong (l.drop k) k = if k = 400 ∨ okOp l[k] = false then ((k : Int), true) else fwrong (l.drop (k + 1)) (k + 1) := by
  rw [List.drop_eq_getElem_cons h, fwrong]
theorem fwrong_script (l : List OpD) : ∀ i, i ≤ 400 → (fwrong l i).2 = !(decide (i + l.length ≤ 400) && l.all okOp) := by
  induction l with
  | nil => intro i hi; simp [fwrong]; omega
  | cons o t ih =>
    intro i hi
    rw [fwrong]
    split
    · rename_i h
      rcases h with h | h
      · simp; left; omega
      · simp [h]
    · rename_i h
      simp only [not_or, Bool.not_eq_false] at h
      rw [ih (i + 1) (by omega), List.all_cons, h.2]
      simp only [List.length_cons, Bool.true_and, show i + 1 + t.length = i + (t.length + 1) by omega]
theorem fwrong_scriptB (l : List OpD) : (fwrong l 0).2 = !scriptB l := by
  rw [fwrong_script l 0 (by omega), scriptB]; simp

end Go.Proofs.YtpjjagalekolaaaGreatDoor

/- Operations of a script: the reference's test. -/
namespace Go.Proofs.YtpjjagalekolaaaGreatDoor
open Go.RowKit
set_option linter.unusedSimpArgs false

set_option maxHeartbeats 1000000 in
theorem anyPath_any (s : ByteArray) (w : World) (hs : s.size ≤ 1500000) :
    Calls Tryz.prog 106 #[.string s] w fun e w' => e = .returned (.bool (placeB s.data.toList true)) ∧ Below w.heap.size w w' := by
  go_enter Tryz.func106, Tryz.ntmps106
  go_wp2_with (first | (go_at_call 107; refine (refPath_any _ _ hs).mono ?_; rintro e w1 ⟨rfl, hb⟩) | (go_at_call 113; refine (refSpare_any _ _ (by omega)).mono ?_; rintro e w' ⟨rfl, rfl⟩))
  all_goals
    go_ret
    exact ⟨ret_bool (by simp [placeB, *]), hb⟩

theorem placeB_false (l : List UInt8) : placeB l false = pathL l := by simp [placeB]

/-- What the reference reads of the box behind its calls. -/
theorem box_kept {w w1 w2 w3 : World} {o : Obj} (h1 : Below (w.heap.size + 1) (w.alloc o) w1) (h2 : Below w1.heap.size w1 w2) (h3 : Below w2.heap.size w2 w3) :
    (∀ j, w1.cell? ⟨w.heap.size, j, none⟩ = (w.alloc o).cell? ⟨w.heap.size, j, none⟩) ∧ (∀ j, w2.cell? ⟨w.heap.size, j, none⟩ = (w.alloc o).cell? ⟨w.heap.size, j, none⟩) ∧ (∀ j, w3.cell? ⟨w.heap.size, j, none⟩ = (w.alloc o).cell? ⟨w.heap.size, j, none⟩) ∧ Below w.heap.size w w3 := by
  have s1 := h1.size
  have s2 := h2.size
  simp only [World.size_alloc] at s1
  have a1 : ∀ j, w1.cell? ⟨w.heap.size, j, none⟩ = (w.alloc o).cell? ⟨w.heap.size, j, none⟩ := fun j => h1.cell (p := ⟨w.heap.size, j, none⟩) (Nat.lt_succ_self _)
  have a2 : ∀ j, w2.cell? ⟨w.heap.size, j, none⟩ = (w.alloc o).cell? ⟨w.heap.size, j, none⟩ := fun j => (h2.cell (p := ⟨w.heap.size, j, none⟩) (by show w.heap.size < _; omega)).trans (a1 j)
  have a3 : ∀ j, w3.cell? ⟨w.heap.size, j, none⟩ = (w.alloc o).cell? ⟨w.heap.size, j, none⟩ := fun j => (h3.cell (p := ⟨w.heap.size, j, none⟩) (by show w.heap.size < _; omega)).trans (a2 j)
  exact ⟨a1, a2, a3, (((Below.refl _ _).alloc (Nat.le_refl _) _).trans (h1.mono (by omega))).trans ((h2.mono (by omega)).trans (h3.mono (by omega)))⟩

set_option maxHeartbeats 2000000 in
set_option maxRecDepth 100000 in
theorem refIs_1 (o : OpD) (w : World) (hs : o.small) :
    Calls Tryz.prog 61 #[.agg #[.int .i64 1, .string o.path, .string o.dest, .int .i64 o.id, .int .i64 o.size, .int .i64 o.mode]] w fun e w' => e = .returned (.bool (opFits o (needOf 1))) ∧ Below w.heap.size w w' := by
  go_enter Tryz.func61, Tryz.ntmps61
  go_wp2_with fail
  refine (anyPath_any _ _ hs.1).mono ?_
  rintro e w1 ⟨rfl, hb1⟩
  obtain ⟨hc1, _⟩ := bcell hb1
  have hz1 := hb1.size
  simp only [World.size_alloc] at hz1 hb1
  have hz1a : w.heap.size < w1.heap.size := by omega
  go_wp2_with fail
  refine (anyPath_any _ _ hs.2).mono ?_
  rintro e w2 ⟨rfl, hb2⟩
  obtain ⟨hc2, _⟩ := bcell hb2
  have hz2 := hb2.size
  have hz2a : w.heap.size < w2.heap.size := by omega
  go_wp2_with fail
  refine (refPath_any _ _ hs.1).mono ?_
  rintro e w3 ⟨rfl, hb3⟩
  obtain ⟨hc3, _⟩ := bcell hb3
  have HB : Hid (Below w.heap.size w w3) := (box_kept hb1 hb2 hb3).2.2.2
  clear hb1 hb2 hb3 hz1 hz2
  go_wp2_with (go_at_call 108; refine (refWithin_any _ _ _ _).mono ?_; rintro e w' ⟨rfl, rfl⟩)
  all_goals
    go_ret
    refine ⟨ret_bool ?_, HB.out⟩
    clear hc1 hc2 hc3
    (try simp only [Lib.toList_data] at *)
    rw [Bool.eq_iff_iff]
    simp only [opFits, needOf, toB, fitsB, placeB_false, withinB, Bool.and_eq_true, Bool.or_eq_true, decide_eq_true_eq, beq_iff_eq, List.isEmpty_iff, if_true, Bool.false_eq_true, if_false, false_iff, true_iff] at *
    grind

set_option maxHeartbeats 2000000 in
set_option maxRecDepth 100000 in
theorem refIs_2 (o : OpD) (w : World) (hs : o.small) :
    Calls Tryz.prog 61 #[.agg #[.int .i64 2, .string o.path, .string o.dest, .int .i64 o.id, .int .i64 o.size, .int .i64 o.mode]] w fun e w' => e = .returned (.bool (opFits o (needOf 2))) ∧ Below w.heap.size w w' := by
  go_enter Tryz.func61, Tryz.ntmps61
  go_wp2_with fail
  refine (anyPath_any _ _ hs.1).mono ?_
  rintro e w1 ⟨rfl, hb1⟩
  obtain ⟨hc1, _⟩ := bcell hb1
  have hz1 := hb1.size
  simp only [World.size_alloc] at hz1 hb1
  have hz1a : w.heap.size < w1.heap.size := by omega
  go_wp2_with fail
  refine (anyPath_any _ _ hs.2).mono ?_
  rintro e w2 ⟨rfl, hb2⟩
  obtain ⟨hc2, _⟩ := bcell hb2
  have hz2 := hb2.size
  have hz2a : w.heap.size < w2.heap.size := by omega
  go_wp2_with fail
  refine (refPath_any _ _ hs.1).mono ?_
  rintro e w3 ⟨rfl, hb3⟩
  obtain ⟨hc3, _⟩ := bcell hb3
  have HB : Hid (Below w.heap.size w w3) := (box_kept hb1 hb2 hb3).2.2.2
  clear hb1 hb2 hb3 hz1 hz2
  go_wp2_with (go_at_call 108; refine (refWithin_any _ _ _ _).mono ?_; rintro e w' ⟨rfl, rfl⟩)
  all_goals
    go_ret
    refine ⟨ret_bool ?_, HB.out⟩
    clear hc1 hc2 hc3
    (try simp only [Lib.toList_data] at *)
    rw [Bool.eq_iff_iff]
    simp only [opFits, needOf, toB, fitsB, placeB_false, withinB, Bool.and_eq_true, Bool.or_eq_true, decide_eq_true_eq, beq_iff_eq, List.isEmpty_iff, if_true, Bool.false_eq_true, if_false, false_iff, true_iff] at *
    grind

set_option maxHeartbeats 2000000 in
set_option maxRecDepth 100000 in
theorem refIs_3 (o : OpD) (w : World) (hs : o.small) :
    Calls Tryz.prog 61 #[.agg #[.int .i64 3, .string o.path, .string o.dest, .int .i64 o.id, .int .i64 o.size, .int .i64 o.mode]] w fun e w' => e = .returned (.bool (opFits o (needOf 3))) ∧ Below w.heap.size w w' := by
  go_enter Tryz.func61, Tryz.ntmps61
  go_wp2_with fail
  refine (anyPath_any _ _ hs.1).mono ?_
  rintro e w1 ⟨rfl, hb1⟩
  obtain ⟨hc1, _⟩ := bcell hb1
  have hz1 := hb1.size
  simp only [World.size_alloc] at hz1 hb1
  have hz1a : w.heap.size < w1.heap.size := by omega
  go_wp2_with fail
  refine (anyPath_any _ _ hs.2).mono ?_
  rintro e w2 ⟨rfl, hb2⟩
  obtain ⟨hc2, _⟩ := bcell hb2
  have hz2 := hb2.size
  have hz2a : w.heap.size < w2.heap.size := by omega
  go_wp2_with fail
  refine (refPath_any _ _ hs.1).mono ?_
  rintro e w3 ⟨rfl, hb3⟩
  obtain ⟨hc3, _⟩ := bcell hb3
  have HB : Hid (Below w.heap.size w w3) := (box_kept hb1 hb2 hb3).2.2.2
  clear hb1 hb2 hb3 hz1 hz2
  go_wp2_with (go_at_call 108; refine (refWithin_any _ _ _ _).mono ?_; rintro e w' ⟨rfl, rfl⟩)
  all_goals
    go_ret
    refine ⟨ret_bool ?_, HB.out⟩
    clear hc1 hc2 hc3
    (try simp only [Lib.toList_data] at *)
    rw [Bool.eq_iff_iff]
    simp only [opFits, needOf, toB, fitsB, placeB_false, withinB, Bool.and_eq_true, Bool.or_eq_true, decide_eq_true_eq, beq_iff_eq, List.isEmpty_iff, if_true, Bool.false_eq_true, if_false, false_iff, true_iff] at *
    grind

set_option maxHeartbeats 2000000 in
set_option maxRecDepth 100000 in
theorem refIs_4 (o : OpD) (w : World) (hs : o.small) :
    Calls Tryz.prog 61 #[.agg #[.int .i64 4, .string o.path, .string o.dest, .int .i64 o.id, .int .i64 o.size, .int .i64 o.mode]] w fun e w' => e = .returned (.bool (opFits o (needOf 4))) ∧ Below w.heap.size w w' := by
  go_enter Tryz.func61, Tryz.ntmps61
  go_wp2_with fail
  refine (anyPath_any _ _ hs.1).mono ?_
  rintro e w1 ⟨rfl, hb1⟩
  obtain ⟨hc1, _⟩ := bcell hb1
  have hz1 := hb1.size
  simp only [World.size_alloc] at hz1 hb1
  have hz1a : w.heap.size < w1.heap.size := by omega
  go_wp2_with fail
  refine (anyPath_any _ _ hs.2).mono ?_
  rintro e w2 ⟨rfl, hb2⟩
  obtain ⟨hc2, _⟩ := bcell hb2
  have hz2 := hb2.size
  have hz2a : w.heap.size < w2.heap.size := by omega
  go_wp2_with fail
  refine (refPath_any _ _ hs.1).mono ?_
  rintro e w3 ⟨rfl, hb3⟩
  obtain ⟨hc3, _⟩ := bcell hb3
  have HB : Hid (Below w.heap.size w w3) := (box_kept hb1 hb2 hb3).2.2.2
  clear hb1 hb2 hb3 hz1 hz2
  go_wp2_with (go_at_call 108; refine (refWithin_any _ _ _ _).mono ?_; rintro e w' ⟨rfl, rfl⟩)
  all_goals
    go_ret
    refine ⟨ret_bool ?_, HB.out⟩
    clear hc1 hc2 hc3
    (try simp only [Lib.toList_data] at *)
    rw [Bool.eq_iff_iff]
    simp only [opFits, needOf, toB, fitsB, placeB_false, withinB, Bool.and_eq_true, Bool.or_eq_true, decide_eq_true_eq, beq_iff_eq, List.isEmpty_iff, if_true, Bool.false_eq_true, if_false, false_iff, true_iff] at *
    grind

set_option maxHeartbeats 2000000 in
set_option maxRecDepth 100000 in
theorem refIs_5 (o : OpD) (w : World) (hs : o.small) :
    Calls Tryz.prog 61 #[.agg #[.int .i64 5, .string o.path, .string o.dest, .int .i64 o.id, .int .i64 o.size, .int .i64 o.mode]] w fun e w' => e = .returned (.bool (opFits o (needOf 5))) ∧ Below w.heap.size w w' := by
  go_enter Tryz.func61, Tryz.ntmps61
  go_wp2_with fail
  refine (anyPath_any _ _ hs.1).mono ?_
  rintro e w1 ⟨rfl, hb1⟩
  obtain ⟨hc1, _⟩ := bcell hb1
  have hz1 := hb1.size
  simp only [World.size_alloc] at hz1 hb1
  have hz1a : w.heap.size < w1.heap.size := by omega
  go_wp2_with fail
  refine (anyPath_any _ _ hs.2).mono ?_
  rintro e w2 ⟨rfl, hb2⟩
  obtain ⟨hc2, _⟩ := bcell hb2
  have hz2 := hb2.size
  have hz2a : w.heap.size < w2.heap.size := by omega
  go_wp2_with fail
  refine (refPath_any _ _ hs.1).mono ?_
  rintro e w3 ⟨rfl, hb3⟩
  obtain ⟨hc3, _⟩ := bcell hb3
  have HB : Hid (Below w.heap.size w w3) := (box_kept hb1 hb2 hb3).2.2.2
  clear hb1 hb2 hb3 hz1 hz2
  go_wp2_with (go_at_call 108; refine (refWithin_any _ _ _ _).mono ?_; rintro e w' ⟨rfl, rfl⟩)
  all_goals
    go_ret
    refine ⟨ret_bool ?_, HB.out⟩
    clear hc1 hc2 hc3
    (try simp only [Lib.toList_data] at *)
    rw [Bool.eq_iff_iff]
    simp only [opFits, needOf, toB, fitsB, placeB_false, withinB, Bool.and_eq_true, Bool.or_eq_true, decide_eq_true_eq, beq_iff_eq, List.isEmpty_iff, if_true, Bool.false_eq_true, if_false, false_iff, true_iff] at *
    grind

set_option maxHeartbeats 2000000 in
set_option maxRecDepth 100000 in
theorem refIs_6 (o : OpD) (w : World) (hs : o.small) :
    Calls Tryz.prog 61 #[.agg #[.int .i64 6, .string o.path, .string o.dest, .int .i64 o.id, .int .i64 o.size, .int .i64 o.mode]] w fun e w' => e = .returned (.bool (opFits o (needOf 6))) ∧ Below w.heap.size w w' := by
  go_enter Tryz.func61, Tryz.ntmps61
  go_wp2_with fail
  refine (anyPath_any _ _ hs.1).mono ?_
  rintro e w1 ⟨rfl, hb1⟩
  obtain ⟨hc1, _⟩ := bcell hb1
  have hz1 := hb1.size
  simp only [World.size_alloc] at hz1 hb1
  have hz1a : w.heap.size < w1.heap.size := by omega
  go_wp2_with fail
  refine (anyPath_any _ _ hs.2).mono ?_
  rintro e w2 ⟨rfl, hb2⟩
  obtain ⟨hc2, _⟩ := bcell hb2
  have hz2 := hb2.size
  have hz2a : w.heap.size < w2.heap.size := by omega
  go_wp2_with fail
  refine (refPath_any _ _ hs.1).mono ?_
  rintro e w3 ⟨rfl, hb3⟩
  obtain ⟨hc3, _⟩ := bcell hb3
  have HB : Hid (Below w.heap.size w w3) := (box_kept hb1 hb2 hb3).2.2.2
  clear hb1 hb2 hb3 hz1 hz2
  go_wp2_with (go_at_call 108; refine (refWithin_any _ _ _ _).mono ?_; rintro e w' ⟨rfl, rfl⟩)
  all_goals
    go_ret
    refine ⟨ret_bool ?_, HB.out⟩
    clear hc1 hc2 hc3
    (try simp only [Lib.toList_data] at *)
    rw [Bool.eq_iff_iff]
    simp only [opFits, needOf, toB, fitsB, placeB_false, withinB, Bool.and_eq_true, Bool.or_eq_true, decide_eq_true_eq, beq_iff_eq, List.isEmpty_iff, if_true, Bool.false_eq_true, if_false, false_iff, true_iff] at *
    grind

set_option maxHeartbeats 2000000 in
set_option maxRecDepth 100000 in
theorem refIs_7 (o : OpD) (w : World) (hs : o.small) :
    Calls Tryz.prog 61 #[.agg #[.int .i64 7, .string o.path, .string o.dest, .int .i64 o.id, .int .i64 o.size, .int .i64 o.mode]] w fun e w' => e = .returned (.bool (opFits o (needOf 7))) ∧ Below w.heap.size w w' := by
  go_enter Tryz.func61, Tryz.ntmps61
  go_wp2_with fail
  refine (anyPath_any _ _ hs.1).mono ?_
  rintro e w1 ⟨rfl, hb1⟩
  obtain ⟨hc1, _⟩ := bcell hb1
  have hz1 := hb1.size
  simp only [World.size_alloc] at hz1 hb1
  have hz1a : w.heap.size < w1.heap.size := by omega
  go_wp2_with fail
  refine (anyPath_any _ _ hs.2).mono ?_
  rintro e w2 ⟨rfl, hb2⟩
  obtain ⟨hc2, _⟩ := bcell hb2
  have hz2 := hb2.size
  have hz2a : w.heap.size < w2.heap.size := by omega
  go_wp2_with fail
  refine (refPath_any _ _ hs.1).mono ?_
  rintro e w3 ⟨rfl, hb3⟩
  obtain ⟨hc3, _⟩ := bcell hb3
  have HB : Hid (Below w.heap.size w w3) := (box_kept hb1 hb2 hb3).2.2.2
  clear hb1 hb2 hb3 hz1 hz2
  go_wp2_with (go_at_call 108; refine (refWithin_any _ _ _ _).mono ?_; rintro e w' ⟨rfl, rfl⟩)
  all_goals
    go_ret
    refine ⟨ret_bool ?_, HB.out⟩
    clear hc1 hc2 hc3
    (try simp only [Lib.toList_data] at *)
    rw [Bool.eq_iff_iff]
    simp only [opFits, needOf, toB, fitsB, placeB_false, withinB, Bool.and_eq_true, Bool.or_eq_true, decide_eq_true_eq, beq_iff_eq, List.isEmpty_iff, if_true, Bool.false_eq_true, if_false, false_iff, true_iff] at *
    grind

set_option maxHeartbeats 2000000 in
set_option maxRecDepth 100000 in
theorem refIs_other (o : OpD) (w : World) (hs : o.small) (k1 : (o.kind == 1) = false) (k2 : (o.kind == 2) = false) (k3 : (o.kind == 3) = false) (k4 : (o.kind == 4) = false) (k5 : (o.kind == 5) = false) (k6 : (o.kind == 6) = false) (k7 : (o.kind == 7) = false) :
    Calls Tryz.prog 61 #[.agg #[.int .i64 o.kind, .string o.path, .string o.dest, .int .i64 o.id, .int .i64 o.size, .int .i64 o.mode]] w fun e w' => e = .returned (.bool (false)) ∧ Below w.heap.size w w' := by
  go_enter Tryz.func61, Tryz.ntmps61
  go_wp2_with fail
  refine (anyPath_any _ _ hs.1).mono ?_
  rintro e w1 ⟨rfl, hb1⟩
  obtain ⟨hc1, _⟩ := bcell hb1
  have hz1 := hb1.size
  simp only [World.size_alloc] at hz1 hb1
  have hz1a : w.heap.size < w1.heap.size := by omega
  go_wp2_with fail
  refine (anyPath_any _ _ hs.2).mono ?_
  rintro e w2 ⟨rfl, hb2⟩
  obtain ⟨hc2, _⟩ := bcell hb2
  have hz2 := hb2.size
  have hz2a : w.heap.size < w2.heap.size := by omega
  go_wp2_with fail
  refine (refPath_any _ _ hs.1).mono ?_
  rintro e w3 ⟨rfl, hb3⟩
  obtain ⟨hc3, _⟩ := bcell hb3
  have HB : Hid (Below w.heap.size w w3) := (box_kept hb1 hb2 hb3).2.2.2
  clear hb1 hb2 hb3 hz1 hz2
  go_wp2_with (go_at_call 108; refine (refWithin_any _ _ _ _).mono ?_; rintro e w' ⟨rfl, rfl⟩)
  all_goals
    go_ret
    exact ⟨rfl, HB.out⟩

theorem refIs_any (o : OpD) (w : World) (hs : o.small) :
    Calls Tryz.prog 61 #[.agg #[.int .i64 o.kind, .string o.path, .string o.dest, .int .i64 o.id, .int .i64 o.size, .int .i64 o.mode]] w fun e w' => e = .returned (.bool (okOp o)) ∧ Below w.heap.size w w' := by
  by_cases hk : 1 ≤ o.kind ∧ o.kind ≤ 7
  · have e1 : withinB o.kind 1 7 = true := by simp [withinB]; omega
    rw [okOp, e1, Bool.true_and]
    rcases (by omega : o.kind = 1 ∨ o.kind = 2 ∨ o.kind = 3 ∨ o.kind = 4 ∨ o.kind = 5 ∨ o.kind = 6 ∨ o.kind = 7) with h | h | h | h | h | h | h
    · rw [h]; exact refIs_1 o w hs
    · rw [h]; exact refIs_2 o w hs
    · rw [h]; exact refIs_3 o w hs
    · rw [h]; exact refIs_4 o w hs
    · rw [h]; exact refIs_5 o w hs
    · rw [h]; exact refIs_6 o w hs
    · rw [h]; exact refIs_7 o w hs
  · have e1 : withinB o.kind 1 7 = false := by
      cases h : withinB o.kind 1 7
      · rfl
      · exfalso; apply hk; simpa [withinB] using h
    rw [okOp, e1, Bool.false_and]
    exact refIs_other o w hs (by simp; omega) (by simp; omega) (by simp; omega) (by simp; omega) (by simp; omega) (by simp; omega) (by simp; omega)
end Go.Proofs.YtpjjagalekolaaaGreatDoor

/- The reference's look at a script: the first operation that is wrong. -/
namespace Go.Proofs.YtpjjagalekolaaaGreatDoor
open Go.RowKit
set_option linter.unusedVariables false

/-- Its number, or -1. -/
def wrN (x : Int × Bool) : Int := if x.2 then x.1 else -1

set_option maxHeartbeats 1000000 in
theorem wrong_any (b off cap : Nat) (l : List OpD) (w : World) (hl : l.length ≤ 2000000) (hs : ∀ o ∈ l, o.small) (hb : b < w.heap.size) (hc : OpsAt w b off l) :
    Calls Tryz.prog 38 #[.slice (some ⟨b, off, none⟩) l.length cap] w fun e w' => e = .returned (.int .i64 (wrN (fwrong l 0))) ∧ Below w.heap.size w w' := by
  go_enter Tryz.func38, Tryz.ntmps38
  go_wp2
  go_loopw [3] (fun i wr => ∃ k : Nat, k ≤ l.length ∧ i = .int .i64 k ∧ fwrong l 0 = fwrong (l.drop k) k ∧ Below w.heap.size w wr) (fun i _ => l.length - (intOf i).toNat)
  case atStart => exact ⟨0, Nat.zero_le _, rfl, rfl, Below.refl _ _⟩
  case round =>
    obtain ⟨k, hk, rfl, hd, hbw⟩ := hrel
    have HD : Hid (fwrong l 0 = fwrong (l.drop k) k) := hd
    clear hd
    have hbs := hbw.size
    by_cases hlt : k < l.length
    · have HSN : Hid (fwrong (l.drop k) k = if k = 400 ∨ okOp l[k] = false then ((k : Int), true) else fwrong (l.drop (k + 1)) (k + 1)) := fwrong_at l k hlt
      have hcw := (hc.below hbw hb) k hlt
      have hsm := hs _ (List.getElem_mem hlt)
      generalize l[k] = o at *
      have c0 := hcw 0 _ rfl
      have c1 := hcw 1 _ rfl
      have c2 := hcw 2 _ rfl
      have c3 := hcw 3 _ rfl
      have c4 := hcw 4 _ rfl
      have c5 := hcw 5 _ rfl
      simp only [Nat.add_zero] at c0
      clear hcw
      by_cases hn : okOp o = true
      · by_cases h4 : ((k : Int) == 400) = true
        · have H4 : Hid (k = 400) := by show k = 400; simp at h4; omega
          go_wp2_with (go_at_call 61; refine (refIs_any _ _ hsm).mono ?_; rintro e w1 ⟨rfl, hb1⟩)
          go_ret
          refine ⟨?_, hbw.trans (hb1.mono hbs)⟩
          rw [HD.out, HSN.out, if_pos (.inl H4.out)]; rfl
        · simp only [Bool.not_eq_true] at h4
          have hk5 : Hid (¬ k = 400) := by show ¬ k = 400; intro h; subst h; simp at h4
          go_wp2_with (go_at_call 61; refine (refIs_any _ _ hsm).mono ?_; rintro e w1 ⟨rfl, hb1⟩)
          exact ⟨⟨k + 1, by omega, by go_num, by rw [HD.out, HSN.out, if_neg (by simp [hk5.out, hn])], hbw.trans (hb1.mono hbs)⟩, by simp [intOf]; omega⟩
      · simp only [Bool.not_eq_true] at hn
        go_wp2_with (go_at_call 61; refine (refIs_any _ _ hsm).mono ?_; rintro e w1 ⟨rfl, hb1⟩)
        go_ret
        refine ⟨?_, hbw.trans (hb1.mono hbs)⟩
        rw [HD.out, HSN.out, if_pos (.inr hn)]; rfl
    · go_wp2
      go_ret
      refine ⟨?_, hbw⟩
      have h := HD.out
      rw [List.drop_of_length_le (by omega), fwrong] at h
      rw [h]; rfl

set_option maxHeartbeats 1000000 in
theorem wrong_nil (w : World) :
    Calls Tryz.prog 38 #[.slice none 0 0] w fun e w' => e = .returned (.int .i64 (-1)) ∧ w' = w := by
  go_enter Tryz.func38, Tryz.ntmps38
  go_wp2
  refine wp_loop_rounds 1 ?_
  rw [rounds_succ]
  go_wp2
  go_ret
  exact ⟨rfl, rfl⟩
end Go.Proofs.YtpjjagalekolaaaGreatDoor

