/- The reference's line of one operation. -/
import Derived.Test.YtjaepomjdknieaaDoorS3
import Derived.Test.YtjaepomjdknieaaDoorM0
import Derived.Deep.QuietTactic
import Derived.BigQuiet
import Derived.Deep.RegionHeld
namespace Go.Proofs.YtjaepomjdknieaaDoor
open Go.RowKit
set_option linter.unusedVariables false
set_option linter.unusedSimpArgs false

def lineBody (o : OpD) (K : Nat) : List UInt8 := (needOf K).word.data.toList ++ ltail8 o (needOf K)

theorem Gd.drewN {w : World} (h : Gd w) (n : Nat) : Gd (w.drewN n) := ⟨h.big, h.len, h.need, h.tab⟩
theorem box_after {w w1 : World} {o1 o2 : Obj} {n : Nat} (hb : Below (((w.alloc o1).alloc o2).drewN n).heap.size (((w.alloc o1).alloc o2).drewN n) w1) :
    (∀ j, w1.cell? ⟨w.heap.size, j, none⟩ = (w.alloc o1).cell? ⟨w.heap.size, j, none⟩) ∧ Below w.heap.size w w1 ∧ w.heap.size < w1.heap.size := by
  have hb' : Below ((w.alloc o1).alloc o2).heap.size ((w.alloc o1).alloc o2) w1 := (Below.trans (b := ((w.alloc o1).alloc o2).drewN n) ⟨rfl, rfl, rfl, Nat.le_refl _, fun _ _ => rfl⟩ hb)
  have hz := hb'.size
  simp only [World.size_alloc] at hz hb'
  refine ⟨fun j => ?_, ?_, by omega⟩
  · rw [hb'.cell (p := ⟨w.heap.size, j, none⟩) (by show w.heap.size < w.heap.size + 1 + 1; omega)]
    exact World.cell?_alloc_past _ _ _ (by simp)
  · exact (((Below.refl _ _).alloc (Nat.le_refl _) _).alloc (by simp) _).trans (hb'.mono (by omega))

theorem ret_line {a : ByteArray} {l : List UInt8} (h : a.data.toList = l) : Ending.returned (.string a) = .returned (.string ⟨l.toArray⟩) := by
  have : a = ⟨l.toArray⟩ := by rw [← h]
  rw [this]

set_option maxHeartbeats 2000000 in
set_option maxRecDepth 100000 in
theorem line_1 (o : OpD) (hf : o.fit) (w : World) (hg : Gd w) :
    Calls Tryd.prog 42 #[.agg #[.int .i64 1, .string o.path, .string o.dest, .int .i64 o.id, .int .i64 o.size, .int .i64 o.mode]] w fun e w' => e = .returned (.string ⟨(lineBody o 1).toArray⟩) ∧ Below w.heap.size w w' := by
  obtain ⟨p1, p2, p3, p4, p5, p6, p7, p8⟩ := hf
  have i1 := Lib.itoa_length_le o.id (by omega) (by omega)
  have i2 := Lib.itoa_length_le o.size (by omega) (by omega)
  have i3 := Lib.itoa_length_le o.mode (by omega) (by omega)
  have HG : Hid (Gd w) := hg
  clear hg
  go_enter Tryd.func42, Tryd.ntmps42
  go_wp2
  go_quiet (fail)
  go_wp2_with (go_at_call 69; refine (itoa_any _ _ (((HG.out.alloc _).alloc _).drewN _) p7 p8).mono ?_; rintro e w1 ⟨rfl, hb1⟩; obtain ⟨hx, hbw, hzw⟩ := box_after hb1; clear hb1)
  go_ret
  exact ⟨ret_line (by simp [lineBody, ltail8, lp8, ln8, needOf]), hbw⟩
set_option maxHeartbeats 2000000 in
set_option maxRecDepth 100000 in
theorem line_2 (o : OpD) (hf : o.fit) (w : World) (hg : Gd w) :
    Calls Tryd.prog 42 #[.agg #[.int .i64 2, .string o.path, .string o.dest, .int .i64 o.id, .int .i64 o.size, .int .i64 o.mode]] w fun e w' => e = .returned (.string ⟨(lineBody o 2).toArray⟩) ∧ Below w.heap.size w w' := by
  obtain ⟨p1, p2, p3, p4, p5, p6, p7, p8⟩ := hf
  have i1 := Lib.itoa_length_le o.id (by omega) (by omega)
  have i2 := Lib.itoa_length_le o.size (by omega) (by omega)
  have i3 := Lib.itoa_length_le o.mode (by omega) (by omega)
  have HG : Hid (Gd w) := hg
  clear hg
  go_enter Tryd.func42, Tryd.ntmps42
  go_wp2
  go_quiet (fail)
  go_wp2_with (go_at_call 69; refine (itoa_any _ _ (((HG.out.alloc _).alloc _).drewN _) p7 p8).mono ?_; rintro e w1 ⟨rfl, hb1⟩; obtain ⟨hx, hbw, hzw⟩ := box_after hb1; clear hb1)
  go_ret
  exact ⟨ret_line (by simp [lineBody, ltail8, lp8, ln8, needOf]), hbw⟩
set_option maxHeartbeats 2000000 in
set_option maxRecDepth 100000 in
theorem line_3 (o : OpD) (hf : o.fit) (w : World) (hg : Gd w) :
    Calls Tryd.prog 42 #[.agg #[.int .i64 3, .string o.path, .string o.dest, .int .i64 o.id, .int .i64 o.size, .int .i64 o.mode]] w fun e w' => e = .returned (.string ⟨(lineBody o 3).toArray⟩) ∧ Below w.heap.size w w' := by
  obtain ⟨p1, p2, p3, p4, p5, p6, p7, p8⟩ := hf
  have i1 := Lib.itoa_length_le o.id (by omega) (by omega)
  have i2 := Lib.itoa_length_le o.size (by omega) (by omega)
  have i3 := Lib.itoa_length_le o.mode (by omega) (by omega)
  have HG : Hid (Gd w) := hg
  clear hg
  go_enter Tryd.func42, Tryd.ntmps42
  go_wp2
  go_quiet (fail)
  go_wp2_with (go_at_call 69; refine (itoa_any _ _ (((HG.out.alloc _).alloc _).drewN _) p7 p8).mono ?_; rintro e w1 ⟨rfl, hb1⟩; obtain ⟨hx, hbw, hzw⟩ := box_after hb1; clear hb1)
  go_ret
  exact ⟨ret_line (by simp [lineBody, ltail8, lp8, ln8, needOf]), hbw⟩
set_option maxHeartbeats 2000000 in
set_option maxRecDepth 100000 in
theorem line_5 (o : OpD) (hf : o.fit) (w : World) (hg : Gd w) :
    Calls Tryd.prog 42 #[.agg #[.int .i64 5, .string o.path, .string o.dest, .int .i64 o.id, .int .i64 o.size, .int .i64 o.mode]] w fun e w' => e = .returned (.string ⟨(lineBody o 5).toArray⟩) ∧ Below w.heap.size w w' := by
  obtain ⟨p1, p2, p3, p4, p5, p6, p7, p8⟩ := hf
  have i1 := Lib.itoa_length_le o.id (by omega) (by omega)
  have i2 := Lib.itoa_length_le o.size (by omega) (by omega)
  have i3 := Lib.itoa_length_le o.mode (by omega) (by omega)
  have HG : Hid (Gd w) := hg
  clear hg
  go_enter Tryd.func42, Tryd.ntmps42
  go_wp2
  go_quiet (fail)
  go_wp2_with (go_at_call 69; refine (itoa_any _ _ (((HG.out.alloc _).alloc _).drewN _) p7 p8).mono ?_; rintro e w1 ⟨rfl, hb1⟩; obtain ⟨hx, hbw, hzw⟩ := box_after hb1; clear hb1)
  go_ret
  exact ⟨ret_line (by simp [lineBody, ltail8, lp8, ln8, needOf]), hbw⟩
set_option maxHeartbeats 2000000 in
set_option maxRecDepth 100000 in
theorem line_6 (o : OpD) (hf : o.fit) (w : World) (hg : Gd w) :
    Calls Tryd.prog 42 #[.agg #[.int .i64 6, .string o.path, .string o.dest, .int .i64 o.id, .int .i64 o.size, .int .i64 o.mode]] w fun e w' => e = .returned (.string ⟨(lineBody o 6).toArray⟩) ∧ Below w.heap.size w w' := by
  obtain ⟨p1, p2, p3, p4, p5, p6, p7, p8⟩ := hf
  have i1 := Lib.itoa_length_le o.id (by omega) (by omega)
  have i2 := Lib.itoa_length_le o.size (by omega) (by omega)
  have i3 := Lib.itoa_length_le o.mode (by omega) (by omega)
  have HG : Hid (Gd w) := hg
  clear hg
  go_enter Tryd.func42, Tryd.ntmps42
  go_wp2
  go_quiet (fail)
  go_wp2_with (go_at_call 69; refine (itoa_any _ _ (((HG.out.alloc _).alloc _).drewN _) p7 p8).mono ?_; rintro e w1 ⟨rfl, hb1⟩; obtain ⟨hx, hbw, hzw⟩ := box_after hb1; clear hb1)
  go_ret
  exact ⟨ret_line (by simp [lineBody, ltail8, lp8, ln8, needOf]), hbw⟩
set_option maxHeartbeats 2000000 in
set_option maxRecDepth 100000 in
theorem line_7 (o : OpD) (hf : o.fit) (w : World) (hg : Gd w) :
    Calls Tryd.prog 42 #[.agg #[.int .i64 7, .string o.path, .string o.dest, .int .i64 o.id, .int .i64 o.size, .int .i64 o.mode]] w fun e w' => e = .returned (.string ⟨(lineBody o 7).toArray⟩) ∧ Below w.heap.size w w' := by
  obtain ⟨p1, p2, p3, p4, p5, p6, p7, p8⟩ := hf
  have i1 := Lib.itoa_length_le o.id (by omega) (by omega)
  have i2 := Lib.itoa_length_le o.size (by omega) (by omega)
  have i3 := Lib.itoa_length_le o.mode (by omega) (by omega)
  have HG : Hid (Gd w) := hg
  clear hg
  go_enter Tryd.func42, Tryd.ntmps42
  go_wp2
  go_quiet (fail)
  go_wp2_with (go_at_call 69; refine (itoa_any _ _ (((HG.out.alloc _).alloc _).drewN _) p7 p8).mono ?_; rintro e w1 ⟨rfl, hb1⟩; obtain ⟨hx, hbw, hzw⟩ := box_after hb1; clear hb1)
  go_ret
  exact ⟨ret_line (by simp [lineBody, ltail8, lp8, ln8, needOf]), hbw⟩
end Go.Proofs.YtjaepomjdknieaaDoor
