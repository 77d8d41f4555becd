/- The reference's line of one operation that writes. -/
import Derived.Test.YtjaepomjdknieaaDoorV
import Derived.Test.YtjaepomjdknieaaDoorU
namespace Go.Proofs.YtjaepomjdknieaaDoor
open Go.RowKit
set_option linter.unusedVariables false
set_option linter.unusedSimpArgs false

/-- The state of a call that has its operation in a box. -/
structure LineSt (w W u : World) : Prop where
  gd : Gd u
  bel : Below w.heap.size w u
  lt : w.heap.size < u.heap.size
  cells : ∀ j, u.cell? ⟨w.heap.size, j, none⟩ = W.cell? ⟨w.heap.size, j, none⟩
theorem LineSt.drew {w W u : World} (h : LineSt w W u) : LineSt w W u.drew := ⟨h.gd.drew, h.bel.drew, h.lt, h.cells⟩
theorem LineSt.itoa {w W u : World} (h : LineSt w W u) (n : Int) (h0 : 0 ≤ n) (h1 : n ≤ 65535) :
    Calls Tryd.prog 69 #[.int .i64 n] u fun e w' => e = .returned (.string ⟨(Lib.itoa n).toArray⟩) ∧ LineSt w W w' := by
  refine (itoa_any n u h.gd h0 h1).mono ?_
  rintro e w' ⟨rfl, hb⟩
  exact ⟨rfl, h.gd.below hb, h.bel.trans (hb.mono (Nat.le_of_lt h.lt)), Nat.lt_of_lt_of_le h.lt hb.size, fun j => (hb.cell (p := ⟨w.heap.size, j, none⟩) h.lt).trans (h.cells j)⟩

set_option maxHeartbeats 2000000 in
set_option maxRecDepth 100000 in
theorem line_4 (o : OpD) (hf : o.fit) (w : World) (hg : Gd w) :
    Calls Tryd.prog 42 #[.agg #[.int .i64 4, .string o.path, .string o.dest, .int .i64 o.id, .int .i64 o.size, .int .i64 o.mode]] w fun e w' => e = .returned (.string ⟨(lineBody o 4).toArray⟩) ∧ Below w.heap.size w w' := by
  obtain ⟨p1, p2, p3, p4, p5, p6, p7, p8⟩ := hf
  have i1 := Lib.itoa_length_le o.id (by omega) (by omega)
  have i2 := Lib.itoa_length_le o.size (by omega) (by omega)
  have i3 := Lib.itoa_length_le o.mode (by omega) (by omega)
  have HG : Hid (Gd w) := hg
  clear hg
  go_enter Tryd.func42, Tryd.ntmps42
  go_wp2
  go_quiet (fail)
  go_wp2_with (go_at_call 69; refine (itoa_any _ _ (((HG.out.alloc _).alloc _).drewN _) p7 p8).mono ?_; rintro e w1 ⟨rfl, hb1⟩; obtain ⟨hx, hbw, hzw⟩ := box_after hb1; clear hb1)
  have hG1 : Gd w1 := HG.out.below hbw
  have hst := LineSt.mk hG1 hbw hzw hx
  clear hG1 hbw hzw hx
  have hS : ∀ u, LineSt w (w.alloc (.cells #[.int .i64 4, .string o.path, .string o.dest, .int .i64 o.id, .int .i64 o.size, .int .i64 o.mode] 71)) u → u.cell? ⟨w.heap.size, 3, none⟩ = some (.int .i64 o.id) ∧ u.cell? ⟨w.heap.size, 4, none⟩ = some (.int .i64 o.size) := fun u hu => ⟨(hu.cells 3).trans (by simp), (hu.cells 4).trans (by simp)⟩
  have HS := Hid.mk' hS
  clear hS
  have x3 := (HS.out _ hst).1
  have x4 := (HS.out _ hst).2
  go_region_held (fun u => u.cell? ⟨w.heap.size, 3, none⟩ = some (.int .i64 o.id) ∧ u.cell? ⟨w.heap.size, 4, none⟩ = some (.int .i64 o.size)) (go_keep) (first | (go_at_call 69; refine (LineSt.itoa (by first | assumption | exact LineSt.drew (by assumption)) _ (by assumption) (by first | assumption | omega)).mono ?_; rintro e w2 ⟨rfl, hst2⟩; have y3 := (HS.out _ hst2).1; have y4 := (HS.out _ hst2).2))
  all_goals
    go_wp2
    go_ret
    exact ⟨ret_line (by simp [lineBody, ltail8, lp8, ln8, needOf]), hst2.bel⟩
end Go.Proofs.YtjaepomjdknieaaDoor
