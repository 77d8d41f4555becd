/- The law itself: the call of Writes answers true. -/
import Derived.Test.YtjaepomjdknieaaDoorW
import Derived.Test.YtjaepomjdknieaaDoorR
import Derived.Test.YtjaepomjdknieaaDoorT
namespace Go.Proofs.YtjaepomjdknieaaDoor
open Go.RowKit
set_option linter.unusedVariables false

theorem OpsAt.left {w : World} {b off : Nat} {l : List OpD} {o : OpD} (h : OpsAt w b off (l ++ [o])) : OpsAt w b off l :=
  fun k hk j v hv => h k (by simp; omega) j v (by rw [List.getElem_append_left hk]; exact hv)
theorem Roomy.below {w w' : World} {B g cap : Nat} {l : List OpD} (h : Roomy w B g cap l) (hb : Below w.heap.size w w') : Roomy w' B g cap l :=
  ⟨h.1, by have := hb.size; have := h.2.1; omega, h.2.2.1, h.2.2.2.1, h.2.2.2.2.below hb h.2.1⟩

set_option maxHeartbeats 2000000 in
set_option maxRecDepth 100000 in
theorem writes_some (b off cap : Nat) (l : List OpD) (w : World) (hg : Gd w) (hl : l.length ≤ 2000000) (hs : ∀ o ∈ l, o.small) (hb : b < w.heap.size) (hc : OpsAt w b off l) :
    Calls Tryd.prog 5 #[.slice (some ⟨b, off, none⟩) l.length cap] w fun e w' => e = .returned (.bool true) ∧ Below w.heap.size w w' := by
  have HG : Hid (Gd w) := hg
  clear hg
  go_enter Tryd.func5, Tryd.ntmps5
  go_wp2_with fail
  refine (roomyOps_any b off cap l w hl hb hc).mono ?_
  rintro e w1 ⟨g, cg, rfl, hr1, hb1⟩
  have hz1 := hb1.size
  go_wp2_with fail
  refine (faceEncode_any _ _ _ w1 (encode_any g 0 cg l w1 (HG.out.below hb1) hl hs hr1.2.1 hr1.2.2.2.2.left)).mono ?_
  rintro e w2 ⟨rfl, hb2⟩
  have hz2 := hb2.size
  have B2 : Hid (Below w.heap.size w w2) := hb1.trans (hb2.mono hz1)
  have R2 : Hid (Roomy w2 w.heap.size g cg l) := hr1.below hb2
  clear hr1 hb2 hb1
  go_wp2_with fail
  refine (refEncode_any b off cap l w2 hl hs (by omega) (hc.below B2.out hb)).mono ?_
  rintro e w3 ⟨rfl, hb3⟩
  have hz3 := hb3.size
  have B3 : Hid (Below w.heap.size w w3) := B2.out.trans (hb3.mono (by omega))
  have R3 : Hid (Roomy w3 w.heap.size g cg l) := R2.out.below hb3
  clear hb3 R2 B2
  go_wp2_with fail
  refine (facePrint_any _ _ _ w3 (print_any g 0 cg l w3 (HG.out.below B3.out) hl hs R3.out.2.1 R3.out.2.2.2.2.left)).mono ?_
  rintro e w4 ⟨rfl, hb4⟩
  have hz4 := hb4.size
  have B4 : Hid (Below w.heap.size w w4) := B3.out.trans (hb4.mono (by omega))
  have R4 : Hid (Roomy w4 w.heap.size g cg l) := R3.out.below hb4
  clear hb4 R3 B3
  go_wp2_with fail
  refine (refPrint_any b off cap l w4 (HG.out.below B4.out) hl hs (by omega) (hc.below B4.out hb)).mono ?_
  rintro e w5 ⟨rfl, hb5⟩
  have hz5 := hb5.size
  have B5 : Hid (Below w.heap.size w w5) := B4.out.trans (hb5.mono (by omega))
  have R5 : Hid (Roomy w5 w.heap.size g cg l) := R4.out.below hb5
  clear hb5 R4 B4
  go_wp2_with fail
  refine (keptOps_any g cg b off cap l w5 w.heap.size hl R5.out (hc.below B5.out hb)).mono ?_
  rintro e w6 ⟨rfl, hb6⟩
  have B6 : Hid (Below w.heap.size w w6) := B5.out.trans (hb6.mono (by omega))
  clear hb6 R5 B5
  go_wp2_with (go_at_call 12; refine (num_any _ _).mono ?_; rintro e w' ⟨rfl, rfl⟩)
  go_ret
  exact ⟨rfl, B6.out⟩

set_option maxHeartbeats 2000000 in
set_option maxRecDepth 100000 in
theorem writes_nil (w : World) :
    Calls Tryd.prog 5 #[.slice none 0 0] w fun e w' => e = .returned (.bool true) ∧ Below w.heap.size w w' := by
  go_enter Tryd.func5, Tryd.ntmps5
  go_wp2_with fail
  refine (roomyOps_nil w).mono ?_
  rintro e w ⟨rfl, rfl⟩
  go_wp2_with fail
  refine (faceEncode_any _ _ _ w (encode_nil w)).mono ?_
  rintro e w2 ⟨rfl, hb2⟩
  have hz2 := hb2.size
  have B2 := Hid.mk' hb2
  clear hb2
  go_wp2_with fail
  refine (refEncode_nil w2).mono ?_
  rintro e w3 ⟨rfl, hb3⟩
  have hz3 := hb3.size
  have B3 := Hid.mk' (B2.out.trans (hb3.mono hz2))
  clear hb3 B2
  go_wp2_with fail
  refine (facePrint_any _ _ _ w3 (print_nil w3)).mono ?_
  rintro e w4 ⟨rfl, hb4⟩
  have hz4 := hb4.size
  have B4 := Hid.mk' (B3.out.trans (hb4.mono (by omega)))
  clear hb4 B3
  go_wp2_with fail
  refine (refPrint_nil w4).mono ?_
  rintro e w4 ⟨rfl, rfl⟩
  go_wp2_with fail
  refine (keptOps_nil w4).mono ?_
  rintro e w4 ⟨rfl, rfl⟩
  go_wp2_with (go_at_call 12; refine (num_any _ _).mono ?_; rintro e w' ⟨rfl, rfl⟩)
  go_ret
  exact ⟨rfl, B4.out⟩
end Go.Proofs.YtjaepomjdknieaaDoor
