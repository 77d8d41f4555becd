/- The reference's change of one path: made0. -/
import Derived.Test.YtjaepomjdknieaaDoorDJ
namespace Go.Proofs.YtjaepomjdknieaaDoor
open Go.RowKit
set_option linter.unusedVariables false
set_option linter.unusedSimpArgs false

set_option maxRecDepth 4000 in
set_option maxHeartbeats 4000000 in
theorem rchange_made0 (a1 : Option Addr) (m1 : Nat) (b2 o2 m2 k : Nat) (T : List EntD) (p : ByteArray) (w : World) (hl2 : T.length ≤ 2000000) (hb2 : b2 < w.heap.size) (h2 : EntsAt w b2 o2 T) (hk : k < T.length) (hd : T[k].dir = false)
    (HF1 : Hid (∀ u : World, Below w.heap.size w u → Calls Tryd.prog 60 #[.slice a1 0 m1, .string p] u fun e w' => e = .returned (.int .i64 (-1)) ∧ w' = u))
    (HF2 : Hid (∀ u : World, Below w.heap.size w u → Calls Tryd.prog 60 #[.slice (some ⟨b2, o2, none⟩) T.length m2, .string p] u fun e w' => e = .returned (.int .i64 k) ∧ w' = u)) :
    Calls Tryd.prog 35 #[.slice a1 0 m1, .slice (some ⟨b2, o2, none⟩) T.length m2, .string p] w fun r w' => r = .returned (.agg #[.string p, .int .i64 1, .string (fromL T[k].id [])]) ∧ Below w.heap.size w w' := by
  have hba : ∀ ob, Below w.heap.size w (w.alloc ob) := fun ob => (Below.refl _ _).alloc (Nat.le_refl _) ob
  go_enter Tryd.func35, Tryd.ntmps35
  go_wp2_with fail
  refine (HF1.out _ (hba _)).mono ?_
  rintro e w1 ⟨rfl, rfl⟩
  go_wp2_with fail
  refine (HF2.out _ (hba _)).mono ?_
  rintro e w1 ⟨rfl, rfl⟩
  go_wp2
  refine wp_loop_rounds 1 ?_
  rw [rounds_succ]
  go_wp2
  refine bodyPost_ret (v := .agg #[.string p, .int .i64 1, .string ⟨#[]⟩]) (by simp [results, Tryd.results35, go_sem]) rfl ⟨rfl, ?_⟩
  exact ((hba _).alloc (by simp) _)

end Go.Proofs.YtjaepomjdknieaaDoor
