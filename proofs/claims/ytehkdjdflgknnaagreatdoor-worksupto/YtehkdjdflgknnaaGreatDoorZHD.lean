/- The document's Mount and Does; the smallest Mount alive. -/
import Derived.Test.YtehkdjdflgknnaaGreatDoorZHC
import Derived.Test.YtehkdjdflgknnaaGreatDoorZHI
import Derived.Test.YtehkdjdflgknnaaGreatDoorY20XH
namespace Go.Proofs.YtehkdjdflgknnaaGreatDoor
open Go.RowKit
set_option linter.unusedVariables false
set_option linter.unusedSimpArgs false

section
variable {w : World} {v : Value} {L : List EntD}

set_option maxHeartbeats 4000000 in
set_option maxRecDepth 100000 in
theorem refMount (fold : Bool) (hr : RowAt w v L) (hs : SmallL L) (space : Int) :
    Calls Tryz.prog 19 #[v, .bool fold, .int .i64 space] w fun r w' => CMnt 65 w fold space [] (mountN fold space L) (fun v' w' => v' = v) r w' := by
  have HH := hidD (refHeldF fold hr hs)
  have HR := hidD hr
  obtain ⟨a, c, rfl⟩ := hr.val
  clear hr hs
  unfold CMnt mountN
  cases hh : heldF fold L
  · rw [hh] at HH
    simp only [↓reduceIte, show ¬ ((4 : Int) = 0) by decide]
    go_enter Tryz.func19, Tryz.ntmps19
    go_wp2_with (go_at_call 38; refine HH.out.mono ?_; rintro r w1 ⟨c1, k1, rfl, hck, hb1⟩; have hcn : (c1 != 0) = true := (by simp only [bne, hck]; rfl))
    go_ret2
    exact ⟨rfl, hb1⟩
  · rw [hh] at HH
    have K := held_vol hh
    have hu := used_le K
    obtain ⟨hu0, hu1⟩ := hu
    have HUS := hidD (fun (h0 : 0 ≤ space) (h1 : space ≤ 100000) (u2 : World) (hu : Below w.heap.size w u2) => refUsed (Vm.of K (Vk.vol (T := 65) (rest := []) (heap_alloc_new u2 (.cells #[.slice a L.length c, .bool fold, .int .i64 space] 65))) (HR.out.below (hu.alloc hu.size _) (Nat.le_refl _)) h0 (by omega)))
    clear K
    generalize usedL L = us at *
    by_cases h1 : space < us ∨ 100000 < space
    · simp only [if_pos h1, show ¬ ((11 : Int) = 0) by decide, ↓reduceIte, show ¬ (true = false) by decide]
      by_cases h2 : space < 0
      · go_enter Tryz.func19, Tryz.ntmps19
        go_wp2_with (go_at_call 38; refine HH.out.mono ?_; rintro r w1 ⟨c1, k1, rfl, hck, hb1⟩; have hcn : (c1 != 0) = false := (by simp only [bne, hck]; rfl))
        go_ret2
        exact ⟨rfl, hb1.alloc hb1.size _⟩
      · by_cases h3 : 100000 < space
        · go_enter Tryz.func19, Tryz.ntmps19
          go_wp2_with (go_at_call 38; refine HH.out.mono ?_; rintro r w1 ⟨c1, k1, rfl, hck, hb1⟩; have hcn : (c1 != 0) = false := (by simp only [bne, hck]; rfl))
          go_ret2
          exact ⟨rfl, hb1.alloc hb1.size _⟩
        · have h4 : space < us := by omega
          have h5 : 0 ≤ space := by omega
          have h6 : space ≤ 100000 := by omega
          go_enter Tryz.func19, Tryz.ntmps19
          go_wp2_with (first | (go_at_call 38; refine HH.out.mono ?_; rintro r w1 ⟨c1, k1, rfl, hck, hb1⟩; have hcn : (c1 != 0) = false := (by simp only [bne, hck]; rfl)) | (go_at_call 33; refine (HUS.out h5 h6 w1 hb1).mono ?_; rintro r w3 ⟨rfl, rfl⟩))
          go_ret2
          exact ⟨rfl, hb1.alloc hb1.size _⟩
    · simp only [if_neg h1, ↓reduceIte, show ¬ (true = false) by decide]
      have h2 : ¬ space < 0 := by omega
      have h3 : ¬ 100000 < space := fun h => h1 (.inr h)
      have h4 : ¬ space < us := fun h => h1 (.inl h)
      have h5 : 0 ≤ space := by omega
      have h6 : space ≤ 100000 := by omega
      go_enter Tryz.func19, Tryz.ntmps19
      go_wp2_with (first | (go_at_call 38; refine HH.out.mono ?_; rintro r w1 ⟨c1, k1, rfl, hck, hb1⟩; have hcn : (c1 != 0) = false := (by simp only [bne, hck]; rfl)) | (go_at_call 33; refine (HUS.out h5 h6 w1 hb1).mono ?_; rintro r w3 ⟨rfl, rfl⟩))
      go_ret2
      exact ⟨_, rfl, hb1.size, _, heap_alloc_new w1 _, rfl, hb1.alloc hb1.size _⟩
end
end Go.Proofs.YtehkdjdflgknnaaGreatDoor
