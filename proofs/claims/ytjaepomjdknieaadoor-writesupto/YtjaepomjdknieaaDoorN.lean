/- The reference's look at a script. -/
import Derived.Test.YtjaepomjdknieaaDoorH
import Derived.Test.YtjaepomjdknieaaDoorS2
namespace Go.Proofs.YtjaepomjdknieaaDoor
open Go.RowKit
set_option linter.unusedVariables false

set_option maxHeartbeats 1000000 in
theorem wrong_any (b off cap : Nat) (l : List OpD) (w : World) (hl : l.length ≤ 2000000) (hs : ∀ o ∈ l, o.small) (hb : b < w.heap.size) (hc : OpsAt w b off l) :
    Calls Tryd.prog 38 #[.slice (some ⟨b, off, none⟩) l.length cap] w fun e w' => ∃ n : Int, e = .returned (.int .i64 n) ∧ (scriptB l = true → n = -1) ∧ (scriptB l = false → 0 ≤ n) ∧ Below w.heap.size w w' := by
  go_enter Tryd.func38, Tryd.ntmps38
  go_wp2
  go_loopw [3] (fun i wr => ∃ k : Nat, k ≤ l.length ∧ k ≤ 400 ∧ i = .int .i64 k ∧ (l.take k).all okOp = true ∧ Below w.heap.size w wr) (fun i _ => l.length - (intOf i).toNat)
  case atStart => exact ⟨0, Nat.zero_le _, by omega, rfl, rfl, Below.refl _ _⟩
  case round =>
    obtain ⟨k, hk, hk4, rfl, hd, hbw⟩ := hrel
    have HD : Hid ((l.take k).all okOp = true) := hd
    clear hd
    have hbs := hbw.size
    by_cases hlt : k < l.length
    · have HSN : Hid ((l.take (k + 1)).all okOp = ((l.take k).all okOp && okOp l[k])) := all_snoc l k hlt
      have HBD : Hid (okOp l[k] = false → l.all okOp = false) := fun h => all_badOp l k hlt h
      have hcw := (hc.below hbw hb) k hlt
      have hsm := hs _ (List.getElem_mem hlt)
      generalize l[k] = o at *
      have c0 := hcw 0 _ rfl
      have c1 := hcw 1 _ rfl
      have c2 := hcw 2 _ rfl
      have c3 := hcw 3 _ rfl
      have c4 := hcw 4 _ rfl
      have c5 := hcw 5 _ rfl
      simp only [Nat.add_zero] at c0
      clear hcw
      by_cases hn : okOp o = true
      · by_cases h4 : ((k : Int) == 400) = true
        · have HL : Hid (scriptB l = false) := by
            show scriptB l = false
            have : k = 400 := by simp at h4; omega
            simp [scriptB]; omega
          go_wp2_with (go_at_call 64; refine (refIs_any _ _ hsm).mono ?_; rintro e w1 ⟨rfl, hb1⟩)
          go_ret
          exact ⟨k, rfl, fun h => absurd h (by rw [HL.out]; decide), fun _ => by omega, hbw.trans (hb1.mono hbs)⟩
        · simp only [Bool.not_eq_true] at h4
          have hk5 : Hid (¬ k = 400) := by show ¬ k = 400; intro h; subst h; simp at h4
          go_wp2_with (go_at_call 64; refine (refIs_any _ _ hsm).mono ?_; rintro e w1 ⟨rfl, hb1⟩)
          exact ⟨⟨k + 1, by omega, by have := hk5.out; omega, by go_num, by rw [HSN.out, HD.out, hn]; rfl, hbw.trans (hb1.mono hbs)⟩, by simp [intOf]; omega⟩
      · simp only [Bool.not_eq_true] at hn
        go_wp2_with (go_at_call 64; refine (refIs_any _ _ hsm).mono ?_; rintro e w1 ⟨rfl, hb1⟩)
        go_ret
        exact ⟨k, rfl, fun h => absurd h (by rw [scriptB, HBD.out hn]; simp), fun _ => by omega, hbw.trans (hb1.mono hbs)⟩
    · go_wp2
      go_ret
      refine ⟨-1, rfl, fun _ => rfl, fun h => ?_, hbw⟩
      exfalso
      have h2 := HD.out
      rw [List.take_of_length_le (by omega)] at h2
      rw [scriptB, h2] at h
      simp at h; omega

set_option maxHeartbeats 1000000 in
theorem wrong_nil (w : World) :
    Calls Tryd.prog 38 #[.slice none 0 0] w fun e w' => e = .returned (.int .i64 (-1)) ∧ w' = w := by
  go_enter Tryd.func38, Tryd.ntmps38
  go_wp2
  refine wp_loop_rounds 1 ?_
  rw [rounds_succ]
  go_wp2
  go_ret
  exact ⟨rfl, rfl⟩
end Go.Proofs.YtjaepomjdknieaaDoor
