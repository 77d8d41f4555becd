/- The book's look, empty or not. -/
import Derived.Test.YtehkdjdflgknnaaGreatDoorZMB
namespace Go.Proofs.YtehkdjdflgknnaaGreatDoor
open Go.RowKit
set_option linter.unusedVariables false
set_option linter.unusedSimpArgs false

set_option maxHeartbeats 2000000 in
set_option maxRecDepth 100000 in
theorem looks_nil (bk : Nat) (w : World) (hbk : w.heap[bk]? = some (.cells #[.slice none 0 0, .slice none 0 0, .slice none 0 0] 30 (0, 0))) :
    Calls Tryz.prog 16 #[.pointer (some ⟨bk, 0, none⟩)] w fun e w' => e = .returned (.bool true) ∧ ∃ n, w' = w.drewN n := by
  have HK : Hid (∀ j m, (w.drewN m).cell? ⟨bk, j, none⟩ = #[Value.slice none 0 0, .slice none 0 0, .slice none 0 0][j]?) := fun j m => cell_of_row w bk j _ _ _ hbk
  clear hbk
  go_enter Tryz.func16, Tryz.ntmps16
  go_wp2
  go_loopw [3, 4, 5, 6, 8] (fun k a b c d wr => ∃ (t m : Nat), t ≤ 4 ∧ k = .int .i64 t ∧ wr = w.drewN m) (fun k _ _ _ _ _ => 4 - (intOf k).toNat)
  case atStart => exact ⟨0, 0, by omega, rfl, rfl⟩
  case round =>
    obtain ⟨t, m, ht, rfl, rfl⟩ := hrel
    have b0 := HK.out 0 m
    have b1 := HK.out 1 m
    have b2 := HK.out 2 m
    simp at b0 b1 b2
    by_cases hlt : t < 4
    · go_wp2
      refine wp_loop_rounds 1 ?_
      rw [rounds_succ]
      go_wp2
      refine wp_loop_rounds 1 ?_
      rw [rounds_succ]
      go_wp2
      refine wp_loop_rounds 1 ?_
      rw [rounds_succ]
      go_wp2
      exact ⟨⟨t + 1, m, by omega, by go_num, rfl⟩, by simp [intOf]; omega⟩
    · go_wp2
      go_ret
      exact ⟨rfl, m, rfl⟩
theorem looks_u {w0 w : World} {bk kk : Nat} (h : LawInv w0 bk kk w) (hk : kk ≤ 1000000) :
    Calls Tryz.prog 16 #[.pointer (some ⟨bk, 0, none⟩)] w fun e w' => e = .returned (.bool true) ∧ ∃ n, w' = w.drewN n := by
  obtain ⟨hbel, hlt2, cv, cs, i1, i2, i3, i4⟩ := h
  rcases i2.2 with ⟨rfl, _⟩ | ⟨g, cap, cur, hcv, _⟩
  · exact looks_nil bk w i1
  · rw [hcv, ← i3] at i1 i2
    exact looks_en bk w0.heap.size g cap cs w (by omega) i1 i2 i4.book

theorem does_ok {fold : Bool} {space : Int} {L M : List EntD} {o : OpD} (K : VolOk fold L) (h : doesL fold space L o = .ok M) : VolOk fold M := by
  unfold doesL at h
  split at h
  · next hok => exact do_ok K (okOp_good hok) h
  · cases h
theorem Below.drewn {B : Nat} {w w' : World} (h : Below B w w') (n : Nat) : Below B w (w'.drewN n) := ⟨h.os, h.tape, h.output, h.size, h.block⟩
theorem own_ptr {w : World} {base e : Nat} {a : Option Addr} {c n : Nat} {xs : List Value} (h : w.ownsRow base e 1 (.slice a n c) n xs) {k : Nat} (hk : k < n) : ∃ g, a = some ⟨g, 0, none⟩ ∧ w.cell? ⟨g, k, none⟩ = xs[k]? := by
  obtain ⟨g, c', hv⟩ := row_some h (by omega)
  cases hv.1
  exact ⟨g, rfl, h.cellAt k (by omega)⟩
end Go.Proofs.YtehkdjdflgknnaaGreatDoor
