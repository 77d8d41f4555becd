/- The book's look: all lists that came out read as their owner wrote them. -/
import Derived.Test.YtpjjagalekolaaaGreatDoorP45DF
import Derived.Deep.QuietTactic
import Derived.BigQuiet
namespace Go.Proofs.YtpjjagalekolaaaGreatDoor
open Go.RowKit
set_option linter.unusedVariables false
set_option linter.unusedSimpArgs false

/-- One list, as its owner wrote it. -/
def Markedob (w : World) (i : Nat) (v : Value) : Prop := ∃ p m c, v = .slice p m c ∧ m ≤ 4000000 ∧ ∀ j, j < m → ∃ g, p = some ⟨g, 0, none⟩ ∧ w.cell? ⟨g, j * 6, none⟩ = some (.int .i64 (-7000 - (i : Int)))
theorem marked_row {w : World} {base n i : Nat} {v : Value} (h : w.ownsRow base 59 6 v n (repC (obC i) n)) (hn : n ≤ 4000000) : Markedob w i v := by
  rcases h.2 with ⟨rfl, h0⟩ | ⟨g, cap, cur, rfl, _⟩
  · exact ⟨_, _, _, rfl, by omega, fun j hj => by omega⟩
  · refine ⟨_, _, _, rfl, hn, fun j hj => ⟨g, rfl, ?_⟩⟩
    rw [h.cellAt (j * 6) (by omega), repC_get (obC i) n _ (by show _ < n * 6; omega)]
    have : (j * 6) % (obC i).length = 0 := by
      rw [show (obC i).length = 6 from rfl]
      omega
    rw [this]; rfl
theorem quad_marked {w : World} {base k n q : Nat} {vl : Value} (h : Quadob base k n vl q w) (hn : n ≤ 3000000) : ∀ t, t < 4 → ∃ v, w.cell? ⟨q, t, none⟩ = some v ∧ Markedob w k v := by
  obtain ⟨u1, u2, u6, h0, h1, h2, h3, h4⟩ := h
  intro t ht
  rw [cell_of_row w q t _ _ _ h0]
  match t, ht with
  | 0, _ => exact ⟨vl, rfl, marked_row h1 (by omega)⟩
  | 1, _ => exact ⟨u1, rfl, marked_row h2 (by omega)⟩
  | 2, _ => exact ⟨u2, rfl, marked_row h3 (by omega)⟩
  | 3, _ => exact ⟨u6, rfl, marked_row h4 (by omega)⟩

/-- What the book holds. -/
def Bookob (w : World) (cs : List Value) : Prop := ∀ (i : Nat) (h : i < cs.length), ∃ q, cs[i] = .slice (some ⟨q, 0, none⟩) 4 4 ∧ ∀ t, t < 4 → ∃ v, w.cell? ⟨q, t, none⟩ = some v ∧ Markedob w i v

set_option maxHeartbeats 2000000 in
set_option maxRecDepth 100000 in
theorem looks_ob (bk base0 g cap : Nat) (cs : List Value) (w : World) (hk : cs.length ≤ 1000000)
    (hbk : w.heap[bk]? = some (.cells #[.slice none 0 0, .slice (some ⟨g, 0, none⟩) cs.length cap, .slice none 0 0] 30 (0, 0))) (hcv : w.ownsRow base0 78 1 (.slice (some ⟨g, 0, none⟩) cs.length cap) cs.length cs) (hB : Bookob w cs) :
    Calls Tryz.prog 18 #[.pointer (some ⟨bk, 0, none⟩)] w fun e w' => e = .returned (.bool true) ∧ ∃ n, w' = w.drewN n := by
  have HB : Hid (Bookob w cs) := hB
  have HC : Hid (∀ i, i < cs.length → w.cell? ⟨g, i, none⟩ = cs[i]?) := fun i hi => hcv.cellAt i (by omega)
  have HK : Hid (∀ j m, (w.drewN m).cell? ⟨bk, j, none⟩ = #[Value.slice none 0 0, .slice (some ⟨g, 0, none⟩) cs.length cap, .slice none 0 0][j]?) := fun j m => cell_of_row w bk j _ _ _ hbk
  clear hB hcv hbk
  go_enter Tryz.func18, Tryz.ntmps18
  go_wp2
  go_loopw [3, 4, 6, 7, 8] (fun k a b c d wr => ∃ (t m : Nat), t ≤ 4 ∧ k = .int .i64 t ∧ wr = w.drewN m) (fun k _ _ _ _ _ => 4 - (intOf k).toNat)
  case atStart => exact ⟨0, 0, by omega, rfl, rfl⟩
  case round =>
    obtain ⟨t, m, ht, rfl, rfl⟩ := hrel
    by_cases hlt : t < 4
    · have b0 := HK.out 0 m
      have b1 := HK.out 1 m
      have b2 := HK.out 2 m
      simp at b0 b1 b2
      go_wp2
      refine wp_loop_rounds 1 ?_
      rw [rounds_succ]
      go_wp2
      clear b0 b1 b2
      go_loopw [6, 7] (fun a b wr => ∃ (i m : Nat), i ≤ cs.length ∧ a = .int .i64 i ∧ wr = w.drewN m) (fun a _ _ => cs.length - (intOf a).toNat)
      case atStart => exact ⟨0, m, by omega, rfl, rfl⟩
      case round =>
        obtain ⟨i, m2, hi, rfl, rfl⟩ := hrel
        have b0 := HK.out 0 m2
        have b1 := HK.out 1 m2
        have b2 := HK.out 2 m2
        simp at b0 b1 b2
        by_cases hlt2 : i < cs.length
        · obtain ⟨q, hq, hqt⟩ := HB.out i hlt2
          obtain ⟨v, hv, p, ml, c, rfl, hml, hmk⟩ := hqt t hlt
          have HMK : Hid (∀ j, j < ml → ∃ g, p = some ⟨g, 0, none⟩ ∧ w.cell? ⟨g, j * 6, none⟩ = some (.int .i64 (-7000 - (i : Int)))) := hmk
          have HV : Hid (∀ m : Nat, (w.drewN m).cell? ⟨g, i, none⟩ = some (.slice (some ⟨q, 0, none⟩) 4 4) ∧ (w.drewN m).cell? ⟨q, t, none⟩ = some (.slice p ml c)) := fun m => ⟨by
            show w.cell? ⟨g, i, none⟩ = _
            rw [HC.out i hlt2, List.getElem?_eq_getElem hlt2, hq], hv⟩
          clear hqt hq hmk hv
          go_wp2
          go_loopw [7] (fun b wr => ∃ (j m : Nat), j ≤ ml ∧ b = .int .i64 j ∧ wr = w.drewN m) (fun b _ => ml - (intOf b).toNat)
          case atStart => exact ⟨0, m2, by omega, rfl, rfl⟩
          case round =>
            obtain ⟨j, m3, hj, rfl, rfl⟩ := hrel
            have b3 : (w.drewN m3).cell? ⟨bk, 1, none⟩ = some (.slice (some ⟨g, 0, none⟩) cs.length cap) := HK.out 1 m3
            obtain ⟨v1, v2⟩ := HV.out m3
            by_cases hlt3 : j < ml
            · obtain ⟨g2, rfl, hc2⟩ := HMK.out j hlt3
              have hc3 : (w.drewN m3).cell? ⟨g2, j * 6, none⟩ = some (.int .i64 (-7000 - (i : Int))) := hc2
              clear hc2
              generalize hW : w.drewN m3 = W at *
              go_wp2
              go_quiet (first | (go_at_call 41; exact Calls.quiet_of_same (mark_any _ _ (by omega) (by omega))))
              go_wp2
              exact ⟨⟨j + 1, m3 + nq, by omega, by go_num, by rw [← hW, World.drewN_drewN]⟩, by simp [intOf]; omega⟩
            · go_wp2
              exact ⟨⟨i + 1, m3, by omega, by go_num, rfl⟩, by simp [intOf]; omega⟩
        · go_wp2
          refine wp_loop_rounds 1 ?_
          rw [rounds_succ]
          go_wp2
          exact ⟨⟨t + 1, m2, by omega, by go_num, rfl⟩, by simp [intOf]; omega⟩
    · go_wp2
      go_ret
      exact ⟨rfl, m, rfl⟩

set_option maxHeartbeats 2000000 in
set_option maxRecDepth 100000 in
theorem looks_nil (bk : Nat) (w : World) (hbk : w.heap[bk]? = some (.cells #[.slice none 0 0, .slice none 0 0, .slice none 0 0] 30 (0, 0))) :
    Calls Tryz.prog 18 #[.pointer (some ⟨bk, 0, none⟩)] w fun e w' => e = .returned (.bool true) ∧ ∃ n, w' = w.drewN n := by
  have HK : Hid (∀ j m, (w.drewN m).cell? ⟨bk, j, none⟩ = #[Value.slice none 0 0, .slice none 0 0, .slice none 0 0][j]?) := fun j m => cell_of_row w bk j _ _ _ hbk
  clear hbk
  go_enter Tryz.func18, Tryz.ntmps18
  go_wp2
  go_loopw [3, 4, 5, 6, 8] (fun k a b c d wr => ∃ (t m : Nat), t ≤ 4 ∧ k = .int .i64 t ∧ wr = w.drewN m) (fun k _ _ _ _ _ => 4 - (intOf k).toNat)
  case atStart => exact ⟨0, 0, by omega, rfl, rfl⟩
  case round =>
    obtain ⟨t, m, ht, rfl, rfl⟩ := hrel
    have b0 := HK.out 0 m
    have b1 := HK.out 1 m
    have b2 := HK.out 2 m
    simp at b0 b1 b2
    by_cases hlt : t < 4
    · go_wp2
      refine wp_loop_rounds 1 ?_
      rw [rounds_succ]
      go_wp2
      refine wp_loop_rounds 1 ?_
      rw [rounds_succ]
      go_wp2
      refine wp_loop_rounds 1 ?_
      rw [rounds_succ]
      go_wp2
      exact ⟨⟨t + 1, m, by omega, by go_num, rfl⟩, by simp [intOf]; omega⟩
    · go_wp2
      go_ret
      exact ⟨rfl, m, rfl⟩
end Go.Proofs.YtpjjagalekolaaaGreatDoor

