/- A list of operations with spare room, and its owner writing it over. -/
import Derived.Test.YtehkdjdflgknnaaGreatDoorZHE
namespace Go.Proofs.YtehkdjdflgknnaaGreatDoor
open Go.RowKit
set_option linter.unusedVariables false
set_option linter.unusedSimpArgs false

theorem roomyOpsF_of {w : World} {B : Nat} {v : Value} {l : List OpD} (h : w.ownsRow B 58 6 v (l.length + 1) (flat l ++ flat [mine])) : ∃ g cap, v = .slice (some ⟨g, 0, none⟩) (l.length + 1) cap ∧ Roomy w B g cap l ∧ Hid (∃ cur, w.heap[g]? = some (.cells cur 58 (0, 0)) ∧ cur.size = cap * 6) := by
  obtain ⟨g, cap, rfl, hr⟩ := roomy_of h
  refine ⟨g, cap, rfl, hr, ?_⟩
  rcases h.2 with ⟨h', _⟩ | ⟨g', cap', cur, h', hB, hg, hn, hm, hs, _⟩
  · cases h'
  · cases h'
    exact ⟨cur, hg, hs⟩

set_option maxHeartbeats 2000000 in
set_option maxRecDepth 100000 in
theorem roomyOpsF_any (b off cap : Nat) (l : List OpD) (w : World) (hl : l.length ≤ 2000000) (hb : b < w.heap.size) (hc : OpsAt w b off l) :
    Calls Tryz.prog 8 #[.slice (some ⟨b, off, none⟩) l.length cap] w fun e w' => ∃ g cap', e = .returned (.slice (some ⟨g, 0, none⟩) l.length cap') ∧ Roomy w' w.heap.size g cap' l ∧ (∃ cur, w'.heap[g]? = some (.cells cur 58 (0, 0)) ∧ cur.size = cap' * 6) ∧ Below w.heap.size w w' := by
  obtain ⟨i0, hi, hz0, hz1', hz2⟩ := info_parts info58
  have hneq := fun (u : World) (a : Option Addr) (n c : Nat) => Lib.run_eql_slice_nil (P := Tryz.prog) u 23 58 a n c 0 0 Tryz.underlying23
  go_enter Tryz.func8, Tryz.ntmps8
  go_wp2_with (first | (at_builtin; refine wpList_append_own _ rfl (.const (.slice none 0 0)) (.tmp 5) 23 rfl w.heap.size 58 i0 _ 6 64 Tryz.underlying23 hi hz0 hz1' hz2 rfl (by decide) (.slice none 0 0) 0 [] rfl (World.ownsRow_nil _ _ _ _) ⟨b, off, none⟩ l.length cap (flat l) rfl (flat_length l) (flat_at hc) (flat_one l) (by unfold maxLen; omega) (by omega) (Nat.le_refl _) ?_; intro v1 w1 hown1 hg1 _; simp only [Nat.zero_add, List.nil_append] at hown1; have hb1 := (Below.refl w.heap.size w).grown hg1 (Nat.le_refl _) (fun k hk => by simp [Value.ownBlock] at hk); have hz1 := hb1.size) | (at_builtin; refine wpList_append_own _ rfl (.tmp 6) (.tmp 8) 23 rfl w.heap.size 58 i0 _ 6 64 Tryz.underlying23 hi hz0 hz1' hz2 rfl (by decide) _ _ _ rfl (hown1.alloc _) ⟨_, 0, none⟩ 1 1 (flat [mine]) rfl rfl (mine_new _) (flat_one _) (by unfold maxLen; omega) (by omega) (by simp only [World.size_alloc]; omega) ?_; intro v2 w2 hown2 hg2 _; obtain ⟨g, cap2, hv2, hr, hcur⟩ := roomyOpsF_of hown2; subst hv2; have hb2 := (hb1.alloc hz1 _).grown hg2 (by simp only [World.size_alloc]; omega) (fun k hk => (hown1.lt k hk).1); have hcap := hr.2.2.1; have hcm := hr.2.2.2.1))
  go_ret
  exact ⟨g, cap2, rfl, hr, hcur.out, hb2⟩

/-- A row of operations that nobody but its owner reads, and the rest of the world as it was. -/
structure SplO (w : World) (g n : Nat) (u : World) : Prop where
  row : ∃ cur : Array Value, u.heap[g]? = some (.cells cur 58 (0, 0)) ∧ cur.size = n
  gr : w.grownBy u (some g)
theorem SplO.start {w : World} {g n : Nat} {cur : Array Value} (h : w.heap[g]? = some (.cells cur 58 (0, 0))) (hs : cur.size = n) : SplO w g n w := ⟨⟨cur, h, hs⟩, ⟨rfl, rfl, rfl, Nat.le_refl _, fun _ _ _ => rfl⟩⟩
theorem SplO.set {w u : World} {g n : Nat} (h : SplO w g n u) (j : Nat) (v : Value) : SplO w g n (u.setCell ⟨g, j, none⟩ v) := by
  obtain ⟨⟨cur, h1, h2⟩, h3⟩ := h
  refine ⟨⟨cur.setIfInBounds j v, heap_setCell_same u g j cur 58 v h1, by simpa using h2⟩, ⟨h3.os, h3.tape, h3.output, by simp; exact h3.size, fun k hk hne => ?_⟩⟩
  rw [heap_setCell_other u ⟨g, j, none⟩ k v (fun e => hne (by simp [e]))]
  exact h3.block k hk hne
theorem SplO.cell {w u : World} {g n : Nat} (h : SplO w g n u) (j : Nat) (hj : j < n) : ∃ v, u.cell? ⟨g, j, none⟩ = some v := by
  obtain ⟨⟨cur, h1, h2⟩, h3⟩ := h
  exact ⟨cur[j]'(by omega), by rw [Lib.cell_of_heap h1, Array.getElem?_eq_getElem]⟩
theorem SplO.frozen {w u : World} {g n : Nat} (h : SplO w g n u) (j : Nat) : u.frozen? ⟨g, j, none⟩ = false := by
  obtain ⟨⟨cur, h1, h2⟩, h3⟩ := h
  exact frozen_of_row u g j cur 58 h1

set_option maxHeartbeats 4000000 in
set_option maxRecDepth 100000 in
theorem spoilOps_any {w : World} {g len cap : Nat} {cur : Array Value} (h : w.heap[g]? = some (.cells cur 58 (0, 0))) (hs : cur.size = cap * 6) (hl : len ≤ cap) (hl2 : len ≤ 2000000) :
    Calls Tryz.prog 28 #[.slice (some ⟨g, 0, none⟩) len cap] w fun e w' => e = .returned (.tuple #[]) ∧ w.grownBy w' (some g) := by
  have S0 := hidD (SplO.start h hs)
  clear h hs
  go_enter Tryz.func28, Tryz.ntmps28
  go_wp2
  go_loopw [2] (fun i wr => ∃ k : Nat, k ≤ len ∧ i = .int .i64 k ∧ Hid (SplO w g (cap * 6) wr)) (fun i _ => len - (intOf i).toNat)
  case atStart => exact ⟨0, Nat.zero_le _, rfl, S0⟩
  case round =>
    clear S0
    obtain ⟨k, hk, rfl, S⟩ := hrel
    by_cases hlt : k < len
    · obtain ⟨u0, c0⟩ := S.out.cell (k * 6) (by omega)
      obtain ⟨u1, c1⟩ := S.out.cell (k * 6 + 1) (by omega)
      obtain ⟨u2, c2⟩ := S.out.cell (k * 6 + 2) (by omega)
      obtain ⟨u3, c3⟩ := S.out.cell (k * 6 + 3) (by omega)
      obtain ⟨u4, c4⟩ := S.out.cell (k * 6 + 4) (by omega)
      obtain ⟨u5, c5⟩ := S.out.cell (k * 6 + 5) (by omega)
      have f0 := S.out.frozen (k * 6)
      have f1 := S.out.frozen (k * 6 + 1)
      have f2 := S.out.frozen (k * 6 + 2)
      have f3 := S.out.frozen (k * 6 + 3)
      have f4 := S.out.frozen (k * 6 + 4)
      have f5 := S.out.frozen (k * 6 + 5)
      go_wp2
      refine ⟨⟨k + 1, by omega, by go_num, hidD ?_⟩, by simp [intOf]; omega⟩
      exact (((((S.out.set _ _).set _ _).set _ _).set _ _).set _ _).set _ _
    · go_wp2
      refine bodyPost_end (results_none rfl _ _ _) rfl ?_
      exact ⟨rfl, S.out.gr⟩
theorem spoilOps_nil (w : World) : Calls Tryz.prog 28 #[.slice none 0 0] w fun e w' => e = .returned (.tuple #[]) ∧ w' = w := by
  go_enter Tryz.func28, Tryz.ntmps28
  go_wp2
  refine wp_loop_rounds 1 ?_
  rw [rounds_succ]
  go_wp2
  refine bodyPost_end (results_none rfl _ _ _) rfl ?_
  exact ⟨rfl, rfl⟩
end Go.Proofs.YtehkdjdflgknnaaGreatDoor
