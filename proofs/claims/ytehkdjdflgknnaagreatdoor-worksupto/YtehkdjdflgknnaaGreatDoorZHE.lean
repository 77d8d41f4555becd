/- A list with spare room, and its owner writing it over. -/
import Derived.Test.YtehkdjdflgknnaaGreatDoorY23
import Derived.Test.YtehkdjdflgknnaaGreatDoorZHD
namespace Go.Proofs.YtehkdjdflgknnaaGreatDoor
open Go.RowKit
set_option linter.unusedVariables false
set_option linter.unusedSimpArgs false

theorem roomyF_of {w : World} {B : Nat} {v : Value} {l : List EntD} (h : w.ownsRow B 75 5 v (l.length + 1) (flatE l ++ flatE [mineE])) : ∃ g cap, v = .slice (some ⟨g, 0, none⟩) (l.length + 1) cap ∧ RoomyE w B g cap l ∧ Hid (∃ cur, w.heap[g]? = some (.cells cur 75 (0, 0)) ∧ cur.size = cap * 5) := by
  obtain ⟨g, cap, rfl, hr⟩ := roomyE_of h
  refine ⟨g, cap, rfl, hr, ?_⟩
  rcases h.2 with ⟨h', _⟩ | ⟨g', cap', cur, h', hB, hg, hn, hm, hs, _⟩
  · cases h'
  · cases h'
    exact ⟨cur, hg, hs⟩

set_option maxHeartbeats 2000000 in
set_option maxRecDepth 100000 in
theorem roomyF_any (b off cap : Nat) (l : List EntD) (w : World) (hl : l.length ≤ 2000000) (hb : b < w.heap.size) (hc : EntsAt w b off l) :
    Calls Tryz.prog 7 #[.slice (some ⟨b, off, none⟩) l.length cap] w fun e w' => ∃ g cap', e = .returned (.slice (some ⟨g, 0, none⟩) l.length cap') ∧ RoomyE w' w.heap.size g cap' l ∧ (∃ cur, w'.heap[g]? = some (.cells cur 75 (0, 0)) ∧ cur.size = cap' * 5) ∧ Below w.heap.size w w' := by
  obtain ⟨i0, hi, hz0, hz1', hz2⟩ := info_parts info75
  have hneq := fun (u : World) (a : Option Addr) (n c : Nat) => Lib.run_eql_slice_nil (P := Tryz.prog) u 22 75 a n c 0 0 Tryz.underlying22
  go_enter Tryz.func7, Tryz.ntmps7
  go_wp2_with (first | (at_builtin; refine wpList_append_own _ rfl (.const (.slice none 0 0)) (.tmp 5) 22 rfl w.heap.size 75 i0 _ 5 48 Tryz.underlying22 hi hz0 hz1' hz2 rfl (by decide) (.slice none 0 0) 0 [] rfl (World.ownsRow_nil _ _ _ _) ⟨b, off, none⟩ l.length cap (flatE l) rfl (flatE_length l) (flatE_at hc) (flatE_one l) (by unfold maxLen; omega) (by omega) (Nat.le_refl _) ?_; intro v1 w1 hown1 hg1 _; simp only [Nat.zero_add, List.nil_append] at hown1; have hb1 := (Below.refl w.heap.size w).grown hg1 (Nat.le_refl _) (fun k hk => by simp [Value.ownBlock] at hk); have hz1 := hb1.size) | (at_builtin; refine wpList_append_own _ rfl (.tmp 6) (.tmp 8) 22 rfl w.heap.size 75 i0 _ 5 48 Tryz.underlying22 hi hz0 hz1' hz2 rfl (by decide) _ _ _ rfl (hown1.alloc _) ⟨_, 0, none⟩ 1 1 (flatE [mineE]) rfl rfl (mineE_new _) (flatE_one _) (by unfold maxLen; omega) (by omega) (by simp only [World.size_alloc]; omega) ?_; intro v2 w2 hown2 hg2 _; obtain ⟨g, cap2, hv2, hr, hcur⟩ := roomyF_of hown2; subst hv2; have hb2 := (hb1.alloc hz1 _).grown hg2 (by simp only [World.size_alloc]; omega) (fun k hk => (hown1.lt k hk).1); have hcap := hr.2.2.1; have hcm := hr.2.2.2.1))
  go_ret
  exact ⟨g, cap2, rfl, hr, hcur.out, hb2⟩

/-- A row of entries that nobody but its owner reads, and the rest of the world as it was. -/
structure Spl (w : World) (g n : Nat) (u : World) : Prop where
  row : ∃ cur : Array Value, u.heap[g]? = some (.cells cur 75 (0, 0)) ∧ cur.size = n
  gr : w.grownBy u (some g)
theorem Spl.start {w : World} {g n : Nat} {cur : Array Value} (h : w.heap[g]? = some (.cells cur 75 (0, 0))) (hs : cur.size = n) : Spl w g n w := ⟨⟨cur, h, hs⟩, ⟨rfl, rfl, rfl, Nat.le_refl _, fun _ _ _ => rfl⟩⟩
theorem Spl.set {w u : World} {g n : Nat} (h : Spl w g n u) (j : Nat) (v : Value) : Spl w g n (u.setCell ⟨g, j, none⟩ v) := by
  obtain ⟨⟨cur, h1, h2⟩, h3⟩ := h
  refine ⟨⟨cur.setIfInBounds j v, heap_setCell_same u g j cur 75 v h1, by simpa using h2⟩, ⟨h3.os, h3.tape, h3.output, by simp; exact h3.size, fun k hk hne => ?_⟩⟩
  rw [heap_setCell_other u ⟨g, j, none⟩ k v (fun e => hne (by simp [e]))]
  exact h3.block k hk hne
theorem Spl.cell {w u : World} {g n : Nat} (h : Spl w g n u) (j : Nat) (hj : j < n) : ∃ v, u.cell? ⟨g, j, none⟩ = some v := by
  obtain ⟨⟨cur, h1, h2⟩, h3⟩ := h
  exact ⟨cur[j]'(by omega), by rw [Lib.cell_of_heap h1, Array.getElem?_eq_getElem]⟩
theorem Spl.frozen {w u : World} {g n : Nat} (h : Spl w g n u) (j : Nat) : u.frozen? ⟨g, j, none⟩ = false := by
  obtain ⟨⟨cur, h1, h2⟩, h3⟩ := h
  exact frozen_of_row u g j cur 75 h1

set_option maxHeartbeats 4000000 in
set_option maxRecDepth 100000 in
theorem spoil_any {w : World} {g len cap : Nat} {cur : Array Value} (h : w.heap[g]? = some (.cells cur 75 (0, 0))) (hs : cur.size = cap * 5) (hl : len ≤ cap) (hl2 : len ≤ 2000000) :
    Calls Tryz.prog 20 #[.slice (some ⟨g, 0, none⟩) len cap] w fun e w' => e = .returned (.tuple #[]) ∧ w.grownBy w' (some g) := by
  have S0 := hidD (Spl.start h hs)
  clear h hs
  go_enter Tryz.func20, Tryz.ntmps20
  go_wp2
  go_loopw [2] (fun i wr => ∃ k : Nat, k ≤ len ∧ i = .int .i64 k ∧ Hid (Spl w g (cap * 5) wr)) (fun i _ => len - (intOf i).toNat)
  case atStart => exact ⟨0, Nat.zero_le _, rfl, S0⟩
  case round =>
    clear S0
    obtain ⟨k, hk, rfl, S⟩ := hrel
    by_cases hlt : k < len
    · obtain ⟨u0, c0⟩ := S.out.cell (k * 5) (by omega)
      obtain ⟨u1, c1⟩ := S.out.cell (k * 5 + 1) (by omega)
      obtain ⟨u2, c2⟩ := S.out.cell (k * 5 + 2) (by omega)
      obtain ⟨u3, c3⟩ := S.out.cell (k * 5 + 3) (by omega)
      obtain ⟨u4, c4⟩ := S.out.cell (k * 5 + 4) (by omega)
      have f0 := S.out.frozen (k * 5)
      have f1 := S.out.frozen (k * 5 + 1)
      have f2 := S.out.frozen (k * 5 + 2)
      have f3 := S.out.frozen (k * 5 + 3)
      have f4 := S.out.frozen (k * 5 + 4)
      go_wp2
      refine ⟨⟨k + 1, by omega, by go_num, hidD ?_⟩, by simp [intOf]; omega⟩
      exact ((((S.out.set _ _).set _ _).set _ _).set _ _).set _ _
    · go_wp2
      refine bodyPost_end (results_none rfl _ _ _) rfl ?_
      exact ⟨rfl, S.out.gr⟩
theorem spoil_nil (w : World) : Calls Tryz.prog 20 #[.slice none 0 0] w fun e w' => e = .returned (.tuple #[]) ∧ w' = w := by
  go_enter Tryz.func20, Tryz.ntmps20
  go_wp2
  refine wp_loop_rounds 1 ?_
  rw [rounds_succ]
  go_wp2
  refine bodyPost_end (results_none rfl _ _ _) rfl ?_
  exact ⟨rfl, rfl⟩
end Go.Proofs.YtehkdjdflgknnaaGreatDoor
