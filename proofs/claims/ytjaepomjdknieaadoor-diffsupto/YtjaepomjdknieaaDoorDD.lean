/- The law's own helpers for entries: a list with spare room behind it, and whether it stayed. -/
import Derived.Test.YtjaepomjdknieaaDoorCJ
import Derived.Deep.QuietTactic
import Derived.BigQuiet
namespace Go.Proofs.YtjaepomjdknieaaDoor
open Go.RowKit
set_option linter.unusedVariables false
set_option linter.unusedSimpArgs false

theorem info61 : (Tryd.prog.info? 61).map (fun i => (i.zero, i.size, i.bytes)) = some (some (.agg #[.string ByteArray.empty, .bool false, .int .i64 0, .int .i64 0, .int .i64 0]), 5, 48) := by kernel_rfl

def flatE (l : List EntD) : List Value := (l.map EntD.cells).flatten
theorem flatE_length (l : List EntD) : (flatE l).length = l.length * 5 := by
  induction l with
  | nil => rfl
  | cons o l ih => simp only [flatE, List.map_cons, List.flatten_cons, List.length_append, List.length_cons] at *; rw [ih]; simp [EntD.cells]; omega
theorem flatE_get (l : List EntD) : ∀ (k : Nat) (h : k < l.length) (j : Nat) (hj : j < 5), (flatE l)[k * 5 + j]? = l[k].cells[j]? := by
  induction l with
  | nil => intro k h; simp at h
  | cons o l ih =>
    intro k h j hj
    simp only [flatE, List.map_cons, List.flatten_cons]
    cases k with
    | zero =>
      rw [List.getElem?_append_left (by simp [EntD.cells]; omega)]; simp
    | succ k =>
      rw [List.getElem?_append_right (by simp [EntD.cells]; omega)]
      have e : (k + 1) * 5 + j - o.cells.length = k * 5 + j := by simp [EntD.cells]; omega
      rw [e]
      exact ih k (by simpa using h) j hj
theorem flatE_at {w : World} {b off : Nat} {l : List EntD} (h : EntsAt w b off l) : ∀ j u, (flatE l)[j]? = some u → w.cell? ((⟨b, off, none⟩ : Addr).add j) = some u := by
  intro j u hu
  have hj : j < (flatE l).length := (List.getElem?_eq_some_iff.1 hu).1
  rw [flatE_length] at hj
  have e : j = (j / 5) * 5 + j % 5 := by omega
  have hk : j / 5 < l.length := by omega
  rw [e, flatE_get l (j / 5) hk (j % 5) (by omega)] at hu
  have := h (j / 5) hk (j % 5) u hu
  have e2 : ((⟨b, off, none⟩ : Addr).add j) = ⟨b, off + j / 5 * 5 + j % 5, none⟩ := by
    have h1 : ∀ n, (⟨b, off, none⟩ : Addr).add n = ⟨b, off + n, none⟩ := fun n => Addr.add_lit b off n
    rw [h1, show off + j = off + j / 5 * 5 + j % 5 by omega]
  rw [e2]; exact this
theorem at_flatE {w : World} {g : Nat} {l : List EntD} (h : ∀ j u, (flatE l)[j]? = some u → w.cell? ⟨g, j, none⟩ = some u) : EntsAt w g 0 l := by
  intro k hk j v hv
  have hj : j < 5 := (List.getElem?_eq_some_iff.1 hv).1
  have := h (k * 5 + j) v (by rw [flatE_get l k hk j hj]; exact hv)
  rwa [Nat.zero_add]
theorem flatE_one (l : List EntD) : ∀ u ∈ flatE l, u.oneCell' = true := by
  intro u hu
  simp only [flatE, List.mem_flatten, List.mem_map] at hu
  obtain ⟨c, ⟨o, _, rfl⟩, hu⟩ := hu
  simp only [EntD.cells, List.mem_cons, List.not_mem_nil, or_false] at hu
  rcases hu with rfl | rfl | rfl | rfl | rfl <;> rfl

def mineE : EntD := ⟨⟨#[109, 105, 110, 101]⟩, false, 0, 0, 0⟩

/-- What a list with spare room is. -/
def RoomyE (w : World) (B g cap : Nat) (l : List EntD) : Prop := B ≤ g ∧ g < w.heap.size ∧ l.length + 1 ≤ cap ∧ cap ≤ maxLen ∧ EntsAt w g 0 (l ++ [mineE])

theorem roomyE_of {w : World} {B : Nat} {v : Value} {l : List EntD} (h : w.ownsRow B 61 5 v (l.length + 1) (flatE l ++ flatE [mineE])) : ∃ g cap, v = .slice (some ⟨g, 0, none⟩) (l.length + 1) cap ∧ RoomyE w B g cap l := by
  have hc := h
  rcases h.2 with ⟨_, h0⟩ | ⟨g, cap, cur, rfl, hB, hg, hn, hm, _⟩
  · omega
  · refine ⟨g, cap, rfl, hB, heap_lt hg, hn, hm, at_flatE fun j u hu => ?_⟩
    have e : flatE (l ++ [mineE]) = flatE l ++ flatE [mineE] := by simp [flatE]
    rw [e] at hu
    have := hc.cells (g := g) rfl j u hu
    have e2 : ((⟨g, 0, none⟩ : Addr).add j) = ⟨g, j, none⟩ := by unfold Addr.add; split <;> simp_all
    rwa [e2] at this

theorem mineE_new (w : World) : ∀ j u, (flatE [mineE])[j]? = some u → (w.alloc (.cells #[.string ⟨#[109, 105, 110, 101]⟩, .bool false, .int .i64 0, .int .i64 0, .int .i64 0] 61)).cell? ((⟨w.heap.size, 0, none⟩ : Addr).add j) = some u := by
  intro j u hu
  rw [Addr.add_lit, Nat.zero_add, World.cell?_alloc_at _ _ _ _ rfl, ← hu]
  match j with
  | 0 => rfl
  | 1 => rfl
  | 2 => rfl
  | 3 => rfl
  | 4 => rfl
  | n + 5 => rfl

set_option maxHeartbeats 2000000 in
set_option maxRecDepth 100000 in
theorem roomy_any (b off cap : Nat) (l : List EntD) (w : World) (hl : l.length ≤ 2000000) (hb : b < w.heap.size) (hc : EntsAt w b off l) :
    Calls Tryd.prog 8 #[.slice (some ⟨b, off, none⟩) l.length cap] w fun e w' => ∃ g cap', e = .returned (.slice (some ⟨g, 0, none⟩) l.length cap') ∧ RoomyE w' w.heap.size g cap' l ∧ Below w.heap.size w w' := by
  obtain ⟨i0, hi, hz0, hz1', hz2⟩ := info_parts info61
  have hneq := fun (u : World) (a : Option Addr) (n c : Nat) => Lib.run_eql_slice_nil (P := Tryd.prog) u 22 61 a n c 0 0 Tryd.underlying22
  go_enter Tryd.func8, Tryd.ntmps8
  go_wp2_with (first | (at_builtin; refine wpList_append_own _ rfl (.const (.slice none 0 0)) (.tmp 5) 22 rfl w.heap.size 61 i0 _ 5 48 Tryd.underlying22 hi hz0 hz1' hz2 rfl (by decide) (.slice none 0 0) 0 [] rfl (World.ownsRow_nil _ _ _ _) ⟨b, off, none⟩ l.length cap (flatE l) rfl (flatE_length l) (flatE_at hc) (flatE_one l) (by unfold maxLen; omega) (by omega) (Nat.le_refl _) ?_; intro v1 w1 hown1 hg1 _; simp only [Nat.zero_add, List.nil_append] at hown1; have hb1 := (Below.refl w.heap.size w).grown hg1 (Nat.le_refl _) (fun k hk => by simp [Value.ownBlock] at hk); have hz1 := hb1.size) | (at_builtin; refine wpList_append_own _ rfl (.tmp 6) (.tmp 8) 22 rfl w.heap.size 61 i0 _ 5 48 Tryd.underlying22 hi hz0 hz1' hz2 rfl (by decide) _ _ _ rfl (hown1.alloc _) ⟨_, 0, none⟩ 1 1 (flatE [mineE]) rfl rfl (mineE_new _) (flatE_one _) (by unfold maxLen; omega) (by omega) (by simp only [World.size_alloc]; omega) ?_; intro v2 w2 hown2 hg2 _; obtain ⟨g, cap2, hv2, hr⟩ := roomyE_of hown2; subst hv2; have hb2 := (hb1.alloc hz1 _).grown hg2 (by simp only [World.size_alloc]; omega) (fun k hk => (hown1.lt k hk).1); have hcap := hr.2.2.1; have hcm := hr.2.2.2.1))
  go_ret
  exact ⟨g, cap2, rfl, hr, hb2⟩

set_option maxHeartbeats 1000000 in
theorem roomy_nil (w : World) :
    Calls Tryd.prog 8 #[.slice none 0 0] w fun e w' => e = .returned (.slice none 0 0) ∧ w' = w := by
  have hneq := fun (u : World) (a : Option Addr) (n c : Nat) => Lib.run_eql_slice_nil (P := Tryd.prog) u 22 61 a n c 0 0 Tryd.underlying22
  go_enter Tryd.func8, Tryd.ntmps8
  go_wp2
  go_ret
  exact ⟨rfl, rfl⟩

set_option maxHeartbeats 2000000 in
set_option maxRecDepth 100000 in
theorem roomy_empty (a : Addr) (w : World) :
    Calls Tryd.prog 8 #[.slice (some a) 0 0] w fun e w' => ∃ g cap', e = .returned (.slice (some ⟨g, 0, none⟩) 0 cap') ∧ RoomyE w' w.heap.size g cap' [] ∧ Below w.heap.size w w' := by
  obtain ⟨i0, hi, hz0, hz1', hz2⟩ := info_parts info61
  have hneq := fun (u : World) (a : Option Addr) (n c : Nat) => Lib.run_eql_slice_nil (P := Tryd.prog) u 22 61 a n c 0 0 Tryd.underlying22
  go_enter Tryd.func8, Tryd.ntmps8
  go_wp2_with (first | (at_builtin; refine wpList_append_own _ rfl (.const (.slice none 0 0)) (.tmp 5) 22 rfl w.heap.size 61 i0 _ 5 48 Tryd.underlying22 hi hz0 hz1' hz2 rfl (by decide) (.slice none 0 0) 0 [] rfl (World.ownsRow_nil _ _ _ _) a 0 0 [] rfl rfl (fun j u hu => by simp at hu) (fun u hu => by simp at hu) (by unfold maxLen; omega) (by omega) (Nat.le_refl _) ?_; intro v1 w1 hown1 hg1 _; simp only [Nat.zero_add, List.nil_append] at hown1; have hb1 := (Below.refl w.heap.size w).grown hg1 (Nat.le_refl _) (fun k hk => by simp [Value.ownBlock] at hk); have hz1 := hb1.size) | (at_builtin; refine wpList_append_own _ rfl (.tmp 6) (.tmp 8) 22 rfl w.heap.size 61 i0 _ 5 48 Tryd.underlying22 hi hz0 hz1' hz2 rfl (by decide) _ _ _ rfl (hown1.alloc _) ⟨_, 0, none⟩ 1 1 (flatE [mineE]) rfl rfl (mineE_new _) (flatE_one _) (by unfold maxLen; omega) (by omega) (by simp only [World.size_alloc]; omega) ?_; intro v2 w2 hown2 hg2 _; obtain ⟨g, cap2, hv2, hr⟩ := roomyE_of (l := []) hown2; subst hv2; have hb2 := (hb1.alloc hz1 _).grown hg2 (by simp only [World.size_alloc]; omega) (fun k hk => (hown1.lt k hk).1); have hcap := hr.2.2.1; have hcm := hr.2.2.2.1))
  go_ret
  exact ⟨g, cap2, rfl, hr, hb2⟩

set_option maxHeartbeats 1000000 in
set_option maxRecDepth 100000 in
theorem sameE_any (b1 o1 c1 b2 o2 c2 : Nat) (l : List EntD) (w : World) (hl : l.length ≤ 2000000) (h1 : EntsAt w b1 o1 l) (h2 : EntsAt w b2 o2 l) :
    Calls Tryd.prog 32 #[.slice (some ⟨b1, o1, none⟩) l.length c1, .slice (some ⟨b2, o2, none⟩) l.length c2] w fun e w' => e = .returned (.bool true) ∧ ∃ n, w' = w.drewN n := by
  have hne : ((l.length : Int) != (l.length : Int)) = false := by simp
  go_enter Tryd.func32, Tryd.ntmps32
  go_wp2
  go_loopw [5] (fun i wr => ∃ k n : Nat, k ≤ l.length ∧ i = .int .i64 k ∧ wr = w.drewN n) (fun i _ => l.length - (intOf i).toNat)
  case atStart => exact ⟨0, 0, Nat.zero_le _, rfl, rfl⟩
  case round =>
    obtain ⟨k, n, hk, rfl, rfl⟩ := hrel
    by_cases hlt : k < l.length
    · have a := h1 k hlt
      have b := h2 k hlt
      have hlt' : (k : Int) < (l.length : Int) := by omega
      generalize l[k] = o at *
      have a0 := a 0 _ rfl
      have a1 := a 1 _ rfl
      have a2 := a 2 _ rfl
      have a3 := a 3 _ rfl
      have a4 := a 4 _ rfl
      have b0 := b 0 _ rfl
      have b1 := b 1 _ rfl
      have b2 := b 2 _ rfl
      have b3 := b 3 _ rfl
      have b4 := b 4 _ rfl
      simp only [Nat.add_zero] at a0 b0
      clear a b
      go_wp2
      go_quiet (fail)
      go_wp2
      exact ⟨⟨k + 1, _, by omega, by go_num, rfl⟩, by simp [intOf]; omega⟩
    · go_wp2
      go_ret
      exact ⟨rfl, n, rfl⟩
set_option maxHeartbeats 1000000 in
theorem sameE_empty (b a : Addr) (c1 : Nat) (w : World) :
    Calls Tryd.prog 32 #[.slice (some b) 0 c1, .slice (some a) 0 0] w fun e w' => e = .returned (.bool true) ∧ w' = w := by
  go_enter Tryd.func32, Tryd.ntmps32
  go_wp2
  refine wp_loop_rounds 1 ?_
  rw [rounds_succ]
  go_wp2
  go_ret
  exact ⟨rfl, rfl⟩

theorem below_drewE {B : Nat} (w : World) (n : Nat) : Below B w (w.drewN n) := ⟨rfl, rfl, rfl, Nat.le_refl _, fun _ _ => rfl⟩

set_option maxHeartbeats 1000000 in
set_option maxRecDepth 100000 in
theorem keptE_any (g cg b off cap : Nat) (l : List EntD) (w : World) (B : Nat) (hl : l.length ≤ 2000000) (hr : RoomyE w B g cg l) (hc : EntsAt w b off l) :
    Calls Tryd.prog 11 #[.slice (some ⟨g, 0, none⟩) l.length cg, .slice (some ⟨b, off, none⟩) l.length cap] w fun e w' => e = .returned (.bool true) ∧ Below w.heap.size w w' := by
  have hneq := fun (u : World) (a : Option Addr) (n c : Nat) => Lib.run_eql_slice_nil (P := Tryd.prog) u 22 61 a n c 0 0 Tryd.underlying22
  obtain ⟨hB, hg, hcap, hcm, hrow⟩ := hr
  have hrl : EntsAt w g 0 l := fun k hk j v hv => hrow k (by simp; omega) j v (by rw [List.getElem_append_left hk]; exact hv)
  have hm : w.cell? ⟨g, l.length * 5, none⟩ = some (.string ⟨#[109, 105, 110, 101]⟩) := by
    have := hrow l.length (by simp) 0 (.string ⟨#[109, 105, 110, 101]⟩) (by rw [List.getElem_append_right (Nat.le_refl _)]; simp [mineE, EntD.cells])
    rwa [Nat.zero_add] at this
  have hcap' : ((l.length : Int) + 1) ≤ (cg : Int) := by omega
  unfold maxLen at hcm
  go_enter Tryd.func11, Tryd.ntmps11
  go_wp2_with fail
  refine (sameE_any g 0 cg b off cap l w hl hrl hc).mono ?_
  rintro e w1 ⟨rfl, n, rfl⟩
  have HB : Hid (Below w.heap.size w (w.drewN n)) := below_drewE w n
  clear hrow hrl hc
  go_wp2
  go_ret
  exact ⟨rfl, HB.out⟩

set_option maxHeartbeats 1000000 in
theorem keptE_nil (w : World) :
    Calls Tryd.prog 11 #[.slice none 0 0, .slice none 0 0] w fun e w' => e = .returned (.bool true) ∧ w' = w := by
  have hneq := fun (u : World) (a : Option Addr) (n c : Nat) => Lib.run_eql_slice_nil (P := Tryd.prog) u 22 61 a n c 0 0 Tryd.underlying22
  go_enter Tryd.func11, Tryd.ntmps11
  go_wp2
  go_ret
  exact ⟨rfl, rfl⟩

set_option maxHeartbeats 1000000 in
set_option maxRecDepth 100000 in
theorem keptE_empty (g cg : Nat) (a : Addr) (w : World) (B : Nat) (hr : RoomyE w B g cg []) :
    Calls Tryd.prog 11 #[.slice (some ⟨g, 0, none⟩) 0 cg, .slice (some a) 0 0] w fun e w' => e = .returned (.bool true) ∧ w' = w := by
  have hneq := fun (u : World) (a : Option Addr) (n c : Nat) => Lib.run_eql_slice_nil (P := Tryd.prog) u 22 61 a n c 0 0 Tryd.underlying22
  obtain ⟨hB, hg, hcap, hcm, hrow⟩ := hr
  have hm : w.cell? ⟨g, 0, none⟩ = some (.string ⟨#[109, 105, 110, 101]⟩) := by
    have := hrow 0 (by simp) 0 (.string ⟨#[109, 105, 110, 101]⟩) (by simp [mineE, EntD.cells])
    simpa using this
  have hcap' : (1 : Int) ≤ (cg : Int) := by simp at hcap; omega
  unfold maxLen at hcm
  go_enter Tryd.func11, Tryd.ntmps11
  go_wp2_with fail
  refine (sameE_empty ⟨g, 0, none⟩ a cg w).mono ?_
  rintro e w ⟨rfl, rfl⟩
  clear hrow
  go_wp2
  go_ret
  exact ⟨rfl, rfl⟩

theorem EntsAt.left {w : World} {b off : Nat} {l : List EntD} {o : EntD} (h : EntsAt w b off (l ++ [o])) : EntsAt w b off l :=
  fun k hk j v hv => h k (by simp; omega) j v (by rw [List.getElem_append_left hk]; exact hv)
theorem RoomyE.below {w w' : World} {B g cap : Nat} {l : List EntD} (h : RoomyE w B g cap l) (hb : Below w.heap.size w w') : RoomyE w' B g cap l :=
  ⟨h.1, by have := hb.size; have := h.2.1; omega, h.2.2.1, h.2.2.2.1, h.2.2.2.2.below hb h.2.1⟩
end Go.Proofs.YtjaepomjdknieaaDoor
