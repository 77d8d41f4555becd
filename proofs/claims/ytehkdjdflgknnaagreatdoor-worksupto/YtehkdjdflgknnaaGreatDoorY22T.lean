/- The law's own helpers: a list with spare room behind it, and whether it stayed. -/
import Derived.Test.YtehkdjdflgknnaaGreatDoorY07
import Derived.Test.YtehkdjdflgknnaaGreatDoorY08W0
import Derived.Deep.QuietTactic
import Derived.BigQuiet
namespace Go.Proofs.YtehkdjdflgknnaaGreatDoor
open Go.RowKit
set_option linter.unusedVariables false

theorem info58 : (Tryz.prog.info? 58).map (fun i => (i.zero, i.size, i.bytes)) = some (some (.agg #[.int .i64 0, .string ByteArray.empty, .string ByteArray.empty, .int .i64 0, .int .i64 0, .int .i64 0]), 6, 64) := by kernel_rfl

def flat (l : List OpD) : List Value := (l.map OpD.cells).flatten
theorem flat_length (l : List OpD) : (flat l).length = l.length * 6 := by
  induction l with
  | nil => rfl
  | cons o l ih => simp only [flat, List.map_cons, List.flatten_cons, List.length_append, List.length_cons] at *; rw [ih]; simp [OpD.cells]; omega
theorem flat_get (l : List OpD) : ∀ (k : Nat) (h : k < l.length) (j : Nat) (hj : j < 6), (flat l)[k * 6 + j]? = l[k].cells[j]? := by
  induction l with
  | nil => intro k h; simp at h
  | cons o l ih =>
    intro k h j hj
    simp only [flat, List.map_cons, List.flatten_cons]
    cases k with
    | zero =>
      rw [List.getElem?_append_left (by simp [OpD.cells]; omega)]; simp
    | succ k =>
      rw [List.getElem?_append_right (by simp [OpD.cells]; omega)]
      have e : (k + 1) * 6 + j - o.cells.length = k * 6 + j := by simp [OpD.cells]; omega
      rw [e]
      exact ih k (by simpa using h) j hj
theorem flat_at {w : World} {b off : Nat} {l : List OpD} (h : OpsAt w b off l) : ∀ j u, (flat l)[j]? = some u → w.cell? ((⟨b, off, none⟩ : Addr).add j) = some u := by
  intro j u hu
  have hj : j < (flat l).length := (List.getElem?_eq_some_iff.1 hu).1
  rw [flat_length] at hj
  have e : j = (j / 6) * 6 + j % 6 := by omega
  have hk : j / 6 < l.length := by omega
  rw [e, flat_get l (j / 6) hk (j % 6) (by omega)] at hu
  have := h (j / 6) hk (j % 6) u hu
  have e2 : ((⟨b, off, none⟩ : Addr).add j) = ⟨b, off + j / 6 * 6 + j % 6, none⟩ := by
    have h1 : ∀ n, (⟨b, off, none⟩ : Addr).add n = ⟨b, off + n, none⟩ := fun n => Addr.add_lit b off n
    rw [h1, show off + j = off + j / 6 * 6 + j % 6 by omega]
  rw [e2]; exact this
theorem at_flat {w : World} {g : Nat} {l : List OpD} (h : ∀ j u, (flat l)[j]? = some u → w.cell? ⟨g, j, none⟩ = some u) : OpsAt w g 0 l := by
  intro k hk j v hv
  have hj : j < 6 := (List.getElem?_eq_some_iff.1 hv).1
  have := h (k * 6 + j) v (by rw [flat_get l k hk j hj]; exact hv)
  rwa [Nat.zero_add]
theorem flat_one (l : List OpD) : ∀ u ∈ flat l, u.oneCell' = true := by
  intro u hu
  simp only [flat, List.mem_flatten, List.mem_map] at hu
  obtain ⟨c, ⟨o, _, rfl⟩, hu⟩ := hu
  simp only [OpD.cells, List.mem_cons, List.not_mem_nil, or_false] at hu
  rcases hu with rfl | rfl | rfl | rfl | rfl | rfl <;> rfl

def mine : OpD := ⟨0, ⟨#[109, 105, 110, 101]⟩, ByteArray.empty, 0, 0, 0⟩

/-- What a list with spare room is. -/
def Roomy (w : World) (B g cap : Nat) (l : List OpD) : Prop := B ≤ g ∧ g < w.heap.size ∧ l.length + 1 ≤ cap ∧ cap ≤ maxLen ∧ OpsAt w g 0 (l ++ [mine])

theorem roomy_of {w : World} {B : Nat} {v : Value} {l : List OpD} (h : w.ownsRow B 58 6 v (l.length + 1) (flat l ++ flat [mine])) : ∃ g cap, v = .slice (some ⟨g, 0, none⟩) (l.length + 1) cap ∧ Roomy w B g cap l := by
  have hc := h
  rcases h.2 with ⟨_, h0⟩ | ⟨g, cap, cur, rfl, hB, hg, hn, hm, _⟩
  · omega
  · refine ⟨g, cap, rfl, hB, heap_lt hg, hn, hm, at_flat fun j u hu => ?_⟩
    have e : flat (l ++ [mine]) = flat l ++ flat [mine] := by simp [flat]
    rw [e] at hu
    have := hc.cells (g := g) rfl j u hu
    have e2 : ((⟨g, 0, none⟩ : Addr).add j) = ⟨g, j, none⟩ := by unfold Addr.add; split <;> simp_all
    rwa [e2] at this

theorem mine_new (w : World) : ∀ j u, (flat [mine])[j]? = some u → (w.alloc (.cells #[.int .i64 0, .string ⟨#[109, 105, 110, 101]⟩, .string ⟨#[]⟩, .int .i64 0, .int .i64 0, .int .i64 0] 58)).cell? ((⟨w.heap.size, 0, none⟩ : Addr).add j) = some u := by
  intro j u hu
  rw [Addr.add_lit, Nat.zero_add, World.cell?_alloc_at _ _ _ _ rfl, ← hu]
  match j with
  | 0 => rfl
  | 1 => rfl
  | 2 => rfl
  | 3 => rfl
  | 4 => rfl
  | 5 => rfl
  | n + 6 => rfl

set_option maxHeartbeats 2000000 in
set_option maxRecDepth 100000 in
theorem roomyOps_any (b off cap : Nat) (l : List OpD) (w : World) (hl : l.length ≤ 2000000) (hb : b < w.heap.size) (hc : OpsAt w b off l) :
    Calls Tryz.prog 8 #[.slice (some ⟨b, off, none⟩) l.length cap] w fun e w' => ∃ g cap', e = .returned (.slice (some ⟨g, 0, none⟩) l.length cap') ∧ Roomy w' w.heap.size g cap' l ∧ Below w.heap.size w w' := by
  obtain ⟨i0, hi, hz0, hz1', hz2⟩ := info_parts info58
  have hneq := fun (u : World) (a : Option Addr) (n c : Nat) => Lib.run_eql_slice_nil (P := Tryz.prog) u 23 58 a n c 0 0 Tryz.underlying23
  go_enter Tryz.func8, Tryz.ntmps8
  go_wp2_with (first | (at_builtin; refine wpList_append_own _ rfl (.const (.slice none 0 0)) (.tmp 5) 23 rfl w.heap.size 58 i0 _ 6 64 Tryz.underlying23 hi hz0 hz1' hz2 rfl (by decide) (.slice none 0 0) 0 [] rfl (World.ownsRow_nil _ _ _ _) ⟨b, off, none⟩ l.length cap (flat l) rfl (flat_length l) (flat_at hc) (flat_one l) (by unfold maxLen; omega) (by omega) (Nat.le_refl _) ?_; intro v1 w1 hown1 hg1 _; simp only [Nat.zero_add, List.nil_append] at hown1; have hb1 := (Below.refl w.heap.size w).grown hg1 (Nat.le_refl _) (fun k hk => by simp [Value.ownBlock] at hk); have hz1 := hb1.size) | (at_builtin; refine wpList_append_own _ rfl (.tmp 6) (.tmp 8) 23 rfl w.heap.size 58 i0 _ 6 64 Tryz.underlying23 hi hz0 hz1' hz2 rfl (by decide) _ _ _ rfl (hown1.alloc _) ⟨_, 0, none⟩ 1 1 (flat [mine]) rfl rfl (mine_new _) (flat_one _) (by unfold maxLen; omega) (by omega) (by simp only [World.size_alloc]; omega) ?_; intro v2 w2 hown2 hg2 _; obtain ⟨g, cap2, hv2, hr⟩ := roomy_of hown2; subst hv2; have hb2 := (hb1.alloc hz1 _).grown hg2 (by simp only [World.size_alloc]; omega) (fun k hk => (hown1.lt k hk).1); have hcap := hr.2.2.1; have hcm := hr.2.2.2.1))
  go_ret
  exact ⟨g, cap2, rfl, hr, hb2⟩

set_option maxHeartbeats 1000000 in
theorem roomyOps_nil (w : World) :
    Calls Tryz.prog 8 #[.slice none 0 0] w fun e w' => e = .returned (.slice none 0 0) ∧ w' = w := by
  have hneq := fun (u : World) (a : Option Addr) (n c : Nat) => Lib.run_eql_slice_nil (P := Tryz.prog) u 23 58 a n c 0 0 Tryz.underlying23
  go_enter Tryz.func8, Tryz.ntmps8
  go_wp2
  go_ret
  exact ⟨rfl, rfl⟩

set_option maxHeartbeats 1000000 in
set_option maxRecDepth 100000 in
theorem sameOps_any (b1 o1 c1 b2 o2 c2 : Nat) (l : List OpD) (w : World) (hl : l.length ≤ 2000000) (h1 : OpsAt w b1 o1 l) (h2 : OpsAt w b2 o2 l) :
    Calls Tryz.prog 35 #[.slice (some ⟨b1, o1, none⟩) l.length c1, .slice (some ⟨b2, o2, none⟩) l.length c2] w fun e w' => e = .returned (.bool true) ∧ ∃ n, w' = w.drewN n := by
  have hne : ((l.length : Int) != (l.length : Int)) = false := by simp
  go_enter Tryz.func35, Tryz.ntmps35
  go_wp2
  go_loopw [5] (fun i wr => ∃ k n : Nat, k ≤ l.length ∧ i = .int .i64 k ∧ wr = w.drewN n) (fun i _ => l.length - (intOf i).toNat)
  case atStart => exact ⟨0, 0, Nat.zero_le _, rfl, rfl⟩
  case round =>
    obtain ⟨k, n, hk, rfl, rfl⟩ := hrel
    by_cases hlt : k < l.length
    · have a := h1 k hlt
      have b := h2 k hlt
      have hlt' : (k : Int) < (l.length : Int) := by omega
      generalize l[k] = o at *
      have a0 := a 0 _ rfl
      have a1 := a 1 _ rfl
      have a2 := a 2 _ rfl
      have a3 := a 3 _ rfl
      have a4 := a 4 _ rfl
      have a5 := a 5 _ rfl
      have b0 := b 0 _ rfl
      have b1 := b 1 _ rfl
      have b2 := b 2 _ rfl
      have b3 := b 3 _ rfl
      have b4 := b 4 _ rfl
      have b5 := b 5 _ rfl
      simp only [Nat.add_zero] at a0 b0
      clear a b
      go_wp2
      go_quiet (fail)
      go_wp2
      exact ⟨⟨k + 1, _, by omega, by go_num, rfl⟩, by simp [intOf]; omega⟩
    · go_wp2
      go_ret
      exact ⟨rfl, n, rfl⟩

theorem below_drewK {B : Nat} (w : World) (n : Nat) : Below B w (w.drewN n) := ⟨rfl, rfl, rfl, Nat.le_refl _, fun _ _ => rfl⟩

set_option maxHeartbeats 1000000 in
set_option maxRecDepth 100000 in
theorem keptOps_any (g cg b off cap : Nat) (l : List OpD) (w : World) (B : Nat) (hl : l.length ≤ 2000000) (hr : Roomy w B g cg l) (hc : OpsAt w b off l) :
    Calls Tryz.prog 13 #[.slice (some ⟨g, 0, none⟩) l.length cg, .slice (some ⟨b, off, none⟩) l.length cap] w fun e w' => e = .returned (.bool true) ∧ Below w.heap.size w w' := by
  have hneq := fun (u : World) (a : Option Addr) (n c : Nat) => Lib.run_eql_slice_nil (P := Tryz.prog) u 23 58 a n c 0 0 Tryz.underlying23
  obtain ⟨hB, hg, hcap, hcm, hrow⟩ := hr
  have hrl : OpsAt w g 0 l := fun k hk j v hv => hrow k (by simp; omega) j v (by rw [List.getElem_append_left hk]; exact hv)
  have hm : w.cell? ⟨g, l.length * 6 + 1, none⟩ = some (.string ⟨#[109, 105, 110, 101]⟩) := by
    have := hrow l.length (by simp) 1 (.string ⟨#[109, 105, 110, 101]⟩) (by rw [List.getElem_append_right (Nat.le_refl _)]; simp [mine, OpD.cells])
    rwa [Nat.zero_add] at this
  have hcap' : ((l.length : Int) + 1) ≤ (cg : Int) := by omega
  unfold maxLen at hcm
  go_enter Tryz.func13, Tryz.ntmps13
  go_wp2_with fail
  refine (sameOps_any g 0 cg b off cap l w hl hrl hc).mono ?_
  rintro e w1 ⟨rfl, n, rfl⟩
  have HB : Hid (Below w.heap.size w (w.drewN n)) := below_drewK w n
  clear hrow hrl hc
  go_wp2
  go_ret
  exact ⟨rfl, HB.out⟩

set_option maxHeartbeats 1000000 in
theorem keptOps_nil (w : World) :
    Calls Tryz.prog 13 #[.slice none 0 0, .slice none 0 0] w fun e w' => e = .returned (.bool true) ∧ w' = w := by
  have hneq := fun (u : World) (a : Option Addr) (n c : Nat) => Lib.run_eql_slice_nil (P := Tryz.prog) u 23 58 a n c 0 0 Tryz.underlying23
  go_enter Tryz.func13, Tryz.ntmps13
  go_wp2
  go_ret
  exact ⟨rfl, rfl⟩
end Go.Proofs.YtehkdjdflgknnaaGreatDoor

