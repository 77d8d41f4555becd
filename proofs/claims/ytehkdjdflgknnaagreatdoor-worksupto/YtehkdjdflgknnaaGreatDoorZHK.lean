/- The document's Does; the smallest Mount of the program alive. -/
import Derived.Test.YtehkdjdflgknnaaGreatDoorZHD
import Derived.Test.YtehkdjdflgknnaaGreatDoorY23
namespace Go.Proofs.YtehkdjdflgknnaaGreatDoor
open Go.RowKit
set_option linter.unusedVariables false
set_option linter.unusedSimpArgs false

set_option maxHeartbeats 4000000 in
set_option maxRecDepth 100000 in
theorem refDoes {u : World} {vb : Nat} {v : Value} {L : List EntD} {fold : Bool} {space : Int} (hk : Vk 65 u vb v fold space []) (hr : RowAt u v L) (K : VolOk fold L) (o : OpD) (hsm : o.small) (h0 : 0 ≤ space) (h1 : space ≤ 9223372036854775807) :
    Calls Tryz.prog 23 #[.pointer (some ⟨vb, 0, none⟩), .agg #[.int .i64 o.kind, .string o.path, .string o.dest, .int .i64 o.id, .int .i64 o.size, .int .i64 o.mode]] u fun r w' => DoA 65 u vb fold space [] (doesL fold space L o) r w' := by
  have ST := hidD (Ob.start u o)
  have HA := hidD (fun (w1 : World) => refIs_any o w1 hsm)
  have HD := hidD (fun (hok : okOp o = true) (w1 : World) (hb : Below u.heap.size u w1) => refDo (Vm.of K (hk.vol.below hb hk.lt) (hr.below hb (Nat.le_refl _)) h0 h1) K (hk.below hb hk.lt) o (okOp_good hok))
  clear hk hr K
  unfold doesL
  cases hok : okOp o
  · rw [hok] at HA
    obtain ⟨kind, path, dest, id, size, mode⟩ := o
    dsimp only at *
    rw [if_neg (by decide)]
    unfold DoA
    clear HD hok
    go_enter Tryz.func23, Tryz.ntmps23
    go_wp2_with (go_at_call 40; refine (HA.out _).mono ?_; rintro r w1 ⟨rfl, hb1⟩; have s1 := ST.out.below hb1)
    go_ret
    exact ⟨rfl, s1.bel⟩
  · have HD2 := hidD (HD.out hok)
    rw [hok] at HA
    obtain ⟨kind, path, dest, id, size, mode⟩ := o
    dsimp only at *
    rw [if_pos rfl]
    clear HD hok
    generalize doL fold space L ⟨kind, path, dest, id, size, mode⟩ = X at *
    go_enter Tryz.func23, Tryz.ntmps23
    go_wp2_with (first | (go_at_call 40; refine (HA.out _).mono ?_; rintro r w1 ⟨rfl, hb1⟩; have s1 := ST.out.below hb1; have d0 := s1.cell 0; have d1 := s1.cell 1; have d2 := s1.cell 2; have d3 := s1.cell 3; have d4 := s1.cell 4; have d5 := s1.cell 5; simp [OpD.cells] at d0 d1 d2 d3 d4 d5) | (go_at_call 34; refine (HD2.out _ s1.bel).mono ?_; intro r w2 hd; obtain ⟨n, hr⟩ := hd.retD; subst hr))
    go_ret
    exact DoA.from_below s1.bel hd

def chD : OpD := ⟨7, ⟨#[100]⟩, ⟨#[]⟩, 0, 0, 1⟩
def dirE : EntD := ⟨⟨#[100]⟩, true, 0, 0, 1⟩
theorem mount_dir : mountN false 9 [dirD] = 0 := by kernel_rfl
theorem does_dir : doesL false 9 [dirD] chD = .ok [dirE] := by kernel_rfl
theorem held_dir : heldF false [dirD] = true := by kernel_rfl

set_option maxHeartbeats 4000000 in
set_option maxRecDepth 100000 in
theorem mounts_any (w : World) (hg : Gd w) : Calls Tryz.prog 17 #[] w fun e w' => e = .returned (.bool true) ∧ Below w.heap.size w w' := by
  have hrow : RowAt (w.alloc (.cells #[.string ⟨#[100]⟩, .bool true, .int .i64 0, .int .i64 0, .int .i64 7] 75)) (.slice (some ⟨w.heap.size, 0, none⟩) 1 1) [dirD] := .row w.heap.size 0 1 [dirD] (by simp) (by simp) (by unfold maxLen; omega) (cells_new w dirD)
  have H1 := hidD (cMount false hrow ⟨by simp, dirD_small⟩ 9 ⟨#[106]⟩ (by decide))
  rw [mount_dir] at H1
  unfold CMnt at H1
  simp only [↓reduceIte] at H1
  have HDO := hidD (fun (u : World) (vb : Nat) (v : Value) (hb : Below w.heap.size w u) (hk : Vk 92 u vb v false 9 [.string ⟨#[106]⟩]) (hr : RowAt u v [dirD]) => cDo hk hr (held_vol held_dir) (hg.below hb) chD (by unfold OpD.small; decide) (by decide) (by decide))
  rw [does_dir] at HDO
  unfold DoA at HDO
  clear hrow hg
  go_enter Tryz.func17, Tryz.ntmps17
  go_wp2_with fail
  refine H1.out.mono ?_
  rintro e w1 ⟨vb, v1, rfl, hvb, hk1, ho1, hb1⟩
  have B1 := hidD (((Below.refl w.heap.size w).alloc (Nat.le_refl _) _).trans (hb1.mono (by simp)))
  have D1 := hidD (HDO.out w1 vb v1 B1.out hk1 (RowAt.ofOwn ho1))
  clear hb1 H1 HDO hk1 ho1
  go_wp2_with fail
  refine D1.out.mono ?_
  rintro e w2 ⟨rfl, v2, hk2, ho2, hg2⟩
  have B2 := hidD (B1.out.grown hg2 B1.out.size (fun q hq => by cases hq; simp at hvb; omega))
  have T2 := hidD (cTree hk2 (RowAt.ofOwn ho2) (by simp))
  have K2 := hidD hk2
  clear D1 hk2 ho2 hg2
  go_wp2_with fail
  refine T2.out.mono ?_
  rintro e w3 ⟨v3, rfl, ho3, hb3⟩
  have J3 := hidD (cJournal (K2.out.below hb3 K2.out.lt))
  have B3 := hidD (B2.out.trans (hb3.mono B2.out.size))
  obtain ⟨g3, c3, hv3⟩ := own_some ho3 (by simp)
  subst hv3
  have q0 := ho3.cellAt 0 (by simp)
  have q1 := ho3.cellAt 1 (by simp)
  have q2 := ho3.cellAt 2 (by simp)
  have q3 := ho3.cellAt 3 (by simp)
  have q4 := ho3.cellAt 4 (by simp)
  clear T2 K2 ho3 hb3 B1 B2
  simp [flatE, EntD.cells, dirE] at q0 q1 q2 q3 q4
  go_wp2_with fail
  refine J3.out.mono ?_
  rintro e w4 ⟨rfl, rfl⟩
  go_wp2
  go_ret
  exact ⟨rfl, B3.out⟩
end Go.Proofs.YtehkdjdflgknnaaGreatDoor
