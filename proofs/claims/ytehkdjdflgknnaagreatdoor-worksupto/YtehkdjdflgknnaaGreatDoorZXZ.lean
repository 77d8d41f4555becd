/- The document's volume with an empty list that has an address: nothing is read of it. -/
import Derived.Test.YtehkdjdflgknnaaGreatDoorZHK
namespace Go.Proofs.YtehkdjdflgknnaaGreatDoor
open Go.RowKit
set_option linter.unusedVariables false
set_option linter.unusedSimpArgs false

section
variable {w : World} {vb : Nat} {p0 : Option Addr} {fold : Bool} {space : Int}

set_option maxHeartbeats 1000000 in
theorem refAt0 (hv : VolAt w vb (.slice p0 0 0) fold space) (p : ByteArray) :
    Calls Tryz.prog 51 #[.pointer (some ⟨vb, 0, none⟩), .string p] w fun e w' => e = .returned (.int .i64 (-1)) ∧ Below w.heap.size w w' := by
  have c0 := hv.c0
  go_enter Tryz.func51, Tryz.ntmps51
  go_wp2
  refine wp_loop_rounds 1 ?_
  rw [rounds_succ]
  go_wp2
  go_ret
  exact ⟨rfl, Below.refl _ _⟩
set_option maxHeartbeats 1000000 in
theorem refUsed0 (hv : VolAt w vb (.slice p0 0 0) fold space) :
    Calls Tryz.prog 33 #[.pointer (some ⟨vb, 0, none⟩)] w fun e w' => e = .returned (.int .i64 0) ∧ w' = w := by
  have c0 := hv.c0
  go_enter Tryz.func33, Tryz.ntmps33
  go_wp2
  refine wp_loop_rounds 1 ?_
  rw [rounds_succ]
  go_wp2
  go_ret
  exact ⟨rfl, rfl⟩
set_option maxHeartbeats 1000000 in
theorem refHeld0 (w : World) (p0 : Option Addr) (fold : Bool) :
    Calls Tryz.prog 38 #[.slice p0 0 0, .bool fold, .int .i64 120, .bool true] w fun e w' => e = .returned (.tuple #[.int .i64 0, .int .i64 0]) ∧ w' = w := by
  go_enter Tryz.func38, Tryz.ntmps38
  go_wp2
  refine wp_loop_rounds 1 ?_
  rw [rounds_succ]
  go_wp2
  go_ret2
  exact ⟨rfl, rfl⟩
set_option maxHeartbeats 2000000 in
theorem refPlace0 (hv : VolAt w vb (.slice p0 0 0) fold space) (p : ByteArray) (hp : p.size ≤ 1000000) :
    Calls Tryz.prog 71 #[.pointer (some ⟨vb, 0, none⟩), .string p] w fun e w' => e = .returned (.tuple #[.string (plAns fold [] p).1, .int .i64 (plAns fold [] p).2]) ∧ Below w.heap.size w w' := by
  have hps : (parentB p).size ≤ 1500000 := by have := parentB_small p; omega
  have HPA := hidD (fun u => refParent_any p u (by omega))
  by_cases h0 : ((parentB p).toList == []) = true
  · have hA := plAns_top (fold := fold) (L := []) (beq_iff_eq.1 h0)
    rw [hA]
    clear hA
    go_enter Tryz.func71, Tryz.ntmps71
    go_wp2_with (first | (go_at_call 79; refine (HPA.out _).mono ?_; rintro e w1 ⟨rfl, hb1⟩))
    go_ret2
    exact ⟨rfl, hb1⟩
  · have h0' : (parentB p).toList ≠ [] := fun h => h0 (beq_iff_eq.2 h)
    simp only [Bool.not_eq_true] at h0
    have HF := hidD (fun (u : World) (hu : Below w.heap.size w u) => refAt0 (hv.below hu hv.lt) (parentB p))
    have hA := plAns_none (fold := fold) (L := []) h0' rfl
    rw [hA]
    clear hA
    go_enter Tryz.func71, Tryz.ntmps71
    go_wp2_with (first | (go_at_call 79; refine (HPA.out _).mono ?_; rintro e w1 ⟨rfl, hb1⟩) | (go_at_call 51; refine (HF.out _ hb1).mono ?_; rintro e w2 ⟨rfl, hb2⟩))
    go_ret2
    exact ⟨rfl, hb1.trans (hb2.mono hb1.size)⟩
set_option maxHeartbeats 4000000 in
set_option maxRecDepth 100000 in
theorem refInsert0 (e : EntD) (w : World) (p0 : Option Addr) :
    Calls Tryz.prog 53 #[.slice p0 0 0, .agg #[.string e.path, .bool e.dir, .int .i64 e.id, .int .i64 e.size, .int .i64 e.mode]] w fun r w' => ∃ v, r = .returned v ∧ w'.ownsRow w.heap.size 75 5 v (insL e []).length (flatE (insL e [])) ∧ Below w.heap.size w w' := by
  obtain ⟨i0, hi, hz0, hz1, hz2⟩ := info_parts info75
  have ST : Hid (Eb w e (w.alloc (.cells #[.string e.path, .bool e.dir, .int .i64 e.id, .int .i64 e.size, .int .i64 e.mode] 75))) := Eb.start w e
  go_enter Tryz.func53, Tryz.ntmps53
  go_wp2
  refine wp_loop_rounds 1 ?_
  rw [rounds_succ]
  generalize w.alloc (.cells #[.string e.path, .bool e.dir, .int .i64 e.id, .int .i64 e.size, .int .i64 e.mode] 75) = w1 at *
  have k0 := ST.out.cell 0
  have k1 := ST.out.cell 1
  have k2 := ST.out.cell 2
  have k3 := ST.out.cell 3
  have k4 := ST.out.cell 4
  simp [EntD.cells] at k0 k1 k2 k3 k4
  have hsz := ST.out.bel.size
  go_wp2_with (at_builtin; go_loud (refine wpList_append_own _ rfl _ _ 22 rfl w.heap.size 75 i0 _ 5 48 Tryz.underlying22 hi hz0 hz1 hz2 rfl (by decide) (.slice none 0 0) 0 [] rfl (World.ownsRow_nil _ _ _ _) ⟨_, 0, none⟩ 1 1 (flatE [e]) rfl rfl (eb_new w1 e) (flatE_one _) (by unfold maxLen; omega) (by omega) (by simp only [World.size_alloc]; omega) ?_); intro v2 w2 hown2 hg2 _; obtain ⟨a2, n2, c2, hv2⟩ := own_shape hown2; subst hv2)
  go_ret
  refine ⟨_, rfl, ?_, ?_⟩
  · simpa [insL] using hown2
  · exact (ST.out.bel.alloc ST.out.bel.size _).grown hg2 (by simp only [World.size_alloc]; omega) (fun q hq => by simp [Value.ownBlock] at hq)

set_option maxHeartbeats 8000000 in
set_option maxRecDepth 100000 in
theorem refMake0_d (hk : Vk 65 w vb (.slice p0 0 0) fold space []) (p : ByteArray) (m : Int) (hp : p.size ≤ 1000000) :
    Calls Tryz.prog 50 #[.pointer (some ⟨vb, 0, none⟩), .agg #[.string p, .bool true, .int .i64 0, .int .i64 0, .int .i64 m]] w fun r w' => DoA 65 w vb fold space [] (mkL fold space [] ⟨p, true, 0, 0, m⟩) r w' := by
  have ST := hidD (Eb.start w ⟨p, true, 0, 0, m⟩)
  have HF := hidD (fun (u : World) (hu : Below w.heap.size w u) => refAt0 (hk.vol.below hu hk.lt) p)
  have HP := hidD (fun (u : World) (hu : Below w.heap.size w u) => refPlace0 (hk.vol.below hu hk.lt) p hp)
  have HV := hidD hk.vol
  have HK := hidD hk
  have hvlt := hk.lt
  have HM : Hid (mkL fold space [] ⟨p, true, 0, 0, m⟩ = match placeL fold [] p.data.toList with
    | none => .error 2
    | some t => .ok (insL ⟨ofL t, true, 0, 0, m⟩ [])) := by
    show mkL fold space [] ⟨p, true, 0, 0, m⟩ = _
    unfold mkL
    simp only [Bool.not_true, Bool.false_and, Bool.false_eq_true, if_false, List.any_nil, List.length_nil]
    rfl
  rw [HM.out]
  clear HM hk
  cases hpl2 : placeL fold [] p.data.toList with
  | none =>
    have hA : plAns fold [] p = (⟨#[]⟩, 2) := by simp only [plAns, hpl2]
    rw [hA] at HP
    unfold DoA
    go_enter Tryz.func50, Tryz.ntmps50
    go_wp2_with (first | (go_at_call 51; refine (HF.out _ ST.out.bel).mono ?_; rintro r w1 ⟨rfl, hb1⟩; have s1 := ST.out.below hb1; have k0 := s1.cell 0; simp [EntD.cells] at k0) | (go_at_call 71; refine (HP.out _ s1.bel).mono ?_; rintro r w2 ⟨rfl, hb2⟩; have s2 := s1.below hb2))
    go_ret
    exact ⟨rfl, s2.bel⟩
  | some t =>
    have hA : plAns fold [] p = (ofL t, 0) := by simp only [plAns, hpl2]
    rw [hA] at HP
    clear hA hpl2
    simp only
    generalize ofL t = pt at *
    have HI2 := hidD (fun (u : World) => refInsert0 ⟨pt, true, 0, 0, m⟩ u p0)
    dsimp only at HI2
    generalize insL ⟨pt, true, 0, 0, m⟩ [] = M at *
    unfold DoA
    go_enter Tryz.func50, Tryz.ntmps50
    go_wp2_with (first | (go_at_call 51; refine (HF.out _ ST.out.bel).mono ?_; rintro r w1 ⟨rfl, hb1⟩; have s1 := ST.out.below hb1; have k0 := s1.cell 0; simp [EntD.cells] at k0) | (go_at_call 71; refine (HP.out _ s1.bel).mono ?_; rintro r w2 ⟨rfl, hb2⟩; have s2 := s1.below hb2; have c0 := (HV.out.below s2.bel hvlt).c0))
    refine wp_loop_rounds 1 ?_
    rw [rounds_succ]
    have k1 := s2.cell 1
    have k2 := s2.cell 2
    have k3 := s2.cell 3
    simp [EntD.cells] at k1 k2 k3
    go_wp2
    go_quiet (fail)
    have s4 := s2.drewN nq
    generalize w2.drewN nq = u2 at *
    have f0 := eb_frozen s4 0
    have e0 := s4.cell 0
    simp [EntD.cells] at e0
    go_wp2
    have s3 := eb_set s4 pt
    generalize u2.setCell ⟨w.heap.size, 0, none⟩ (.string pt) = u3 at *
    have m0 := s3.cell 0
    have m1 := s3.cell 1
    have m2 := s3.cell 2
    have m3 := s3.cell 3
    have m4 := s3.cell 4
    simp [EntD.cells] at m0 m1 m2 m3 m4
    have g0 := (HV.out.below s3.bel hvlt).c0
    have fr := (HK.out.below s3.bel hvlt).frozen 0
    go_region_with (go_at_call 53; refine (HI2.out _).mono ?_; rintro r w5 ⟨v5, rfl, hown5, hb5⟩; obtain ⟨a5, n5, c5, hv5⟩ := own_shape hown5; subst hv5; have s5 := (s3.drewN 1).below hb5; have k5 := HK.out.below s5.bel hvlt; have h0 := k5.vol.c0; have fr5 := k5.frozen 0)
    all_goals go_wp2
    all_goals go_ret
    all_goals obtain ⟨q1, q2⟩ := k5.set (.slice a5 n5 c5)
    all_goals exact ⟨rfl, _, q1, own_set hvlt (own_mono hown5 s3.bel.size) q2, grown_of s5.bel q2⟩

set_option maxHeartbeats 8000000 in
set_option maxRecDepth 100000 in
theorem refMake0_f (hk : Vk 65 w vb (.slice p0 0 0) fold space []) (p : ByteArray) (q z m : Int) (hp : p.size ≤ 1000000) (hz0 : 0 ≤ z) (hz1 : z ≤ 100) :
    Calls Tryz.prog 50 #[.pointer (some ⟨vb, 0, none⟩), .agg #[.string p, .bool false, .int .i64 q, .int .i64 z, .int .i64 m]] w fun r w' => DoA 65 w vb fold space [] (mkL fold space [] ⟨p, false, q, z, m⟩) r w' := by
  have ST := hidD (Eb.start w ⟨p, false, q, z, m⟩)
  have HF := hidD (fun (u : World) (hu : Below w.heap.size w u) => refAt0 (hk.vol.below hu hk.lt) p)
  have HP := hidD (fun (u : World) (hu : Below w.heap.size w u) => refPlace0 (hk.vol.below hu hk.lt) p hp)
  have HUQ := hidD (fun (u : World) (hu : Below w.heap.size w u) => usedQ (refUsed0 (hk.vol.below hu hk.lt)))
  have HV := hidD hk.vol
  have HK := hidD hk
  have hvlt := hk.lt
  have HM : Hid (mkL fold space [] ⟨p, false, q, z, m⟩ = match placeL fold [] p.data.toList with
    | none => .error 2
    | some t => if space < 0 + z then .error 11 else .ok (insL ⟨ofL t, false, q, z, m⟩ [])) := by
    show mkL fold space [] ⟨p, false, q, z, m⟩ = _
    unfold mkL
    simp only [Bool.not_false, Bool.true_and, decide_eq_true_eq, List.any_nil, Bool.false_eq_true, if_false, List.length_nil]
    rfl
  rw [HM.out]
  clear HM hk
  cases hpl2 : placeL fold [] p.data.toList with
  | none =>
    have hA : plAns fold [] p = (⟨#[]⟩, 2) := by simp only [plAns, hpl2]
    rw [hA] at HP
    unfold DoA
    go_enter Tryz.func50, Tryz.ntmps50
    go_wp2_with (first | (go_at_call 51; refine (HF.out _ ST.out.bel).mono ?_; rintro r w1 ⟨rfl, hb1⟩; have s1 := ST.out.below hb1; have k0 := s1.cell 0; simp [EntD.cells] at k0) | (go_at_call 71; refine (HP.out _ s1.bel).mono ?_; rintro r w2 ⟨rfl, hb2⟩; have s2 := s1.below hb2))
    go_ret
    exact ⟨rfl, s2.bel⟩
  | some t =>
    have hA : plAns fold [] p = (ofL t, 0) := by simp only [plAns, hpl2]
    rw [hA] at HP
    clear hA hpl2
    simp only
    generalize ofL t = pt at *
    have HI2 := hidD (fun (u : World) => refInsert0 ⟨pt, false, q, z, m⟩ u p0)
    dsimp only at HI2
    generalize insL ⟨pt, false, q, z, m⟩ [] = M at *
    have hwr : IntKind.i64.wrap (0 + z) = 0 + z := by rw [IntKind.wrap_i64]; omega
    by_cases hf : space < 0 + z
    · rw [if_pos hf]
      unfold DoA
      go_enter Tryz.func50, Tryz.ntmps50
      go_wp2_with (first | (go_at_call 51; refine (HF.out _ ST.out.bel).mono ?_; rintro r w1 ⟨rfl, hb1⟩; have s1 := ST.out.below hb1; have k0 := s1.cell 0; simp [EntD.cells] at k0) | (go_at_call 71; refine (HP.out _ s1.bel).mono ?_; rintro r w2 ⟨rfl, hb2⟩; have s2 := s1.below hb2; have c0 := (HV.out.below s2.bel hvlt).c0))
      refine wp_loop_rounds 1 ?_
      rw [rounds_succ]
      have k1 := s2.cell 1
      have k2 := s2.cell 2
      have k3 := s2.cell 3
      simp [EntD.cells] at k1 k2 k3
      have c2 := (HV.out.below s2.bel hvlt).c2
      go_wp2
      go_quiet (first | (go_at_call 33; exact Calls.quiet_of (HUQ.out _ (s2.drewN _).bel)))
      go_wp2
      go_ret
      exact ⟨rfl, (s2.drewN _).bel⟩
    · rw [if_neg hf]
      unfold DoA
      go_enter Tryz.func50, Tryz.ntmps50
      go_wp2_with (first | (go_at_call 51; refine (HF.out _ ST.out.bel).mono ?_; rintro r w1 ⟨rfl, hb1⟩; have s1 := ST.out.below hb1; have k0 := s1.cell 0; simp [EntD.cells] at k0) | (go_at_call 71; refine (HP.out _ s1.bel).mono ?_; rintro r w2 ⟨rfl, hb2⟩; have s2 := s1.below hb2; have c0 := (HV.out.below s2.bel hvlt).c0))
      refine wp_loop_rounds 1 ?_
      rw [rounds_succ]
      have k1 := s2.cell 1
      have k2 := s2.cell 2
      have k3 := s2.cell 3
      simp [EntD.cells] at k1 k2 k3
      have c2 := (HV.out.below s2.bel hvlt).c2
      go_wp2
      go_quiet (first | (go_at_call 33; exact Calls.quiet_of (HUQ.out _ (s2.drewN _).bel)))
      have s4 := s2.drewN nq
      generalize w2.drewN nq = u2 at *
      have f0 := eb_frozen s4 0
      have e0 := s4.cell 0
      simp [EntD.cells] at e0
      go_wp2
      have s3 := eb_set s4 pt
      generalize u2.setCell ⟨w.heap.size, 0, none⟩ (.string pt) = u3 at *
      have m0 := s3.cell 0
      have m1 := s3.cell 1
      have m2 := s3.cell 2
      have m3 := s3.cell 3
      have m4 := s3.cell 4
      simp [EntD.cells] at m0 m1 m2 m3 m4
      have g0 := (HV.out.below s3.bel hvlt).c0
      have fr := (HK.out.below s3.bel hvlt).frozen 0
      go_region_with (go_at_call 53; refine (HI2.out _).mono ?_; rintro r w5 ⟨v5, rfl, hown5, hb5⟩; obtain ⟨a5, n5, c5, hv5⟩ := own_shape hown5; subst hv5; have s5 := (s3.drewN 1).below hb5; have k5 := HK.out.below s5.bel hvlt; have h0 := k5.vol.c0; have fr5 := k5.frozen 0)
      all_goals go_wp2
      all_goals go_ret
      all_goals obtain ⟨q1, q2⟩ := k5.set (.slice a5 n5 c5)
      all_goals exact ⟨rfl, _, q1, own_set hvlt (own_mono hown5 s3.bel.size) q2, grown_of s5.bel q2⟩

set_option maxHeartbeats 4000000 in
set_option maxRecDepth 100000 in
theorem refDo0_make (hk : Vk 65 w vb (.slice p0 0 0) fold space []) (o : OpD) (hg : OpGood o) (hs : o.path.size ≤ 1000) (h14 : o.kind = 1 ∨ o.kind = 4) :
    Calls Tryz.prog 34 #[.pointer (some ⟨vb, 0, none⟩), .agg #[.int .i64 o.kind, .string o.path, .string o.dest, .int .i64 o.id, .int .i64 o.size, .int .i64 o.mode]] w fun r w' => DoA 65 w vb fold space [] (doL fold space [] o) r w' := by
  have hf := hg.file
  have ST := hidD (Ob.start w o)
  rcases h14 with h1 | h1
  · have HM := hidD (fun (u : World) (hu : Below w.heap.size w u) => refMake0_d (hk.below hu hk.lt) o.path o.mode (by omega))
    rw [doL_mkdir h1]
    obtain ⟨kind, path, dest, id, size, mode⟩ := o
    dsimp only at *
    subst h1
    clear hk hg hf
    generalize mkL fold space [] ⟨path, true, 0, 0, mode⟩ = X at *
    go_enter Tryz.func34, Tryz.ntmps34
    go_wp2_with (go_at_call 50; refine (HM.out _ ST.out.bel).mono ?_; intro r w1 hd; obtain rfl := hd.ret)
    go_ret
    exact DoA.of_below ST.out.bel hd
  · obtain ⟨_, _, hz0, hz1⟩ := hf h1
    have HM := hidD (fun (u : World) (hu : Below w.heap.size w u) => refMake0_f (hk.below hu hk.lt) o.path o.id o.size o.mode (by omega) hz0 hz1)
    rw [doL_write h1]
    obtain ⟨kind, path, dest, id, size, mode⟩ := o
    dsimp only at *
    subst h1
    clear hk hg hf hz0 hz1
    generalize mkL fold space [] ⟨path, false, id, size, mode⟩ = X at *
    go_enter Tryz.func34, Tryz.ntmps34
    go_wp2_with (go_at_call 50; refine (HM.out _ ST.out.bel).mono ?_; intro r w1 hd; obtain rfl := hd.ret)
    go_ret
    exact DoA.of_below ST.out.bel hd

set_option maxHeartbeats 4000000 in
set_option maxRecDepth 100000 in
theorem refDo0_none (hv : VolAt w vb (.slice p0 0 0) fold space) (kind : Int) (path dest : ByteArray) (id size mode : Int) (hk : kind = 2 ∨ kind = 3 ∨ kind = 5 ∨ kind = 6 ∨ kind = 7) :
    Calls Tryz.prog 34 #[.pointer (some ⟨vb, 0, none⟩), .agg #[.int .i64 kind, .string path, .string dest, .int .i64 id, .int .i64 size, .int .i64 mode]] w fun r w' => DoA 65 w vb fold space [] (.error 9) r w' := by
  have ST := hidD (Ob.start w ⟨kind, path, dest, id, size, mode⟩)
  have HF := hidD (fun (u : World) (hu : Below w.heap.size w u) => refAt0 (hv.below hu hv.lt) path)
  clear hv
  unfold DoA
  rcases hk with rfl | rfl | rfl | rfl | rfl
  all_goals go_enter Tryz.func34, Tryz.ntmps34
  all_goals go_wp2_with (go_at_call 51; refine (HF.out _ ST.out.bel).mono ?_; rintro r w1 ⟨rfl, hb1⟩)
  all_goals go_ret
  all_goals exact ⟨rfl, (ST.out.below hb1).bel⟩

theorem refDo0 (hk : Vk 65 w vb (.slice p0 0 0) fold space []) (o : OpD) (hg : OpGood o) :
    Calls Tryz.prog 34 #[.pointer (some ⟨vb, 0, none⟩), .agg #[.int .i64 o.kind, .string o.path, .string o.dest, .int .i64 o.id, .int .i64 o.size, .int .i64 o.mode]] w fun r w' => DoA 65 w vb fold space [] (doL fold space [] o) r w' := by
  have hs : o.path.size ≤ 60 := by have := good_len hg.path; rwa [OpD.pl, lenD] at this
  have hkk := hg.kinds
  by_cases h14 : o.kind = 1 ∨ o.kind = 4
  · exact refDo0_make hk o hg (by omega) h14
  · have hK : o.kind = 2 ∨ o.kind = 3 ∨ o.kind = 5 ∨ o.kind = 6 ∨ o.kind = 7 := by omega
    have hd : doL fold space [] o = .error 9 := by
      unfold doL
      rw [if_neg (by omega), if_neg (by omega)]
      rfl
    rw [hd]
    exact refDo0_none hk.vol o.kind o.path o.dest o.id o.size o.mode hK
end
end Go.Proofs.YtehkdjdflgknnaaGreatDoor
