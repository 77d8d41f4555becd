/- IY, IZ: in one text. -/
import Derived.Test.YtpjjagalekolaaaGreatDoorP39
/- The draft of a plan: what stays is carried over. -/
namespace Go.Proofs.YtpjjagalekolaaaGreatDoor
open Go.RowKit
set_option linter.unusedVariables false
set_option linter.unusedSimpArgs false

theorem last91q (s : ByteArray) (w : World) (hs : s.size ≤ 2000000) : Calls Tryz.prog 152 #[.string s] w fun e w' => e = .returned (.string (lastB s)) ∧ ∃ m, w' = w.drewN m := (last91 s w hs).mono (by rintro e w' ⟨rfl, rfl⟩; exact ⟨rfl, 0, rfl⟩)
theorem lastB_iff {a b : EntD} : lastB a.path = lastB b.path ↔ lastL a.pl = lastL b.pl := by
  show _ ↔ lastL a.path.data.toList = lastL b.path.data.toList
  rw [← lastB_eq, ← lastB_eq]
  constructor
  · intro h; rw [h]
  · intro h
    have h' := Array.toList_inj.1 h
    cases ha : lastB a.path
    cases hb : lastB b.path
    rw [ha, hb] at h'
    simp only at h'
    rw [h']
set_option maxHeartbeats 16000000 in
set_option maxRecDepth 100000 in
theorem carryOverN {w0 u : World} {x : Dw} {s t : List EntD} {ms0 : List Mean} {lv0 cm0 : Nat → Option Nat} {fd md0 : Nat → List Nat} (h : DM w0 u x s t ms0 lv0 cm0 fd md0 0) (X : Xs w0 x s t) (MM : Mat x.fold s t x.to x.fr) (A : DA x.fold s t x.to x.fr ms0 lv0 cm0 md0 s.length 0 0 0 0) :
    Calls Tryz.prog 100 #[.pointer (some ⟨x.D, 0, none⟩)] u fun e w' => e = .returned (.tuple #[]) ∧ ∃ ms lv cm md, DM w0 w' x s t ms lv cm fd md s.length ∧ DA x.fold s t x.to x.fr ms lv cm md s.length s.length s.length 0 0 := by
  have XX := hidD X
  have XM := hidD MM
  have H := hidD h
  have A0 := hidD A
  obtain ⟨sa, sc, hsv⟩ := X.two.rs.val
  have c0 := h.d.1.cell 0 rfl
  rw [hsv] at c0
  have hls := X.two.ls
  have hlt := X.two.lt
  clear h X MM A
  go_enter Tryz.func100, Tryz.ntmps100
  go_wp2_with fail
  go_loopw [12] (fun iv wr => ∃ (i : Nat) (ms : List Mean) (lv cm : Nat → Option Nat) (md : Nat → List Nat), i ≤ s.length ∧ iv = .int .i64 i ∧ Hid (DM w0 wr x s t ms lv cm fd md i) ∧ Hid (DA x.fold s t x.to x.fr ms lv cm md s.length i i 0 0)) (fun iv _ => s.length - (intOf iv).toNat)
  case atStart => exact ⟨0, ms0, lv0, cm0, md0, Nat.zero_le _, rfl, H, A0⟩
  case round =>
    clear c0 H A0
    obtain ⟨i, ms, lv, cm, md, hi, rfl, M, A⟩ := hrel
    by_cases his : i < s.length
    · obtain ⟨bs, os, cs, ⟨ap, ad, ai, az, am⟩, hv, ho, hcells⟩ := XX.out.two.rs.ent his
      rw [hsv] at hv
      cases hv
      dsimp only at hcells
      obtain ⟨t0, t1, t2, t3, t4⟩ := hcells wr M.out.w
      have HA := hidD ho
      have BB := hidD (box_below wr #[.string ap, .bool ad, .int .i64 ai, .int .i64 az, .int .i64 am] 56)
      have XB := hidD (Blk.new wr 56 [.string ap, .bool ad, .int .i64 ai, .int .i64 az, .int .i64 am])
      have M1 := hidD (M.out.below BB.out)
      have hin : i < x.n := by rw [XX.out.n]; exact his
      have q3 := M1.out.d.1.cell 3 rfl
      have qa := M1.out.a.cell i (optV_get x.to x.n i hin)
      have his' : (i : Int) < (s.length : Int) := by omega
      have hin' : (i : Int) < (x.n : Int) := by omega
      have hms := A.out.bound (Nat.le_refl _) hi hi (Nat.zero_le _) (Nat.zero_le _) hls hlt
      clear hcells ho M
      cases hto : x.to i with
      | none =>
        rw [hto] at qa
        have o1 : optI none = -1 := rfl
        rw [o1] at qa
        have A2 := hidD (A.out.skip (c1' := i + 1) (c2' := i + 1) (Nat.le_refl _) (Nat.le_succ _) (Nat.le_succ _) (Nat.le_refl _) (Nat.le_refl _) (fun _ h _ _ => h) (fun i' j' _ _ h1 h2 _ _ _ => by
          by_cases e : i' = i
          · subst e; rw [hto] at h2; cases h2
          · omega) (fun i' j' _ _ h1 h2 _ _ _ => by
          by_cases e : i' = i
          · subst e; rw [hto] at h2; cases h2
          · omega) (fun _ _ _ _ h => h))
        have M1s := hidD (M1.out.mono (L' := i + 1) (by omega))
        clear o1 A hto
        go_wp2_with fail
        exact ⟨⟨i + 1, ms, lv, cm, md, by omega, by go_num, M1s, A2⟩, by simp [intOf]; omega⟩
      | some j =>
        rw [hto] at qa
        have o1 : optI (some j) = (j : Int) := rfl
        rw [o1] at qa
        have hjt : j < t.length := (XM.out.bs i j hto).2
        have hjm : j < x.m := by rw [XX.out.m]; exact hjt
        have hjt' : (j : Int) < (t.length : Int) := by omega
        have hjm' : (j : Int) < (x.m : Int) := by omega
        have hj0 : ((j : Int) == -1) = false := by simp
        obtain ⟨bt, ot, tc, ⟨bp, bd, bi, bz, bm⟩, htv, hob, hcellt⟩ := XX.out.two.rt.ent hjt
        dsimp only at hcellt
        obtain ⟨v0, v1, v2, v3, v4⟩ := hcellt _ M1.out.w
        have q1 := M1.out.d.1.cell 1 rfl
        rw [htv] at q1
        have HB := hidD hob
        have HT := hidD hto
        have BY := hidD (box_below (wr.alloc (.cells #[.string ap, .bool ad, .int .i64 ai, .int .i64 az, .int .i64 am] 56)) #[.string bp, .bool bd, .int .i64 bi, .int .i64 bz, .int .i64 bm] 56)
        have Y : Hid (Blk ((wr.alloc (.cells #[.string ap, .bool ad, .int .i64 ai, .int .i64 az, .int .i64 am] 56)).alloc (.cells #[.string bp, .bool bd, .int .i64 bi, .int .i64 bz, .int .i64 bm] 56)) (wr.heap.size + 1) 56 [.string bp, .bool bd, .int .i64 bi, .int .i64 bz, .int .i64 bm]) := by
          have := Blk.new (wr.alloc (.cells #[.string ap, .bool ad, .int .i64 ai, .int .i64 az, .int .i64 am] 56)) 56 [.string bp, .bool bd, .int .i64 bi, .int .i64 bz, .int .i64 bm]
          rw [World.size_alloc] at this
          exact this
        have X2 := hidD (XB.out.below BY.out)
        have M2 := hidD (M1.out.below BY.out)
        clear hcellt hob o1 hto
        go_wp2_with fail
        generalize ((wr.alloc (.cells #[.string ap, .bool ad, .int .i64 ai, .int .i64 az, .int .i64 am] 56)).alloc (.cells #[.string bp, .bool bd, .int .i64 bi, .int .i64 bz, .int .i64 bm] 56)) = u2 at *
        clear q3 qa q1 t0 t1 t2 t3 t4 v0 v1 v2 v3 v4 M1 XB BB BY
        have hap : ap.size ≤ 2000000 := by
          have := XX.out.two.ss.2 _ (getE HA.out)
          unfold EntD.small at this
          dsimp only at this
          omega
        have hbp : bp.size ≤ 2000000 := by
          have := XX.out.two.st.2 _ (getE HB.out)
          unfold EntD.small at this
          dsimp only at this
          omega
        have HMV := hidD (fun (v : World) (ms : List Mean) (lv cm : Nat → Option Nat) (md : Nat → List Nat) (L : Nat) (hv : DM w0 v x s t ms lv cm fd md L) => hv.moves XX.out HT.out HA.out HB.out)
        have ESM : Hid (∀ r, sameB x.fold (EntD.mk ap ad ai az am).pl (EntD.mk bp bd bi bz bm).pl = r → True) := fun _ _ => trivial
        have g0 := X2.out.cell 0 rfl
        have k0 := Y.out.cell 0 rfl
        have nXE : ¬ wr.heap.size = x.E := fun e => X2.out.ne M2.out.e (by decide) e
        have nEX : ¬ x.E = wr.heap.size := fun e => nXE e.symm
        have nYE : ¬ wr.heap.size + 1 = x.E := fun e => Y.out.ne M2.out.e (by decide) e
        have nEY : ¬ x.E = wr.heap.size + 1 := fun e => nYE e.symm
        have nXC : ¬ wr.heap.size = x.C := fun e => X2.out.ne M2.out.c (by decide) e
        have nYC : ¬ wr.heap.size + 1 = x.C := fun e => Y.out.ne M2.out.c (by decide) e
        have nDE : ¬ x.D = x.E := M2.out.ne.2.2
        have nED : ¬ x.E = x.D := fun e => nDE e.symm
        have nDC : ¬ x.D = x.C := M2.out.ne.2.1
        have nCD : ¬ x.C = x.D := fun e => nDC e.symm
        have nCE : ¬ x.C = x.E := M2.out.ne.1
        have nEC : ¬ x.E = x.C := fun e => nCE e.symm
        have HADD := hidD (fun (v : World) (hu : DM w0 v x s t ms lv cm fd md i) => hu.add hms (.ren i j) (k := 6) (p := ap) (q := bp) (id := 0) (sz := 0) (mo := 0) (by rw [opM, eg_at HA.out, eg_at HB.out]))
        have HAR := hidD (fun (lv' : Nat → Option Nat) (e : lv' = if sameB x.fold (EntD.mk ap ad ai az am).pl (EntD.mk bp bd bi bz bm).pl then lv else upN lv i (some ms.length)) (n : sameB x.fold (EntD.mk ap ad ai az am).pl (EntD.mk bp bd bi bz bm).pl = false ∨ lastL (EntD.mk ap ad ai az am).pl ≠ lastL (EntD.mk bp bd bi bz bm).pl) => A.out.ren XM.out (Nat.le_refl _) rfl HT.out HA.out HB.out e n)
        have HLI := hidD (lastB_iff (a := EntD.mk ap ad ai az am) (b := EntD.mk bp bd bi bz bm))
        have HSK := hidD (fun (h1 : sameB x.fold (EntD.mk ap ad ai az am).pl (EntD.mk bp bd bi bz bm).pl = true) (h2 : lastL (EntD.mk ap ad ai az am).pl = lastL (EntD.mk bp bd bi bz bm).pl) => A.out.skip (c1' := i + 1) (Nat.le_refl _) (Nat.le_succ _) (Nat.le_refl _) (Nat.le_refl _) (Nat.le_refl _) (fun _ h _ _ => h) (fun i' j' x' y' g1 g2 g3 g4 g5 => by
          by_cases e : i' = i
          · subst e
            rw [HT.out] at g2
            cases g2
            rw [HA.out] at g3
            rw [HB.out] at g4
            cases g3
            cases g4
            rcases g5 with g5 | g5
            · rw [h1] at g5; cases g5
            · exact absurd h2 g5
          · omega) (fun _ _ _ _ h _ _ _ _ => h) (fun _ _ _ _ h => h))
        clear ESM A
        cases hsm : sameB x.fold (EntD.mk ap ad ai az am).pl (EntD.mk bp bd bi bz bm).pl with
        | false =>
          rw [hsm] at HMV HAR
          simp only [Bool.not_false] at HMV
          clear HLI HSK hsm
          go_quiet (first | (go_at_call 151; exact Calls.quiet_of (HMV.out _ _ _ _ _ _ (M2.out.below (below_drewNB _ _)))))
          have M3 := hidD (M2.out.below (below_drewNB u2 nq))
          have X3 := hidD (X2.out.below (below_drewNB u2 nq))
          have Y3 := hidD (Y.out.below (below_drewNB u2 nq))
          generalize u2.drewN nq = u3 at *
          clear M2 X2 Y g0 k0
          go_wp2_with fail
          have h7 := M3.out.d.2.2
          have h0 := X3.out.cell 0 rfl
          have k0 := Y3.out.cell 0 rfl
          go_region_held3 (fun v => v.cell? ⟨x.D, 7, none⟩ = some (.slice (some ⟨x.E, 0, none⟩) x.m x.m) ∧ v.cell? ⟨wr.heap.size, 0, none⟩ = some (.string ap) ∧ v.cell? ⟨wr.heap.size + 1, 0, none⟩ = some (.string bp)) (go_keep) (first | (go_at_call 150; refine (HADD.out _ (M3.out.below (below_drewB u3))).mono ?_; rintro e u4 ⟨rfl, hM4, hF4⟩; have M4 := hidD hM4; have X4 := hidD (hF4 _ _ _ (X3.out.below (below_drewB u3)) (by decide) (by decide)); have Y4 := hidD (hF4 _ _ _ (Y3.out.below (below_drewB u3)) (by decide) (by decide)); have l7 := M4.out.d.2.2; have l0 := X4.out.cell 0 rfl; have m0 := Y4.out.cell 0 rfl; have lc := M4.out.e.cell j (optV_get cm x.m j hjm); have lf := M4.out.e.frozen j; clear hM4 hF4))
          have M5 : Hid (DM w0 (u4.setCell ⟨x.E, j, none⟩ (.int .i64 (ms.length : Int))) x s t (ms ++ [.ren i j]) lv (upN cm j (some ms.length)) fd md i) := M4.out.setE j (some ms.length) hjm
          have X5 := hidD (X4.out.other (b' := x.E) j (.int .i64 (ms.length : Int)) nXE)
          have Y5 := hidD (Y4.out.other (b' := x.E) j (.int .i64 (ms.length : Int)) nYE)
          generalize u4.setCell ⟨x.E, j, none⟩ (.int .i64 (ms.length : Int)) = u5 at *
          clear M3 X3 Y3 M4 X4 Y4 h7 h0 k0 l7 l0 m0 lc lf
          go_wp2_with fail
          refine (HMV.out _ _ _ _ _ _ M5.out).mono ?_
          rintro e u6 ⟨rfl, nm, hu6⟩
          have hb6 : Below u5.heap.size u5 u6 := by rw [hu6]; exact below_drewNB _ _
          have M6 := hidD (M5.out.below hb6)
          have X6 := hidD (X5.out.below hb6)
          have Y6 := hidD (Y5.out.below hb6)
          clear hu6 hb6 M5 X5 Y5
          have p6 := M6.out.d.2.1
          have p7 := M6.out.d.2.2
          have pe := M6.out.e.cell j (optV_get _ x.m j hjm)
          rw [upN_at] at pe
          have o2 : optI (some ms.length) = (ms.length : Int) := rfl
          rw [o2] at pe
          have pc := M6.out.c.cell i (optV_get _ x.n i hin)
          have pf := M6.out.c.frozen i
          go_wp2_with fail
          go_region_held3 (fun v => v.cell? ⟨x.D, 6, none⟩ = some (.slice (some ⟨x.C, 0, none⟩) x.n x.n) ∧ v.cell? ⟨x.D, 7, none⟩ = some (.slice (some ⟨x.E, 0, none⟩) x.m x.m) ∧ v.cell? ⟨x.E, j, none⟩ = some (.int .i64 (ms.length : Int))) (go_keep) (first | fail)
          have M7 : Hid (DM w0 (u6.setCell ⟨x.C, i, none⟩ (.int .i64 (ms.length : Int))).drew x s t (ms ++ [.ren i j]) (upN lv i (some ms.length)) (upN cm j (some ms.length)) fd md i) := (M6.out.setC i (some ms.length) hin).below (below_drewB _)
          have X7 := hidD ((X6.out.other (b' := x.C) i (.int .i64 (ms.length : Int)) nXC).below (below_drewB _))
          have Y7 := hidD ((Y6.out.other (b' := x.C) i (.int .i64 (ms.length : Int)) nYC).below (below_drewB _))
          have A7 := hidD (HAR.out (upN lv i (some ms.length)) (by simp) (by first | exact .inl rfl | exact .inl trivial | exact trivial | simp))
          generalize (u6.setCell ⟨x.C, i, none⟩ (.int .i64 (ms.length : Int))).drew = u7 at *
          rename_i hH
          clear hH
          generalize upN cm j (some ms.length) = CM at *
          generalize upN lv i (some ms.length) = LV at *
          clear HAR HADD M6 X6 Y6 p6 p7 pe pc pf o2 HMV
          generalize ms ++ [Mean.ren i j] = MS at *
          have hmsT := A7.out.bound (Nat.le_refl _) (by omega) hi (Nat.zero_le _) (Nat.zero_le _) hls hlt
          have x4 := X7.out.cell 4 rfl
          have y4 := Y7.out.cell 4 rfl
          by_cases hmo : am = bm
          · have A8 := hidD (A7.out.skip (c2' := i + 1) (Nat.le_refl _) (Nat.le_refl _) (Nat.le_succ _) (Nat.le_refl _) (Nat.le_refl _) (fun _ h _ _ => h) (fun _ _ _ _ h _ _ _ _ => h) (fun i' j' x' y' g1 g2 g3 g4 g5 => by
              by_cases e : i' = i
              · subst e
                rw [HT.out] at g2
                cases g2
                rw [HA.out] at g3
                rw [HB.out] at g4
                cases g3
                cases g4
                exact absurd hmo g5
              · omega) (fun _ _ _ _ h => h))
            have M8 := hidD (M7.out.mono (L' := i + 1) (by omega))
            subst hmo
            clear A7
            go_wp2_with fail
            exact ⟨⟨i + 1, MS, LV, CM, md, by omega, by go_num, M8, A8⟩, by simp [intOf]; omega⟩
          · have hmo1 : (am != bm) = true := by simp [hmo]
            have A8 := hidD (A7.out.chm XM.out HT.out HA.out HB.out hmo)
            have HADC := hidD (fun (v : World) (hu : DM w0 v x s t MS LV CM fd md i) => hu.add hmsT (.chm i j) (k := 7) (p := bp) (q := ⟨#[]⟩) (id := 0) (sz := 0) (mo := bm) (by rw [opM, eg_at HB.out]))
            have HWM := hidD (fun (v : World) (hu : DM w0 v x s t (MS ++ [.chm i j]) LV CM fd md i) => hu.waitM (A8.out.bound (Nat.le_refl _) (by omega) (by omega) (Nat.zero_le _) (Nat.zero_le _) hls hlt) (by omega) (k := MS.length) (by simp) (CM j) (A8.out.cmlt j))
            have y0 := Y7.out.cell 0 rfl
            have p7 := M7.out.d.2.2
            have pe := M7.out.e.cell j (optV_get _ x.m j hjm)
            have OC : Hid (∃ oc, CM j = oc) := ⟨_, rfl⟩
            obtain ⟨oc, hoc⟩ := OC.out
            have HOC := hidD hoc
            rw [hoc] at pe HWM A8
            clear hoc OC A7 hmo
            go_wp2_with fail
            go_region_held3 (fun v => v.cell? ⟨x.D, 7, none⟩ = some (.slice (some ⟨x.E, 0, none⟩) x.m x.m) ∧ v.cell? ⟨x.E, j, none⟩ = some (.int .i64 (optI oc)) ∧ v.cell? ⟨wr.heap.size + 1, 0, none⟩ = some (.string bp) ∧ v.cell? ⟨wr.heap.size + 1, 4, none⟩ = some (.int .i64 bm)) (go_keep) (first | (go_at_call 150; refine (HADC.out _ (M7.out.below (below_drewB u7))).mono ?_; rintro e u8 ⟨rfl, hM8, hF8⟩; have M8 := hidD hM8; have Y8 := hidD (hF8 _ _ _ (Y7.out.below (below_drewB u7)) (by decide) (by decide)); have l7 := M8.out.d.2.2; have le := M8.out.e.cell j (optV_get _ x.m j hjm); rw [HOC.out] at le; have l0 := Y8.out.cell 0 rfl; have l4 := Y8.out.cell 4 rfl; clear hM8 hF8) | (go_at_call 153; refine (HWM.out _ M8.out).mono ?_; rintro e u9 ⟨rfl, hM9, hF9⟩; have M9 := hidD hM9; have Y9 := hidD (hF9 _ _ _ Y8.out (by decide) (by decide)); have n7 := M9.out.d.2.2; have ne9 := M9.out.e.cell j (optV_get _ x.m j hjm); rw [HOC.out] at ne9; have n0 := Y9.out.cell 0 rfl; have n4 := Y9.out.cell 4 rfl; clear hM9 hF9))
            go_wp2_with fail
            exact ⟨⟨i + 1, _, _, _, _, by omega, by go_num, M9, A8⟩, by simp [intOf]; omega⟩
        | true =>
          rw [hsm] at HMV HAR
          simp only [Bool.not_true] at HMV
          by_cases hll : lastB ap = lastB bp
          · have A7 := hidD (HSK.out hsm (HLI.out.1 hll))
            clear HLI HSK hsm HAR HADD
            have HL1 := hidD (fun (w : World) => last91q ap w hap)
            have HL2 := hidD (fun (w : World) => last91q bp w hbp)
            rw [hll] at HL1
            clear hll
            go_quiet (first | (go_at_call 151; exact Calls.quiet_of (HMV.out _ _ _ _ _ _ (M2.out.below (below_drewNB _ _)))) | (go_at_call 152; exact Calls.quiet_of (HL1.out _)) | (go_at_call 152; exact Calls.quiet_of (HL2.out _)))
            have M3 := hidD (M2.out.below (below_drewNB u2 nq))
            have X3 := hidD (X2.out.below (below_drewNB u2 nq))
            have Y3 := hidD (Y.out.below (below_drewNB u2 nq))
            generalize u2.drewN nq = u3 at *
            clear M2 X2 Y g0 k0 HL1 HL2
            go_wp2_with fail
            refine (HMV.out _ _ _ _ _ _ M3.out).mono ?_
            rintro e u7 ⟨rfl, nm, hu7⟩
            have hb7 : Below u3.heap.size u3 u7 := by rw [hu7]; exact below_drewNB _ _
            have M7 := hidD (M3.out.below hb7)
            have X7 := hidD (X3.out.below hb7)
            have Y7 := hidD (Y3.out.below hb7)
            clear hu7 hb7 M3 X3 Y3 HMV
            have hmsT := A7.out.bound (Nat.le_refl _) (by omega) hi (Nat.zero_le _) (Nat.zero_le _) hls hlt
            have x4 := X7.out.cell 4 rfl
            have y4 := Y7.out.cell 4 rfl
            by_cases hmo : am = bm
            · have A8 := hidD (A7.out.skip (c2' := i + 1) (Nat.le_refl _) (Nat.le_refl _) (Nat.le_succ _) (Nat.le_refl _) (Nat.le_refl _) (fun _ h _ _ => h) (fun _ _ _ _ h _ _ _ _ => h) (fun i' j' x' y' g1 g2 g3 g4 g5 => by
                by_cases e : i' = i
                · subst e
                  rw [HT.out] at g2
                  cases g2
                  rw [HA.out] at g3
                  rw [HB.out] at g4
                  cases g3
                  cases g4
                  exact absurd hmo g5
                · omega) (fun _ _ _ _ h => h))
              have M8 := hidD (M7.out.mono (L' := i + 1) (by omega))
              subst hmo
              clear A7
              go_wp2_with fail
              exact ⟨⟨i + 1, ms, lv, cm, md, by omega, by go_num, M8, A8⟩, by simp [intOf]; omega⟩
            · have hmo1 : (am != bm) = true := by simp [hmo]
              have A8 := hidD (A7.out.chm XM.out HT.out HA.out HB.out hmo)
              have HADC := hidD (fun (v : World) (hu : DM w0 v x s t ms lv cm fd md i) => hu.add hmsT (.chm i j) (k := 7) (p := bp) (q := ⟨#[]⟩) (id := 0) (sz := 0) (mo := bm) (by rw [opM, eg_at HB.out]))
              have HWM := hidD (fun (v : World) (hu : DM w0 v x s t (ms ++ [.chm i j]) lv cm fd md i) => hu.waitM (A8.out.bound (Nat.le_refl _) (by omega) (by omega) (Nat.zero_le _) (Nat.zero_le _) hls hlt) (by omega) (k := ms.length) (by simp) (cm j) (A8.out.cmlt j))
              have y0 := Y7.out.cell 0 rfl
              have p7 := M7.out.d.2.2
              have pe := M7.out.e.cell j (optV_get _ x.m j hjm)
              have OC : Hid (∃ oc, cm j = oc) := ⟨_, rfl⟩
              obtain ⟨oc, hoc⟩ := OC.out
              have HOC := hidD hoc
              rw [hoc] at pe HWM A8
              clear hoc OC A7 hmo
              go_wp2_with fail
              go_region_held3 (fun v => v.cell? ⟨x.D, 7, none⟩ = some (.slice (some ⟨x.E, 0, none⟩) x.m x.m) ∧ v.cell? ⟨x.E, j, none⟩ = some (.int .i64 (optI oc)) ∧ v.cell? ⟨wr.heap.size + 1, 0, none⟩ = some (.string bp) ∧ v.cell? ⟨wr.heap.size + 1, 4, none⟩ = some (.int .i64 bm)) (go_keep) (first | (go_at_call 150; refine (HADC.out _ (M7.out.below (below_drewB u7))).mono ?_; rintro e u8 ⟨rfl, hM8, hF8⟩; have M8 := hidD hM8; have Y8 := hidD (hF8 _ _ _ (Y7.out.below (below_drewB u7)) (by decide) (by decide)); have l7 := M8.out.d.2.2; have le := M8.out.e.cell j (optV_get _ x.m j hjm); rw [HOC.out] at le; have l0 := Y8.out.cell 0 rfl; have l4 := Y8.out.cell 4 rfl; clear hM8 hF8) | (go_at_call 153; refine (HWM.out _ M8.out).mono ?_; rintro e u9 ⟨rfl, hM9, hF9⟩; have M9 := hidD hM9; have Y9 := hidD (hF9 _ _ _ Y8.out (by decide) (by decide)); have n7 := M9.out.d.2.2; have ne9 := M9.out.e.cell j (optV_get _ x.m j hjm); rw [HOC.out] at ne9; have n0 := Y9.out.cell 0 rfl; have n4 := Y9.out.cell 4 rfl; clear hM9 hF9))
              go_wp2_with fail
              exact ⟨⟨i + 1, _, _, _, _, by omega, by go_num, M9, A8⟩, by simp [intOf]; omega⟩
          · have hll1 : ((lastB ap).toList == (lastB bp).toList) = false := by
              cases hb : ((lastB ap).toList == (lastB bp).toList) with
              | false => rfl
              | true =>
                exfalso
                refine hll ?_
                have h1 := eq_of_beq hb
                rw [ba_toList, ba_toList] at h1
                have h' := Array.toList_inj.1 h1
                cases ha : lastB ap
                cases hb : lastB bp
                rw [ha, hb] at h'
                simp only at h'
                rw [h']
            have hll2 : ¬ lastB ap = lastB bp := hll
            have HNL := hidD (fun e => hll (HLI.out.2 e))
            have hll3 : ¬ (lastB ap).toList = (lastB bp).toList := by simpa using hll1
            clear HLI HSK hsm
            have HL1 := hidD (fun (w : World) => last91q ap w hap)
            have HL2 := hidD (fun (w : World) => last91q bp w hbp)
            generalize lastB ap = la at *
            generalize lastB bp = lb at *
            go_quiet (first | (go_at_call 151; exact Calls.quiet_of (HMV.out _ _ _ _ _ _ (M2.out.below (below_drewNB _ _)))) | (go_at_call 152; exact Calls.quiet_of (HL1.out _)) | (go_at_call 152; exact Calls.quiet_of (HL2.out _)))
            have M3 := hidD (M2.out.below (below_drewNB u2 nq))
            have X3 := hidD (X2.out.below (below_drewNB u2 nq))
            have Y3 := hidD (Y.out.below (below_drewNB u2 nq))
            generalize u2.drewN nq = u3 at *
            clear M2 X2 Y g0 k0 HL1 HL2
            go_wp2_with fail
            have h7 := M3.out.d.2.2
            have h0 := X3.out.cell 0 rfl
            have k0 := Y3.out.cell 0 rfl
            go_region_held3 (fun v => v.cell? ⟨x.D, 7, none⟩ = some (.slice (some ⟨x.E, 0, none⟩) x.m x.m) ∧ v.cell? ⟨wr.heap.size, 0, none⟩ = some (.string ap) ∧ v.cell? ⟨wr.heap.size + 1, 0, none⟩ = some (.string bp)) (go_keep) (first | (go_at_call 150; refine (HADD.out _ (M3.out.below (below_drewB u3))).mono ?_; rintro e u4 ⟨rfl, hM4, hF4⟩; have M4 := hidD hM4; have X4 := hidD (hF4 _ _ _ (X3.out.below (below_drewB u3)) (by decide) (by decide)); have Y4 := hidD (hF4 _ _ _ (Y3.out.below (below_drewB u3)) (by decide) (by decide)); have l7 := M4.out.d.2.2; have l0 := X4.out.cell 0 rfl; have m0 := Y4.out.cell 0 rfl; have lc := M4.out.e.cell j (optV_get cm x.m j hjm); have lf := M4.out.e.frozen j; clear hM4 hF4))
            have M5 : Hid (DM w0 (u4.setCell ⟨x.E, j, none⟩ (.int .i64 (ms.length : Int))) x s t (ms ++ [.ren i j]) lv (upN cm j (some ms.length)) fd md i) := M4.out.setE j (some ms.length) hjm
            have X5 := hidD (X4.out.other (b' := x.E) j (.int .i64 (ms.length : Int)) nXE)
            have Y5 := hidD (Y4.out.other (b' := x.E) j (.int .i64 (ms.length : Int)) nYE)
            generalize u4.setCell ⟨x.E, j, none⟩ (.int .i64 (ms.length : Int)) = u5 at *
            clear M3 X3 Y3 M4 X4 Y4 h7 h0 k0 l7 l0 m0 lc lf
            have A7 := hidD (HAR.out lv (by simp) (.inr HNL.out))
            rename_i hH
            clear hH HAR HADD
            go_wp2_with fail
            refine (HMV.out _ _ _ _ _ _ M5.out).mono ?_
            rintro e u7 ⟨rfl, nm, hu7⟩
            have hb7 : Below u5.heap.size u5 u7 := by rw [hu7]; exact below_drewNB _ _
            have M7 := hidD (M5.out.below hb7)
            have X7 := hidD (X5.out.below hb7)
            have Y7 := hidD (Y5.out.below hb7)
            clear hu7 hb7 M5 X5 Y5 HMV
            generalize upN cm j (some ms.length) = CM at *
            generalize ms ++ [Mean.ren i j] = MS at *
            have hmsT := A7.out.bound (Nat.le_refl _) (by omega) hi (Nat.zero_le _) (Nat.zero_le _) hls hlt
            have x4 := X7.out.cell 4 rfl
            have y4 := Y7.out.cell 4 rfl
            by_cases hmo : am = bm
            · have A8 := hidD (A7.out.skip (c2' := i + 1) (Nat.le_refl _) (Nat.le_refl _) (Nat.le_succ _) (Nat.le_refl _) (Nat.le_refl _) (fun _ h _ _ => h) (fun _ _ _ _ h _ _ _ _ => h) (fun i' j' x' y' g1 g2 g3 g4 g5 => by
                by_cases e : i' = i
                · subst e
                  rw [HT.out] at g2
                  cases g2
                  rw [HA.out] at g3
                  rw [HB.out] at g4
                  cases g3
                  cases g4
                  exact absurd hmo g5
                · omega) (fun _ _ _ _ h => h))
              have M8 := hidD (M7.out.mono (L' := i + 1) (by omega))
              subst hmo
              clear A7
              go_wp2_with fail
              exact ⟨⟨i + 1, MS, lv, CM, md, by omega, by go_num, M8, A8⟩, by simp [intOf]; omega⟩
            · have hmo1 : (am != bm) = true := by simp [hmo]
              have A8 := hidD (A7.out.chm XM.out HT.out HA.out HB.out hmo)
              have HADC := hidD (fun (v : World) (hu : DM w0 v x s t MS lv CM fd md i) => hu.add hmsT (.chm i j) (k := 7) (p := bp) (q := ⟨#[]⟩) (id := 0) (sz := 0) (mo := bm) (by rw [opM, eg_at HB.out]))
              have HWM := hidD (fun (v : World) (hu : DM w0 v x s t (MS ++ [.chm i j]) lv CM fd md i) => hu.waitM (A8.out.bound (Nat.le_refl _) (by omega) (by omega) (Nat.zero_le _) (Nat.zero_le _) hls hlt) (by omega) (k := MS.length) (by simp) (CM j) (A8.out.cmlt j))
              have y0 := Y7.out.cell 0 rfl
              have p7 := M7.out.d.2.2
              have pe := M7.out.e.cell j (optV_get _ x.m j hjm)
              have OC : Hid (∃ oc, CM j = oc) := ⟨_, rfl⟩
              obtain ⟨oc, hoc⟩ := OC.out
              have HOC := hidD hoc
              rw [hoc] at pe HWM A8
              clear hoc OC A7 hmo
              go_wp2_with fail
              go_region_held3 (fun v => v.cell? ⟨x.D, 7, none⟩ = some (.slice (some ⟨x.E, 0, none⟩) x.m x.m) ∧ v.cell? ⟨x.E, j, none⟩ = some (.int .i64 (optI oc)) ∧ v.cell? ⟨wr.heap.size + 1, 0, none⟩ = some (.string bp) ∧ v.cell? ⟨wr.heap.size + 1, 4, none⟩ = some (.int .i64 bm)) (go_keep) (first | (go_at_call 150; refine (HADC.out _ (M7.out.below (below_drewB u7))).mono ?_; rintro e u8 ⟨rfl, hM8, hF8⟩; have M8 := hidD hM8; have Y8 := hidD (hF8 _ _ _ (Y7.out.below (below_drewB u7)) (by decide) (by decide)); have l7 := M8.out.d.2.2; have le := M8.out.e.cell j (optV_get _ x.m j hjm); rw [HOC.out] at le; have l0 := Y8.out.cell 0 rfl; have l4 := Y8.out.cell 4 rfl; clear hM8 hF8) | (go_at_call 153; refine (HWM.out _ M8.out).mono ?_; rintro e u9 ⟨rfl, hM9, hF9⟩; have M9 := hidD hM9; have Y9 := hidD (hF9 _ _ _ Y8.out (by decide) (by decide)); have n7 := M9.out.d.2.2; have ne9 := M9.out.e.cell j (optV_get _ x.m j hjm); rw [HOC.out] at ne9; have n0 := Y9.out.cell 0 rfl; have n4 := Y9.out.cell 4 rfl; clear hM9 hF9))
              go_wp2_with fail
              exact ⟨⟨i + 1, _, _, _, _, by omega, by go_num, M9, A8⟩, by simp [intOf]; omega⟩
    · have hie : i = s.length := by omega
      subst hie
      go_wp2_with fail
      refine bodyPost_end (results_none rfl _ _ _) rfl ?_
      exact ⟨rfl, ms, lv, cm, md, M.out, A.out⟩
end Go.Proofs.YtpjjagalekolaaaGreatDoor

/- The draft of a plan: directories go behind what is in them. -/
namespace Go.Proofs.YtpjjagalekolaaaGreatDoor
open Go.RowKit
set_option linter.unusedVariables false
set_option linter.unusedSimpArgs false

theorem same_false {p q : BL} : sameB false p q = true ↔ p = q := by simp [sameB]
theorem par_find {w0 : World} {v : Value} {l : List EntD} (hr : RowAt w0 v l) (hs : SmallL l) {op : ByteArray} (hp : op.size ≤ 1500000) : ∃ r : Option Nat, (∀ u : World, Below w0.heap.size w0 u → Calls Tryz.prog 155 #[v, .string (parentB op), .bool false] u fun e u' => e = .returned (.int .i64 (optI r)) ∧ Below u.heap.size u u') ∧ ((r = none ∧ ∀ (q : Nat) (a : EntD), l[q]? = some a → parentL op.data.toList ≠ a.pl) ∨ ∃ (q : Nat) (a : EntD), r = some q ∧ l[q]? = some a ∧ parentL op.data.toList = a.pl) := by
  obtain ⟨r, h1, h2⟩ := fst_opt false l (parentB op).data.toList
  refine ⟨r, ?_, ?_⟩
  · rw [← h1]
    exact tfind hr hs (parentB op) (Nat.le_trans (parentB_small op) hp) false
  · rw [parentB_eq] at h2
    rcases h2 with ⟨h3, h4⟩ | ⟨q, a, h3, h4, h5⟩
    · refine .inl ⟨h3, fun q a ha e => ?_⟩
      have := h4 q a ha
      rw [same_false.2 e.symm] at this
      cases this
    · exact .inr ⟨q, a, h3, h4, (same_false.1 h5).symm⟩

set_option maxHeartbeats 8000000 in
set_option maxRecDepth 100000 in
theorem waitForEmptyN {w0 u : World} {x : Dw} {s t : List EntD} {ms : List Mean} {lv cm : Nat → Option Nat} {md : Nat → List Nat} {L : Nat} (h : DM w0 u x s t ms lv cm (fun _ => []) md L) (X : Xs w0 x s t) (PP : Pair x.fold s t) (A : DB x.fold s t x.to x.fr ms lv cm (fun _ => []) md 0 0 0) (hL : L ≤ 120) (hN : ms.length ≤ 180) :
    Calls Tryz.prog 103 #[.pointer (some ⟨x.D, 0, none⟩)] u fun e w' => e = .returned (.tuple #[]) ∧ ∃ fd, DM w0 w' x s t ms lv cm fd md (L + s.length) ∧ DB x.fold s t x.to x.fr ms lv cm fd md s.length 0 0 := by
  have XX := hidD X
  have XP := hidD PP
  have H := hidD h
  have A0 := hidD A
  have HLT := hidD A.lvlt
  obtain ⟨sa, sc, hsv⟩ := X.two.rs.val
  have c0 := h.d.1.cell 0 rfl
  rw [hsv] at c0
  have hls := X.two.ls
  have hlt := X.two.lt
  clear h X PP A
  go_enter Tryz.func103, Tryz.ntmps103
  go_wp2_with fail
  go_loopw [11] (fun iv wr => ∃ (i : Nat) (fd : Nat → List Nat), i ≤ s.length ∧ iv = .int .i64 i ∧ Hid (DM w0 wr x s t ms lv cm fd md (L + i)) ∧ Hid (DB x.fold s t x.to x.fr ms lv cm fd md i 0 0)) (fun iv _ => s.length - (intOf iv).toNat)
  case atStart => exact ⟨0, _, Nat.zero_le _, rfl, H, A0⟩
  case round =>
    clear c0 H A0
    obtain ⟨i, fd, hi, rfl, M, A⟩ := hrel
    by_cases his : i < s.length
    · obtain ⟨bs, os, cs, ⟨op, od, oi, oz, om⟩, hv, ho, hcells⟩ := XX.out.two.rs.ent his
      rw [hsv] at hv
      cases hv
      dsimp only at hcells
      obtain ⟨t0, t1, t2, t3, t4⟩ := hcells wr M.out.w
      have hsm : op.size ≤ 1500000 := XX.out.two.ss.2 _ (getE ho)
      have HO := hidD ho
      have BB := hidD (box_below wr #[.string op, .bool od, .int .i64 oi, .int .i64 oz, .int .i64 om] 56)
      have XB := hidD (Blk.new wr 56 [.string op, .bool od, .int .i64 oi, .int .i64 oz, .int .i64 om])
      have M1 := hidD (M.out.below BB.out)
      have hin : i < x.n := by rw [XX.out.n]; exact his
      have his' : (i : Int) < (s.length : Int) := by omega
      have hin' : (i : Int) < (x.n : Int) := by omega
      obtain ⟨r, hr1, hr2⟩ := par_find XX.out.two.rs XX.out.two.ss hsm
      rw [hsv] at hr1
      have HF := hidD hr1
      have HR := hidD hr2
      have HPA := hidD (fun (w : World) => parent_any op w (by omega) (lastIdx_le op))
      have q0 := M1.out.d.1.cell 0 rfl
      rw [hsv] at q0
      have y0 := XB.out.cell 0 rfl
      clear hcells ho M hr1 hr2
      go_wp2_with fail
      generalize wr.alloc (.cells #[.string op, .bool od, .int .i64 oi, .int .i64 oz, .int .i64 om] 56) = u1 at *
      go_region_held3 (fun v => v.cell? ⟨x.D, 0, none⟩ = some (.slice (some ⟨bs, os, none⟩) s.length sc) ∧ v.cell? ⟨wr.heap.size, 0, none⟩ = some (.string op)) (go_keep) (first | (go_at_call 156; refine (HPA.out _).mono ?_; rintro e z ⟨rfl, hz⟩; rw [hz]; clear hz z) | (go_at_call 155; refine (HF.out _ (M1.out.below (below_drewB u1)).w).mono ?_; rintro e w1 ⟨rfl, hb⟩; have HB2 : Hid (Below u1.heap.size u1 w1) := (below_drewB u1).trans hb; have X2 := hidD (XB.out.below HB2.out); have M2 := hidD (M1.out.below HB2.out); have z0 := M2.out.d.1.cell 0 rfl; rw [hsv] at z0; have z1 := X2.out.cell 0 rfl; clear hb))
      rename_i hH
      clear hH M1 XB BB t0 t1 t2 t3 t4 q0 y0
      have M2s := hidD (M2.out.mono (L' := L + (i + 1)) (by omega))
      rcases HR.out with ⟨rfl, hno⟩ | ⟨q, a, rfl, ha, hpa⟩
      · have A2 := hidD (A.out.skipE (fun q a c y g1 g2 g3 g4 => by
          rw [HO.out] at g2
          cases g2
          exact hno q a g1 g3))
        have o1 : optI none = -1 := rfl
        rw [o1]
        clear A hno HR o1
        go_wp2_with fail
        exact ⟨⟨i + 1, fd, by omega, by go_num, M2s, A2⟩, by simp [intOf]; omega⟩
      · have o1 : optI (some q) = (q : Int) := rfl
        rw [o1]
        have hqs : q < s.length := (List.getElem?_eq_some_iff.1 ha).1
        have hqn : q < x.n := by rw [XX.out.n]; exact hqs
        have hqn' : (q : Int) < (x.n : Int) := by omega
        have hq0 : ((q : Int) != -1) = true := by simp
        have q6 := M2.out.d.2.1
        have qc := M2.out.c.cell q (optV_get lv x.n q hqn)
        have HQA := hidD ha
        cases hlq : lv q with
        | none =>
          have A2 := hidD (A.out.skipE (fun q' a' c y g1 g2 g3 g4 => by
            rw [HO.out] at g2
            cases g2
            have := idx_one XP.out.vs g1 HQA.out (by rw [← g3, ← hpa]; exact sameB_refl _ _)
            subst this
            rw [hlq] at g4
            cases g4))
          rw [hlq] at qc
          have o2 : optI none = -1 := rfl
          rw [o2] at qc
          clear A HR o1 o2 hpa hlq
          go_wp2_with fail
          exact ⟨⟨i + 1, fd, by omega, by go_num, M2s, A2⟩, by simp [intOf]; omega⟩
        | some y =>
          have A2 := hidD (A.out.goE XP.out.vs HQA.out HO.out hpa hlq)
          have hy := HLT.out.1 q y hlq
          rw [hlq] at qc
          have o2 : optI (some y) = (y : Int) := rfl
          rw [o2] at qc
          have hy0 : ((y : Int) != -1) = true := by simp
          have qi := M2.out.c.cell i (optV_get lv x.n i hin)
          have HW := hidD (fun (v : World) (hv : DM w0 v x s t ms lv cm fd md (L + i)) => hv.waitF hN (by omega) hy (lv i) (HLT.out.1 i))
          obtain ⟨ol, hol⟩ : ∃ ol, lv i = ol := ⟨_, rfl⟩
          have HOL := hidD hol
          have HLQ := hidD hlq
          rw [hol] at qi HW A2
          clear A HR o1 hpa hlq hol M2s
          go_wp2_with fail
          go_region_held3 (fun v => v.cell? ⟨x.D, 6, none⟩ = some (.slice (some ⟨x.C, 0, none⟩) x.n x.n) ∧ v.cell? ⟨x.C, q, none⟩ = some (.int .i64 (y : Int)) ∧ v.cell? ⟨x.C, i, none⟩ = some (.int .i64 (optI ol))) (go_keep) (first | (go_at_call 157; refine (HW.out _ (M2.out.below (below_drewB w1))).mono ?_; rintro e u6 ⟨rfl, hM6, _⟩; have M6 := hidD hM6; have m6 := M6.out.d.2.1; have mq := M6.out.c.cell q (optV_get _ x.n q hqn); rw [HLQ.out, o2] at mq; have mi := M6.out.c.cell i (optV_get _ x.n i hin); rw [HOL.out] at mi; clear hM6))
          go_wp2_with fail
          exact ⟨⟨i + 1, _, by omega, by go_num, M6, A2⟩, by simp [intOf]; omega⟩
    · have hie : i = s.length := by omega
      subst hie
      go_wp2_with fail
      refine bodyPost_end (results_none rfl _ _ _) rfl ?_
      exact ⟨rfl, fd, M.out, A.out⟩
end Go.Proofs.YtpjjagalekolaaaGreatDoor

