/- OA, OB, OC, OD: in one text. -/
import Derived.Test.YtpjjagalekolaaaGreatDoorP40
import Derived.Test.YtpjjagalekolaaaGreatDoorP39
import Derived.Test.YtpjjagalekolaaaGreatDoorP10
import Derived.Test.YtpjjagalekolaaaGreatDoorP18
import Derived.Test.YtpjjagalekolaaaGreatDoorP26
/- The draft of a plan: things come behind what stands in their place, and behind what they come into. -/
namespace Go.Proofs.YtpjjagalekolaaaGreatDoor
open Go.RowKit
set_option linter.unusedVariables false
set_option linter.unusedSimpArgs false

set_option maxHeartbeats 16000000 in
set_option maxRecDepth 100000 in
theorem waitForPlaceN {w0 u : World} {x : Dw} {s t : List EntD} {ms : List Mean} {lv cm : Nat → Option Nat} {fd0 md0 : Nat → List Nat} {L : Nat} (h : DM w0 u x s t ms lv cm fd0 md0 L) (X : Xs w0 x s t) (PP : Pair x.fold s t) (A : DB x.fold s t x.to x.fr ms lv cm fd0 md0 s.length 0 0) (hL : L ≤ 180) (hN : ms.length ≤ 180) :
    Calls Tryz.prog 104 #[.pointer (some ⟨x.D, 0, none⟩)] u fun e w' => e = .returned (.tuple #[]) ∧ ∃ fd md, DM w0 w' x s t ms lv cm fd md (L + 2 * t.length) ∧ DB x.fold s t x.to x.fr ms lv cm fd md s.length t.length t.length := by
  have XX := hidD X
  have XP := hidD PP
  have H := hidD h
  have A0 := hidD A
  have HLT := hidD A.lvlt
  obtain ⟨ta, tc, htv⟩ := X.two.rt.val
  obtain ⟨sa, sc, hsv⟩ := X.two.rs.val
  have c0 := h.d.1.cell 1 rfl
  rw [htv] at c0
  have hls := X.two.ls
  have hlt := X.two.lt
  clear h X PP A
  go_enter Tryz.func104, Tryz.ntmps104
  go_wp2_with fail
  go_loopw [12] (fun iv wr => ∃ (j : Nat) (fd md : Nat → List Nat), j ≤ t.length ∧ iv = .int .i64 j ∧ Hid (DM w0 wr x s t ms lv cm fd md (L + 2 * j)) ∧ Hid (DB x.fold s t x.to x.fr ms lv cm fd md s.length j j)) (fun iv _ => t.length - (intOf iv).toNat)
  case atStart => exact ⟨0, _, _, Nat.zero_le _, rfl, H, A0⟩
  case round =>
    clear c0 H A0
    obtain ⟨j, fd, md, hj, rfl, M, A⟩ := hrel
    by_cases hjt : j < t.length
    · obtain ⟨bt, ot, ct, ⟨op, od, oi, oz, om⟩, hv, ho, hcells⟩ := XX.out.two.rt.ent hjt
      rw [htv] at hv
      cases hv
      dsimp only at hcells
      obtain ⟨t0, t1, t2, t3, t4⟩ := hcells wr M.out.w
      have hsm : op.size ≤ 1500000 := XX.out.two.st.2 _ (getE ho)
      have HO := hidD ho
      have BB := hidD (box_below wr #[.string op, .bool od, .int .i64 oi, .int .i64 oz, .int .i64 om] 56)
      have XB := hidD (Blk.new wr 56 [.string op, .bool od, .int .i64 oi, .int .i64 oz, .int .i64 om])
      have M1 := hidD (M.out.below BB.out)
      have hjm : j < x.m := by rw [XX.out.m]; exact hjt
      have hjt' : (j : Int) < (t.length : Int) := by omega
      have hjm' : (j : Int) < (x.m : Int) := by omega
      have q7 := M1.out.d.2.2
      have qe := M1.out.e.cell j (optV_get cm x.m j hjm)
      clear hcells ho M
      cases hcj : cm j with
      | none =>
        rw [hcj] at qe
        have o1 : optI none = -1 := rfl
        rw [o1] at qe
        have A2 := hidD ((A.out.skipP (fun i a b y _ _ _ g => by rw [hcj] at g; cases g)).skipQ (fun q b c y _ _ _ g => by rw [hcj] at g; cases g))
        have M1s := hidD (M1.out.mono (L' := L + 2 * (j + 1)) (by omega))
        clear o1 A hcj
        go_wp2_with fail
        exact ⟨⟨j + 1, fd, md, by omega, by go_num, M1s, A2⟩, by simp [intOf]; omega⟩
      | some y =>
        rw [hcj] at qe
        have oy : optI (some y) = (y : Int) := rfl
        rw [oy] at qe
        have hy0 : ((y : Int) == -1) = false := by simp
        have HCJ := hidD hcj
        have hy := HLT.out.2 j y hcj
        obtain ⟨r, hr, hR⟩ := fst_opt x.fold s op.data.toList
        have HR := hidD hR
        have HF : Hid (∀ u : World, Below w0.heap.size w0 u → Calls Tryz.prog 155 #[.slice sa s.length sc, .string op, .bool x.fold] u fun e u' => e = .returned (.int .i64 (optI r)) ∧ Below u.heap.size u u') := by
          rw [← hr, ← hsv]
          exact tfind XX.out.two.rs XX.out.two.ss op hsm x.fold
        have q0 := M1.out.d.1.cell 0 rfl
        rw [hsv] at q0
        have q2 := M1.out.d.1.cell 2 rfl
        have y0 := XB.out.cell 0 rfl
        obtain ⟨r2, hp1, hp2⟩ := par_find XX.out.two.rt XX.out.two.st hsm
        rw [htv] at hp1
        have HF2 := hidD hp1
        have HR2 := hidD hp2
        have HPA := hidD (fun (w : World) => parent_any op w (by omega) (lastIdx_le op))
        clear hR hr hp1 hp2 hcj
        go_wp2_with fail
        generalize wr.alloc (.cells #[.string op, .bool od, .int .i64 oi, .int .i64 oz, .int .i64 om] 56) = u1 at *
        go_region_held3 (fun v => v.cell? ⟨x.D, 0, none⟩ = some (.slice sa s.length sc) ∧ v.cell? ⟨x.D, 2, none⟩ = some (.bool x.fold) ∧ v.cell? ⟨wr.heap.size, 0, none⟩ = some (.string op)) (go_keep) (first | (go_at_call 155; refine (HF.out _ (M1.out.below (below_drewB u1)).w).mono ?_; rintro e w1 ⟨rfl, hb⟩; have HB2 : Hid (Below u1.heap.size u1 w1) := (below_drewB u1).trans hb; have X2 := hidD (XB.out.below HB2.out); have M2 := hidD (M1.out.below HB2.out); have z0 := M2.out.d.1.cell 0 rfl; rw [hsv] at z0; have z2 := M2.out.d.1.cell 2 rfl; have z1 := X2.out.cell 0 rfl; clear hb))
        rename_i hH
        clear hH M1 XB BB t0 t1 t2 t3 t4 q0 y0 q2 q7 qe z0 z1 z2 HF
        rcases HR.out with ⟨rfl, hno⟩ | ⟨i, a, rfl, ha, hsame⟩
        · have A7 := hidD (A.out.skipP (fun i a b y g1 g2 g3 g4 => by
            rw [HO.out] at g2
            cases g2
            have := hno i a g1
            rw [show sameB x.fold a.pl op.data.toList = true from g3] at this
            cases this))
          have o1 : optI none = -1 := rfl
          rw [o1]
          have M7 := hidD (M2.out.mono (L' := L + 2 * j + 1) (by omega))
          have X7 := X2
          clear A hno HR o1 M2 X2 HB2
          have p1 := M7.out.d.1.cell 1 rfl
          rw [htv] at p1
          have x0 := X7.out.cell 0 rfl
          go_wp2_with fail
          go_region_held3 (fun v => v.cell? ⟨x.D, 1, none⟩ = some (.slice (some ⟨bt, ot, none⟩) t.length tc) ∧ v.cell? ⟨wr.heap.size, 0, none⟩ = some (.string op)) (go_keep) (first | (go_at_call 156; refine (HPA.out _).mono ?_; rintro e z ⟨rfl, hz⟩; rw [hz]; clear hz z) | (go_at_call 155; refine (HF2.out _ (M7.out.below (below_drewB w1)).w).mono ?_; rintro e w8 ⟨rfl, hb⟩; have HB8 : Hid (Below w1.heap.size w1 w8) := (below_drewB w1).trans hb; have X8 := hidD (X7.out.below HB8.out); have M8 := hidD (M7.out.below HB8.out); have z0 := M8.out.d.1.cell 1 rfl; rw [htv] at z0; have z1 := X8.out.cell 0 rfl; clear hb))
          rename_i hH
          clear hH M7 X7 p1 x0 z0 z1
          rcases HR2.out with ⟨rfl, hno⟩ | ⟨q, c, rfl, hc, hpc⟩
          · have A8 := hidD (A7.out.skipQ (fun q b c y g1 g2 g3 g4 => by
              rw [HO.out] at g1
              cases g1
              exact hno q c g2 g3.symm))
            have M8s := hidD (M8.out.mono (L' := L + 2 * (j + 1)) (by omega))
            have o3 : optI none = -1 := rfl
            rw [o3]
            clear A7 HR2 hno o3
            go_wp2_with fail
            exact ⟨⟨j + 1, fd, md, by omega, by go_num, M8s, A8⟩, by simp [intOf]; omega⟩
          · have hqt : q < t.length := (List.getElem?_eq_some_iff.1 hc).1
            have hqm : q < x.m := by rw [XX.out.m]; exact hqt
            have hqm' : (q : Int) < (x.m : Int) := by omega
            have hq0 : ((q : Int) != -1) = true := by simp
            have o3 : optI (some q) = (q : Int) := rfl
            rw [o3]
            have A8 := hidD (A7.out.goQ XP.out.vt HO.out hc hpc.symm HCJ.out)
            have q7 := M8.out.d.2.2
            have qe := M8.out.e.cell j (optV_get cm x.m j hjm)
            rw [HCJ.out, oy] at qe
            have qq := M8.out.e.cell q (optV_get cm x.m q hqm)
            have HW2 := hidD (fun (v : World) (hv : DM w0 v x s t ms lv cm fd md (L + 2 * j + 1)) => hv.waitM hN (by omega) hy (cm q) (HLT.out.2 q))
            obtain ⟨oc, hoc⟩ : ∃ oc, cm q = oc := ⟨_, rfl⟩
            have HOC := hidD hoc
            rw [hoc] at qq HW2 A8
            clear A7 HR2 o3 hoc hc hpc
            go_wp2_with fail
            go_region_held3 (fun v => v.cell? ⟨x.D, 7, none⟩ = some (.slice (some ⟨x.E, 0, none⟩) x.m x.m) ∧ v.cell? ⟨x.E, j, none⟩ = some (.int .i64 (y : Int)) ∧ v.cell? ⟨x.E, q, none⟩ = some (.int .i64 (optI oc))) (go_keep) (first | (go_at_call 153; refine (HW2.out _ (M8.out.below (below_drewB w8))).mono ?_; rintro e u9 ⟨rfl, hM9, _⟩; have M9 := hidD hM9; have m7 := M9.out.d.2.2; have me := M9.out.e.cell j (optV_get _ x.m j hjm); rw [HCJ.out, oy] at me; have mq := M9.out.e.cell q (optV_get _ x.m q hqm); rw [HOC.out] at mq; clear hM9))
            have M9s : Hid (DM w0 u9 x s t ms lv cm fd (wt oc y md) (L + 2 * (j + 1))) := M9.out.mono (by omega)
            go_wp2_with fail
            exact ⟨⟨j + 1, _, _, by omega, by go_num, M9s, A8⟩, by simp [intOf]; omega⟩
        · have o1 : optI (some i) = (i : Int) := rfl
          rw [o1]
          have his : i < s.length := (List.getElem?_eq_some_iff.1 ha).1
          have hin : i < x.n := by rw [XX.out.n]; exact his
          have hin' : (i : Int) < (x.n : Int) := by omega
          have hi0 : ((i : Int) != -1) = true := by simp
          have A7 := hidD (A.out.goP XP.out.vs ha HO.out hsame HCJ.out)
          have q6 := M2.out.d.2.1
          have q7 := M2.out.d.2.2
          have qe := M2.out.e.cell j (optV_get cm x.m j hjm)
          rw [HCJ.out, oy] at qe
          have qi := M2.out.c.cell i (optV_get lv x.n i hin)
          have HW := hidD (fun (v : World) (hv : DM w0 v x s t ms lv cm fd md (L + 2 * j)) => hv.waitF hN (by omega) hy (lv i) (HLT.out.1 i))
          obtain ⟨ol, hol⟩ : ∃ ol, lv i = ol := ⟨_, rfl⟩
          have HOL := hidD hol
          rw [hol] at qi HW A7
          clear A HR o1 hol hsame ha
          go_wp2_with fail
          go_region_held3 (fun v => v.cell? ⟨x.D, 6, none⟩ = some (.slice (some ⟨x.C, 0, none⟩) x.n x.n) ∧ v.cell? ⟨x.D, 7, none⟩ = some (.slice (some ⟨x.E, 0, none⟩) x.m x.m) ∧ v.cell? ⟨x.E, j, none⟩ = some (.int .i64 (y : Int)) ∧ v.cell? ⟨x.C, i, none⟩ = some (.int .i64 (optI ol))) (go_keep) (first | (go_at_call 157; refine (HW.out _ (M2.out.below (below_drewB w1))).mono ?_; rintro e u7 ⟨rfl, hM7, hF7⟩; have M7 := hidD hM7; have X7 := hidD (hF7 _ _ _ (X2.out.below (below_drewB w1)) (by decide) (by decide)); have m6 := M7.out.d.2.1; have m7 := M7.out.d.2.2; have me := M7.out.e.cell j (optV_get _ x.m j hjm); rw [HCJ.out, oy] at me; have mi := M7.out.c.cell i (optV_get _ x.n i hin); rw [HOL.out] at mi; clear hM7 hF7))
          rename_i hH
          clear hH M2 X2 HB2 q6 q7 qe qi m6 m7 me mi HW HOL
          obtain ⟨FD, hFD⟩ : ∃ FD, wt ol y fd = FD := ⟨_, rfl⟩
          rw [hFD] at M7 A7
          clear hFD
          have p1 := M7.out.d.1.cell 1 rfl
          rw [htv] at p1
          have x0 := X7.out.cell 0 rfl
          go_wp2_with fail
          go_region_held3 (fun v => v.cell? ⟨x.D, 1, none⟩ = some (.slice (some ⟨bt, ot, none⟩) t.length tc) ∧ v.cell? ⟨wr.heap.size, 0, none⟩ = some (.string op)) (go_keep) (first | (go_at_call 156; refine (HPA.out _).mono ?_; rintro e z ⟨rfl, hz⟩; rw [hz]; clear hz z) | (go_at_call 155; refine (HF2.out _ (M7.out.below (below_drewB u7)).w).mono ?_; rintro e w8 ⟨rfl, hb⟩; have HB8 : Hid (Below u7.heap.size u7 w8) := (below_drewB u7).trans hb; have X8 := hidD (X7.out.below HB8.out); have M8 := hidD (M7.out.below HB8.out); have z0 := M8.out.d.1.cell 1 rfl; rw [htv] at z0; have z1 := X8.out.cell 0 rfl; clear hb))
          rename_i hH
          clear hH M7 X7 p1 x0 z0 z1
          rcases HR2.out with ⟨rfl, hno⟩ | ⟨q, c, rfl, hc, hpc⟩
          · have A8 := hidD (A7.out.skipQ (fun q b c y g1 g2 g3 g4 => by
              rw [HO.out] at g1
              cases g1
              exact hno q c g2 g3.symm))
            have M8s := hidD (M8.out.mono (L' := L + 2 * (j + 1)) (by omega))
            have o3 : optI none = -1 := rfl
            rw [o3]
            clear A7 HR2 hno o3
            go_wp2_with fail
            exact ⟨⟨j + 1, FD, md, by omega, by go_num, M8s, A8⟩, by simp [intOf]; omega⟩
          · have hqt : q < t.length := (List.getElem?_eq_some_iff.1 hc).1
            have hqm : q < x.m := by rw [XX.out.m]; exact hqt
            have hqm' : (q : Int) < (x.m : Int) := by omega
            have hq0 : ((q : Int) != -1) = true := by simp
            have o3 : optI (some q) = (q : Int) := rfl
            rw [o3]
            have A8 := hidD (A7.out.goQ XP.out.vt HO.out hc hpc.symm HCJ.out)
            have q7 := M8.out.d.2.2
            have qe := M8.out.e.cell j (optV_get cm x.m j hjm)
            rw [HCJ.out, oy] at qe
            have qq := M8.out.e.cell q (optV_get cm x.m q hqm)
            have HW2 := hidD (fun (v : World) (hv : DM w0 v x s t ms lv cm FD md (L + 2 * j + 1)) => hv.waitM hN (by omega) hy (cm q) (HLT.out.2 q))
            obtain ⟨oc, hoc⟩ : ∃ oc, cm q = oc := ⟨_, rfl⟩
            have HOC := hidD hoc
            rw [hoc] at qq HW2 A8
            clear A7 HR2 o3 hoc hc hpc
            go_wp2_with fail
            go_region_held3 (fun v => v.cell? ⟨x.D, 7, none⟩ = some (.slice (some ⟨x.E, 0, none⟩) x.m x.m) ∧ v.cell? ⟨x.E, j, none⟩ = some (.int .i64 (y : Int)) ∧ v.cell? ⟨x.E, q, none⟩ = some (.int .i64 (optI oc))) (go_keep) (first | (go_at_call 153; refine (HW2.out _ (M8.out.below (below_drewB w8))).mono ?_; rintro e u9 ⟨rfl, hM9, _⟩; have M9 := hidD hM9; have m7 := M9.out.d.2.2; have me := M9.out.e.cell j (optV_get _ x.m j hjm); rw [HCJ.out, oy] at me; have mq := M9.out.e.cell q (optV_get _ x.m q hqm); rw [HOC.out] at mq; clear hM9))
            have M9s : Hid (DM w0 u9 x s t ms lv cm FD (wt oc y md) (L + 2 * (j + 1))) := M9.out.mono (by omega)
            go_wp2_with fail
            exact ⟨⟨j + 1, _, _, by omega, by go_num, M9s, A8⟩, by simp [intOf]; omega⟩
    · have hje : j = t.length := by omega
      subst hje
      go_wp2_with fail
      refine bodyPost_end (results_none rfl _ _ _) rfl ?_
      exact ⟨rfl, fd, md, M.out, A.out⟩
end Go.Proofs.YtpjjagalekolaaaGreatDoor

/- The steps of a plan, whole; and the plan. -/
namespace Go.Proofs.YtpjjagalekolaaaGreatDoor
open Go.RowKit
set_option linter.unusedVariables false
set_option linter.unusedSimpArgs false

/-- The steps, as they lie there. -/
def StepsOk (w w' : World) (fold : Bool) (s t : List EntD) (v : Value) : Prop :=
  ∃ (to fr : Nat → Option Nat) (ms : List Mean) (lv cm : Nat → Option Nat) (fd md : Nat → List Nat) (ws : Nat → Nat) (fv mv : Nat → Value),
    Mat fold s t to fr ∧ Draft fold s t to fr ms lv cm fd md ∧ NeedS fold s t ms ∧ ms.length ≤ 2 * s.length + t.length ∧ Below w.heap.size w w' ∧
    (∀ y, y < ms.length → ws y = cntE fd (fun _ => false) y ms.length + cntE md (fun _ => false) y ms.length) ∧ (∀ y, ws y ≤ 1000000) ∧ (∀ x y, y ∈ fd x → x < ms.length ∧ y < ms.length) ∧ (∀ x y, y ∈ md x → x < ms.length ∧ y < ms.length) ∧
    ((ms = [] ∧ ∃ a c, v = .slice a 0 c) ∨ ∃ g c, v = .slice (some ⟨g, 0, none⟩) ms.length c ∧ w.heap.size ≤ g ∧ Blk w' g 155 (stC (opAt s t ms (fun _ => none)) ws fv mv ms.length) ∧ Fix w' g ms.length fv mv fd md)
theorem numR_own {u : World} {B g n : Nat} {v : Value} {L : List Nat} {xs : List Value} (h : u.ownsRow B 3 1 v L.length (numV L)) (hg : Blk u g 155 xs) : NumR u g v L := by
  by_cases h0 : 0 < L.length
  · obtain ⟨b, c, hv⟩ := row_form h h0
    subst hv
    exact ⟨_, c, rfl, fun i hi => ⟨b, rfl, (blk_of_row h).lt, (blk_of_row h).ne hg (by decide), (blk_of_row h).cell i (numV_get L i hi)⟩⟩
  · obtain ⟨a, c, hv⟩ := row_shape0 h
    exact ⟨a, c, hv, fun i hi => by omega⟩
theorem DM.steps {w0 u : World} {x : Dw} {s t : List EntD} {ms : List Mean} {lv cm : Nat → Option Nat} {fd md : Nat → List Nat} {L : Nat} (h : DM w0 u x s t ms lv cm fd md L) (M : Mat x.fold s t x.to x.fr) (B : DB x.fold s t x.to x.fr ms lv cm fd md s.length t.length t.length) (hs : s.length ≤ 60) (ht : t.length ≤ 60) (hL : L ≤ 400) : ∃ v, u.cell? ⟨x.D, 5, none⟩ = some v ∧ (∃ a m c, v = .slice a m c) ∧ StepsOk w0 u x.fold s t v := by
  obtain ⟨ws, stv, row, S, W⟩ := h
  obtain ⟨md0, A⟩ := B.A
  have hfew := A.few
  refine ⟨stv, S.d.cell 5 rfl, shape_of S.st, x.to, x.fr, ms, lv, cm, fd, md, ws, fun k => row (2 * k), fun k => row (2 * k + 1), M, B.done M, B.need, hfew, S.w, W.cnt, W.small (by omega) hL, W.fb, W.mb, ?_⟩
  by_cases h0 : 0 < ms.length
  · obtain ⟨g, c, hv⟩ := S.form h0
    subst hv
    have G := blk_of_row S.st
    refine .inr ⟨g, c, rfl, (S.st.lt g rfl).1, G, ⟨fun k hk => ?_, fun k hk => ?_, by omega, fun k => Nat.le_trans (W.lf k) hL, fun k => Nat.le_trans (W.lm k) hL⟩⟩
    · have := numR_own (n := 0) (S.rw (2 * k)) G
      rw [rl_f] at this
      exact this
    · have := numR_own (n := 0) (S.rw (2 * k + 1)) G
      rw [rl_m] at this
      exact this
  · have : ms = [] := List.eq_nil_of_length_eq_zero (by omega)
    subst this
    obtain ⟨a, c, hv⟩ := row_shape0 S.st
    exact .inl ⟨rfl, a, c, hv⟩

set_option maxHeartbeats 8000000 in
set_option maxRecDepth 100000 in
theorem stepsN {w : World} {sv tv : Value} {fold : Bool} {s t : List EntD} (X : Two w sv tv s t) (PP : Pair fold s t) :
    Calls Tryz.prog 59 #[sv, tv, .bool fold] w fun e w' => ∃ v, e = .returned v ∧ StepsOk w w' fold s t v := by
  have XX := hidD X
  have XP := hidD PP
  obtain ⟨sa, sc, hsv⟩ := X.rs.val
  obtain ⟨ta, tc, htv⟩ := X.rt.val
  subst hsv htv
  have hlt := X.lt
  have hls := X.ls
  clear X PP
  have N1 := hidD (numbersN s.length hls)
  have N2 := hidD (numbersN t.length hlt)
  go_enter Tryz.func59, Tryz.ntmps59
  go_wp2_with fail
  refine (newMatchN XX.out XP.out).mono ?_
  rintro e w1 ⟨A, B, to, fr, rfl, hAB, hA, hB, bA, bB, hb1, hMat⟩
  have BA := hidD bA
  have BB := hidD bB
  have HB1 := hidD hb1
  have HMT := hidD hMat
  have ltA := bA.lt
  have ltB := bB.lt
  clear bA bB hb1 hMat
  go_wp2_with fail
  refine (N1.out _).mono ?_
  rintro e w2 ⟨C, rfl, hC, rC, hb2⟩
  have BA2 := hidD (BA.out.below hb2)
  have BB2 := hidD (BB.out.below hb2)
  have BC2 := hidD rC
  have HB2 := hidD (HB1.out.trans (hb2.mono HB1.out.size))
  have ltC := rC.lt
  have hz12 := hb2.size
  clear rC hb2 BA BB
  go_wp2_with fail
  refine (N2.out _).mono ?_
  rintro e w3 ⟨E, rfl, hE, rE, hb3⟩
  have BA3 := hidD (BA2.out.below hb3)
  have BB3 := hidD (BB2.out.below hb3)
  have BC3 := hidD (BC2.out.below hb3)
  have BE3 := hidD rE
  have HB3 := hidD (HB2.out.trans (hb3.mono HB2.out.size))
  have hz23 := hb3.size
  have hw1 := HB1.out.size
  have hw3 := HB3.out.size
  clear rE hb3 BA2 BB2 BC2 HB2
  have BD := hidD (box_below w3 #[.slice sa s.length sc, .slice ta t.length tc, .bool fold, .slice (some ⟨A, 0, none⟩) s.length s.length, .slice (some ⟨B, 0, none⟩) t.length t.length, .slice none 0 0, .slice (some ⟨C, 0, none⟩) s.length s.length, .slice (some ⟨E, 0, none⟩) t.length t.length] 164)
  have XD := hidD (Blk.new w3 164 [.slice sa s.length sc, .slice ta t.length tc, .bool fold, .slice (some ⟨A, 0, none⟩) s.length s.length, .slice (some ⟨B, 0, none⟩) t.length t.length, .slice none 0 0, .slice (some ⟨C, 0, none⟩) s.length s.length, .slice (some ⟨E, 0, none⟩) t.length t.length])
  have HB4 := hidD (HB3.out.trans (BD.out.mono HB3.out.size))
  obtain ⟨x, hx⟩ : ∃ x : Dw, x = ⟨w3.heap.size, A, B, C, E, .slice sa s.length sc, .slice ta t.length tc, fold, s.length, t.length, to, fr⟩ := ⟨_, rfl⟩
  have xD : x.D = w3.heap.size := by rw [hx]
  have xf : x.fold = fold := by rw [hx]
  have S4 : Hid (DM w (w3.alloc (.cells #[.slice sa s.length sc, .slice ta t.length tc, .bool fold, .slice (some ⟨A, 0, none⟩) s.length s.length, .slice (some ⟨B, 0, none⟩) t.length t.length, .slice none 0 0, .slice (some ⟨C, 0, none⟩) s.length s.length, .slice (some ⟨E, 0, none⟩) t.length t.length] 164)) x s t [] (fun _ => none) (fun _ => none) (fun _ => []) (fun _ => []) 0) := by
    rw [hx]
    refine ⟨fun _ => 0, .slice none 0 0, fun _ => .slice none 0 0, ⟨HB4.out, ⟨hw3, hA, hB, Nat.le_trans hw1 hC, ?_⟩, ⟨?_, ?_, ?_, ?_, ?_⟩, XD.out, BA3.out.below BD.out, BB3.out.below BD.out, BC3.out.below BD.out, BE3.out.below BD.out, World.ownsRow_nil _ _ _ _, fun r => ?_, fun r g h => (by simp [Value.ownBlock] at h), fun r r' g h => (by simp [Value.ownBlock] at h), fun r hr => ⟨rfl, ?_⟩⟩, Wt.start⟩
    · show _ ≤ E
      omega
    · show A ≠ C
      omega
    · show A ≠ E
      omega
    · show B ≠ C
      omega
    · show B ≠ E
      omega
    · show C ≠ E
      omega
    · have : rl (fun _ => []) (fun _ => []) r = [] := by unfold rl; split <;> rfl
      rw [this]
      exact World.ownsRow_nil _ _ _ _
    · unfold rl; split <;> rfl
  have XS : Hid (Xs w x s t) := by rw [hx]; exact ⟨XX.out, rfl, rfl⟩
  have XM : Hid (Mat x.fold s t x.to x.fr) := by rw [hx]; exact HMT.out
  rw [← xf] at XP
  clear BA3 BB3 BC3 BE3 XD BD HB4 HB3 HB1 HMT N1 N2 hx
  go_wp2_with fail
  rw [← xD]
  have XF := hidD xf
  clear xD xf
  refine (takeAwayN S4.out XS.out XM.out DA.start).mono ?_
  rintro e w5 ⟨rfl, ms5, lv5, hM5, hA5⟩
  have M5 := hidD hM5
  have A5 := hidD hA5
  clear hM5 hA5 S4
  go_wp2_with fail
  refine (carryOverN M5.out XS.out XM.out A5.out).mono ?_
  rintro e w6 ⟨rfl, ms6, lv6, cm6, md6, hM6, hA6⟩
  have M6 := hidD hM6
  have A6 := hidD hA6
  clear hM6 hA6 M5 A5
  go_wp2_with fail
  refine (makeDirsN M6.out XS.out XM.out A6.out).mono ?_
  rintro e w7 ⟨rfl, ms7, cm7, hM7, hA7⟩
  have M7 := hidD hM7
  have A7 := hidD hA7
  clear hM7 hA7 M6 A6
  go_wp2_with fail
  refine (fillFilesN M7.out XS.out XM.out XP.out A7.out (by omega)).mono ?_
  rintro e w8 ⟨rfl, ms8, cm8, md8, hM8, hA8⟩
  have M8 := hidD hM8
  have A8 := hidD (DB.start hA8)
  have hms := hA8.few
  clear hM8 hA8 M7 A7
  go_wp2_with fail
  refine (waitForEmptyN M8.out XS.out XP.out A8.out (by omega) (by omega)).mono ?_
  rintro e w9 ⟨rfl, fd9, hM9, hA9⟩
  have M9 := hidD hM9
  have A9 := hidD hA9
  clear hM9 hA9 M8 A8
  go_wp2_with fail
  refine (waitForPlaceN M9.out XS.out XP.out A9.out (by omega) (by omega)).mono ?_
  rintro e w10 ⟨rfl, fd, md, hM10, hA10⟩
  obtain ⟨v, hv, ⟨va, vn, vc, hsl⟩, hok⟩ := hM10.steps XM.out hA10 hls hlt (by omega)
  rw [XF.out] at hok
  have HOK := hidD hok
  subst hsl
  clear hM10 hA10 M9 A9 hok
  go_wp2_with fail
  go_ret
  exact ⟨_, rfl, HOK.out⟩
end Go.Proofs.YtpjjagalekolaaaGreatDoor

/- Why there is no plan: contents that neither the one tree nor the store has. -/
namespace Go.Proofs.YtpjjagalekolaaaGreatDoor
open Go.RowKit
set_option linter.unusedVariables false
set_option linter.unusedSimpArgs false

/-- A row of whole numbers, whatever they are. -/
inductive IntsAt (w : World) : Value → List Int → Prop
  | nil : IntsAt w (.slice none 0 0) []
  | row (b off cap : Nat) (ts : List Int) (hb : b < w.heap.size) (h : ∀ (k : Nat) (hk : k < ts.length), w.cell? ⟨b, off + k, none⟩ = some (.int .i64 ts[k])) : IntsAt w (.slice (some ⟨b, off, none⟩) ts.length cap) ts
theorem IntsAt.val {w : World} {v : Value} {ts : List Int} (h : IntsAt w v ts) : ∃ a c, v = .slice a ts.length c := by
  cases h with
  | nil => exact ⟨_, _, rfl⟩
  | row b off cap ts hb h => exact ⟨_, _, rfl⟩
theorem IntsAt.below {w w' : World} {v : Value} {ts : List Int} (h : IntsAt w v ts) {B : Nat} (hb : Below B w w') (hB : w.heap.size ≤ B) : IntsAt w' v ts := by
  cases h with
  | nil => exact .nil
  | row b off cap ts hlt h => exact .row b off cap ts (by have := hb.size; omega) (fun k hk => cell_kept hb (by omega) (h k hk))
theorem IntsAt.at {w : World} {v : Value} {ts : List Int} (h : IntsAt w v ts) {k : Nat} (hk : k < ts.length) : ∃ b off c, v = .slice (some ⟨b, off, none⟩) ts.length c ∧ ∀ u : World, Below w.heap.size w u → u.cell? ⟨b, off + k, none⟩ = some (.int .i64 ts[k]) := by
  cases h with
  | nil => simp at hk
  | row b off cap ts hb h => exact ⟨b, off, cap, rfl, fun u hu => cell_kept hu hb (h k hk)⟩

def missStep (s : List EntD) (store : List Int) (least : Int) (e : EntD) : Int := if e.dir || s.any (fun o => o.id == e.id) || (!(least == 0) && decide (least ≤ e.id)) || store.contains e.id then least else e.id
def missL (s : List EntD) (store : List Int) (t : List EntD) : Int := t.foldl (missStep s store) 0
theorem missL_take (s : List EntD) (store : List Int) {t : List EntD} {i : Nat} {e : EntD} (h : t[i]? = some e) : missL s store (t.take (i + 1)) = missStep s store (missL s store (t.take i)) e := by
  unfold missL
  have : t.take (i + 1) = t.take i ++ [e] := by
    obtain ⟨hi, rfl⟩ := List.getElem?_eq_some_iff.1 h
    exact List.take_succ_eq_append_getElem hi
  rw [this, List.foldl_append]
  rfl
theorem tfindId {w : World} {v : Value} {l : List EntD} (h : RowAt w v l) (hs : SmallL l) (id : Int) : ∃ r : Option Nat, (∀ u : World, Below w.heap.size w u → Calls Tryz.prog 139 #[v, .int .i64 id] u fun e u' => e = .returned (.int .i64 (optI r)) ∧ Below u.heap.size u u') ∧ (r = none ↔ l.any (fun o => o.id == id) = false) := by
  cases hb : l.any (fun o => o.id == id) with
  | false =>
    refine ⟨none, fun u hu => ?_, by simp⟩
    cases h with
    | nil => exact findId_nil id u
    | row b off cap l hlt hc hm h =>
      have := findId_any b off cap l id u hs.1 hs.2 (by have := hu.size; omega) (h.below hu hlt)
      rw [fstI_none _ _ hb] at this
      exact this
  | true =>
    cases h with
    | nil => simp at hb
    | row b off cap l hlt hc hm h =>
      refine ⟨some (l.findIdx (fun o => o.id == id)), fun u hu => ?_, by simp⟩
      have := findId_any b off cap l id u hs.1 hs.2 (by have := hu.size; omega) (h.below hu hlt)
      unfold fstI at this
      rw [hb] at this
      exact this

set_option maxHeartbeats 8000000 in
set_option maxRecDepth 100000 in
theorem missingN {w0 u : World} {sv tv nv : Value} {s t : List EntD} {store : List Int} (hs : RowAt w0 sv s) (ht : RowAt w0 tv t) (hn : IntsAt w0 nv store) (ss : SmallL s) (hb0 : Below w0.heap.size w0 u) (hlt : t.length ≤ 60) (hln : store.length ≤ 2000000) :
    Calls Tryz.prog 92 #[sv, tv, nv] u fun e w' => e = .returned (.int .i64 (missL s store t)) ∧ Below u.heap.size u w' := by
  have HS := hidD hs
  have HT := hidD ht
  have HN := hidD hn
  have HSS := hidD ss
  have HB0 := hidD hb0
  obtain ⟨sa, sc, hsv⟩ := hs.val
  obtain ⟨ta, tc, htv⟩ := ht.val
  obtain ⟨na, nc, hnv⟩ := hn.val
  subst hsv htv hnv
  clear hs ht hn ss hb0
  go_enter Tryz.func92, Tryz.ntmps92
  go_wp2_with fail
  go_step3
  go_wp2_with fail
  go_step3
  go_wp2_with fail
  go_loopw [7, 14] (fun lv iv wr => ∃ (i : Nat), i ≤ t.length ∧ iv = .int .i64 i ∧ lv = .int .i64 (missL s store (t.take i)) ∧ Hid (Below u.heap.size u wr)) (fun _ iv _ => t.length - (intOf iv).toNat)
  case atStart => exact ⟨0, Nat.zero_le _, rfl, rfl, Below.refl _ _⟩
  case round =>
    obtain ⟨i, hi, rfl, rfl, HB⟩ := hrel
    by_cases hit : i < t.length
    · obtain ⟨bt, ot, ct, ⟨op, od, oi, oz, om⟩, hv, ho, hcells⟩ := HT.out.ent hit
      cases hv
      dsimp only at hcells
      obtain ⟨t0, t1, t2, t3, t4⟩ := hcells wr (HB0.out.trans (HB.out.mono HB0.out.size))
      have EM := hidD (missL_take s store ho)
      have BB := hidD (box_below wr #[.string op, .bool od, .int .i64 oi, .int .i64 oz, .int .i64 om] 56)
      have XB := hidD (Blk.new wr 56 [.string op, .bool od, .int .i64 oi, .int .i64 oz, .int .i64 om])
      have HB1 := hidD (HB.out.trans (BB.out.mono HB.out.size))
      have hit' : (i : Int) < (t.length : Int) := by omega
      have y1 := XB.out.cell 1 rfl
      have y2 := XB.out.cell 2 rfl
      obtain ⟨least, hleast⟩ : ∃ x, missL s store (t.take i) = x := ⟨_, rfl⟩
      rw [hleast] at EM ⊢
      clear hcells ho hleast
      cases od with
      | true =>
        have EV := hidD (show missL s store (t.take (i + 1)) = least by rw [EM.out]; simp [missStep])
        clear EM
        go_wp2_with fail
        exact ⟨⟨i + 1, by omega, by go_num, by rw [EV.out], HB1⟩, by simp [intOf]; omega⟩
      | false =>
        obtain ⟨r, hr1, hr2⟩ := tfindId HS.out HSS.out oi
        have HF := hidD hr1
        have HR := hidD hr2
        clear hr1 hr2
        go_wp2_with fail
        generalize wr.alloc (.cells #[.string op, .bool false, .int .i64 oi, .int .i64 oz, .int .i64 om] 56) = u1 at *
        refine (HF.out _ (HB0.out.trans (HB1.out.mono HB0.out.size))).mono ?_
        rintro e w2 ⟨rfl, hb2⟩
        have X2 := hidD (XB.out.below hb2)
        have HB2 := hidD (HB1.out.trans (hb2.mono HB1.out.size))
        have z2 := X2.out.cell 2 rfl
        clear hb2 XB BB HB1 t0 t1 t2 t3 t4 y1 y2
        cases r with
        | some q =>
          have o1 : optI (some q) = (q : Int) := rfl
          rw [o1]
          have hq0 : (0 : Int) ≤ (q : Int) := by omega
          have hany : s.any (fun o => o.id == oi) = true := by
            cases h : s.any (fun o => o.id == oi) with
            | true => rfl
            | false => have := HR.out.2 h; cases this
          have EV := hidD (show missL s store (t.take (i + 1)) = least by rw [EM.out]; simp [missStep, hany])
          clear EM hany HR
          go_wp2_with fail
          exact ⟨⟨i + 1, by omega, by go_num, by rw [EV.out], HB2⟩, by simp [intOf]; omega⟩
        | none =>
          have o1 : optI none = -1 := rfl
          rw [o1]
          have hany := HR.out.1 rfl
          by_cases hc : ¬ least = 0 ∧ least ≤ oi
          · obtain ⟨h0, hle⟩ := hc
            have h0' : (least != 0) = true := by simp [h0]
            have EV := hidD (show missL s store (t.take (i + 1)) = least by rw [EM.out]; simp [missStep, h0, hle])
            clear EM hany HR
            go_wp2_with fail
            exact ⟨⟨i + 1, by omega, by go_num, by rw [EV.out], HB2⟩, by simp [intOf]; omega⟩
          · have EV : Hid (∀ b : Bool, store.contains oi = b → missL s store (t.take (i + 1)) = if b then least else oi) := fun b hb => by
              rw [EM.out]
              unfold missStep
              have hcc : (!(least == 0) && decide (least ≤ oi)) = false := by
                cases h : (!(least == 0) && decide (least ≤ oi)) with
                | false => rfl
                | true =>
                  rw [Bool.and_eq_true] at h
                  exact absurd ⟨by simpa using h.1, by simpa using h.2⟩ hc
              simp only [hany, hcc, hb, Bool.or_false, Bool.false_or]
            clear EM hany HR
            have key : (least = 0) ∨ (¬ least = 0 ∧ ¬ least ≤ oi) := by
              by_cases h0 : least = 0
              · exact .inl h0
              · exact .inr ⟨h0, fun h => hc ⟨h0, h⟩⟩
            clear hc
            rcases key with h0 | ⟨h0, hle⟩
            · subst h0
              go_wp2_with fail
              go_loopw [39] (fun kv wr2 => ∃ k : Nat, k ≤ store.length ∧ kv = .int .i64 k ∧ Hid (Below w2.heap.size w2 wr2) ∧ Hid (∀ (k' : Nat) (hk : k' < store.length), k' < k → store[k'] ≠ oi)) (fun kv _ => store.length - (intOf kv).toNat)
              case atStart => exact ⟨0, Nat.zero_le _, rfl, Below.refl _ _, fun k' _ h => by omega⟩
              case round =>
                obtain ⟨k, hk, rfl, HK, NK⟩ := hrel
                have X3 := hidD (X2.out.below HK.out)
                have HB3 := hidD (HB2.out.trans (HK.out.mono HB2.out.size))
                have z3 := X3.out.cell 2 rfl
                by_cases hks : k < store.length
                · obtain ⟨bn, on, cn, hvn, hcn⟩ := HN.out.at hks
                  cases hvn
                  have n0 := hcn _ (HB0.out.trans (HB3.out.mono HB0.out.size))
                  have hks' : (k : Int) < (store.length : Int) := by omega
                  have NS := hidD (fun (h : store[k] ≠ oi) (k' : Nat) (hk' : k' < store.length) (h' : k' < k + 1) => show store[k'] ≠ oi from by
                    by_cases e : k' = k
                    · subst e; exact h
                    · exact NK.out k' hk' (by omega))
                  have HM := hidD (List.getElem_mem hks)
                  obtain ⟨sk, hsk⟩ : ∃ x, store[k] = x := ⟨_, rfl⟩
                  rw [hsk] at n0 NS HM
                  clear hcn hsk
                  by_cases he : sk = oi
                  · subst he
                    have EE : Hid (missL s store (t.take (i + 1)) = 0) := EV.out true (by simpa using HM.out)
                    go_wp2_with fail
                    exact ⟨⟨i + 1, by omega, by go_num, by rw [EE.out], HB3⟩, by simp [intOf]; omega⟩
                  · have he1 : (sk == oi) = false := by simp [he]
                    have NN : Hid (∀ (k' : Nat) (hk : k' < store.length), k' < k + 1 → store[k'] ≠ oi) := NS.out he
                    clear NS
                    go_wp2_with fail
                    exact ⟨⟨k + 1, by omega, by go_num, HK, NN⟩, by simp [intOf]; omega⟩
                · have EE : Hid (missL s store (t.take (i + 1)) = oi) := EV.out false (by
                    cases h : store.contains oi with
                    | false => rfl
                    | true =>
                      obtain ⟨k', hk', e⟩ := List.mem_iff_getElem.1 (by simpa using h : oi ∈ store)
                      exact absurd e (NK.out k' hk' (by omega)))
                  go_wp2_with fail
                  exact ⟨⟨i + 1, by omega, by go_num, by rw [EE.out], HB3⟩, by simp [intOf]; omega⟩
            · have h0' : (least != 0) = true := by simp [h0]
              go_wp2_with fail
              go_loopw [39] (fun kv wr2 => ∃ k : Nat, k ≤ store.length ∧ kv = .int .i64 k ∧ Hid (Below w2.heap.size w2 wr2) ∧ Hid (∀ (k' : Nat) (hk : k' < store.length), k' < k → store[k'] ≠ oi)) (fun kv _ => store.length - (intOf kv).toNat)
              case atStart => exact ⟨0, Nat.zero_le _, rfl, Below.refl _ _, fun k' _ h => by omega⟩
              case round =>
                obtain ⟨k, hk, rfl, HK, NK⟩ := hrel
                have X3 := hidD (X2.out.below HK.out)
                have HB3 := hidD (HB2.out.trans (HK.out.mono HB2.out.size))
                have z3 := X3.out.cell 2 rfl
                by_cases hks : k < store.length
                · obtain ⟨bn, on, cn, hvn, hcn⟩ := HN.out.at hks
                  cases hvn
                  have n0 := hcn _ (HB0.out.trans (HB3.out.mono HB0.out.size))
                  have hks' : (k : Int) < (store.length : Int) := by omega
                  have NS := hidD (fun (h : store[k] ≠ oi) (k' : Nat) (hk' : k' < store.length) (h' : k' < k + 1) => show store[k'] ≠ oi from by
                    by_cases e : k' = k
                    · subst e; exact h
                    · exact NK.out k' hk' (by omega))
                  have HM := hidD (List.getElem_mem hks)
                  obtain ⟨sk, hsk⟩ : ∃ x, store[k] = x := ⟨_, rfl⟩
                  rw [hsk] at n0 NS HM
                  clear hcn hsk
                  by_cases he : sk = oi
                  · subst he
                    have EE : Hid (missL s store (t.take (i + 1)) = least) := EV.out true (by simpa using HM.out)
                    go_wp2_with fail
                    exact ⟨⟨i + 1, by omega, by go_num, by rw [EE.out], HB3⟩, by simp [intOf]; omega⟩
                  · have he1 : (sk == oi) = false := by simp [he]
                    have NN : Hid (∀ (k' : Nat) (hk : k' < store.length), k' < k + 1 → store[k'] ≠ oi) := NS.out he
                    clear NS
                    go_wp2_with fail
                    exact ⟨⟨k + 1, by omega, by go_num, HK, NN⟩, by simp [intOf]; omega⟩
                · have EE : Hid (missL s store (t.take (i + 1)) = oi) := EV.out false (by
                    cases h : store.contains oi with
                    | false => rfl
                    | true =>
                      obtain ⟨k', hk', e⟩ := List.mem_iff_getElem.1 (by simpa using h : oi ∈ store)
                      exact absurd e (NK.out k' hk' (by omega)))
                  go_wp2_with fail
                  exact ⟨⟨i + 1, by omega, by go_num, by rw [EE.out], HB3⟩, by simp [intOf]; omega⟩
    · have hie : i = t.length := by omega
      subst hie
      rw [List.take_length]
      go_wp2_with fail
      rw [Exit.noGoto_ret]
      go_ret
      exact ⟨rfl, HB.out⟩
end Go.Proofs.YtpjjagalekolaaaGreatDoor

/- Why there is no plan; the plan whole. -/
namespace Go.Proofs.YtpjjagalekolaaaGreatDoor
open Go.RowKit
set_option linter.unusedVariables false
set_option linter.unusedSimpArgs false

/-- What Plan refuses, and at which tree or content. -/
def refL (fold : Bool) (s t : List EntD) (store : List Int) : Int × Int :=
  if treeF fold s = false then (4, 0) else if treeF fold t = false then (4, 1) else if t.any (otherB s) then (6, 0) else if missL s store t = 0 then (0, 0) else (7, missL s store t)
theorem tree_60 {fold : Bool} {l : List EntD} (h : treeF fold l = true) : l.length ≤ 60 := by
  cases fold
  · exact (tree_ok l h).few
  · exact (tree_ok l (treeBT_of l h).1).few
theorem tree_paths {fold : Bool} {l : List EntD} (h : treeF fold l = true) : ∀ a ∈ l, pathL a.pl = true := by
  cases fold
  · exact (tree_ok l h).names
  · exact (tree_ok l (treeBT_of l h).1).names
theorem refL_ok {fold : Bool} {s t : List EntD} {store : List Int} (h : (refL fold s t store).1 = 0) : Pair fold s t ∧ treeF fold s = true ∧ treeF fold t = true ∧ t.any (otherB s) = false ∧ missL s store t = 0 := by
  unfold refL at h
  cases hs : treeF fold s with
  | false => rw [hs] at h; simp at h
  | true =>
    cases ht : treeF fold t with
    | false => rw [hs, ht] at h; simp at h
    | true =>
      cases ho : t.any (otherB s) with
      | true => rw [hs, ht, ho] at h; simp at h
      | false =>
        rw [hs, ht, ho] at h
        by_cases hm : missL s store t = 0
        · refine ⟨⟨tree_vol hs, tree_vol ht, tree_paths hs, tree_paths ht, tree_60 hs, tree_60 ht, fun a ha b hb _ _ hid => ?_⟩, rfl, rfl, rfl, hm⟩
          have h1 := List.any_eq_false.1 ho b hb
          have h2 : otherB s b = false := by simpa using h1
          unfold otherB at h2
          have h3 := List.any_eq_false.1 h2 a ha
          by_cases e : a.size = b.size
          · exact e
          · exact absurd (by simp [hid, e]) h3
        · simp [hm] at h

set_option maxHeartbeats 8000000 in
set_option maxRecDepth 100000 in
theorem refusalN {u : World} {sv tv nv : Value} {fold : Bool} {s t : List EntD} {store : List Int} (hs : RowAt u sv s) (ht : RowAt u tv t) (hn : IntsAt u nv store) (ss : SmallL s) (st : SmallL t) (hln : store.length ≤ 2000000) :
    Calls Tryz.prog 57 #[sv, tv, .bool fold, nv] u fun e w' => e = .returned (.tuple #[.int .i64 (refL fold s t store).1, .int .i64 (refL fold s t store).2]) ∧ Below u.heap.size u w' := by
  have HS := hidD hs
  have HT := hidD ht
  have HN := hidD hn
  have HSS := hidD ss
  have HST := hidD st
  obtain ⟨sa, sc, hsv⟩ := hs.val
  obtain ⟨ta, tc, htv⟩ := ht.val
  obtain ⟨na, nc, hnv⟩ := hn.val
  subst hsv htv hnv
  have HB0 := hidD (box_below u #[.slice sa s.length sc, .slice ta t.length tc] 22)
  have P0 := hidD (Blk.new u 22 [.slice sa s.length sc, .slice ta t.length tc])
  have p0 := P0.out.cell 0 rfl
  clear hs ht hn ss st
  go_enter Tryz.func57, Tryz.ntmps57
  go_wp2_with fail
  refine wp_loop_rounds 3 ?_
  rw [rounds_succ]
  go_wp2_with fail
  refine (treesCheckF fold (HS.out.below HB0.out (Nat.le_refl _)) HSS.out).mono ?_
  rintro e w1 ⟨c1, k1, rfl, hc1, hb⟩
  have HB1 := hidD (HB0.out.trans (hb.mono HB0.out.size))
  have p1 := (P0.out.below hb).cell 1 rfl
  have HC1 := hidD hc1
  clear hb p0 P0 hc1
  by_cases h1 : c1 = 0
  · subst h1
    have hts : treeF fold s = true := by rw [← HC1.out]; rfl
    clear HC1
    go_wp2_with fail
    rw [rounds_succ]
    go_wp2_with fail
    refine (treesCheckF fold (HT.out.below HB1.out (Nat.le_refl _)) HST.out).mono ?_
    rintro e w2 ⟨c2, k2, rfl, hc2, hb⟩
    have HB2 := hidD (HB1.out.trans (hb.mono HB1.out.size))
    have HC2 := hidD hc2
    clear hb hc2 p1
    by_cases h2 : c2 = 0
    · subst h2
      have htt : treeF fold t = true := by rw [← HC2.out]; rfl
      clear HC2
      have hls := tree_60 hts
      have hlt := tree_60 htt
      go_wp2_with fail
      rw [rounds_succ]
      go_wp2_with fail
      go_loopw [38] (fun iv wr => ∃ i : Nat, i ≤ t.length ∧ iv = .int .i64 i ∧ Hid (Below u.heap.size u wr) ∧ Hid ((t.take i).any (otherB s) = false)) (fun iv _ => t.length - (intOf iv).toNat)
      case atStart => exact ⟨0, Nat.zero_le _, rfl, HB2, rfl⟩
      case round =>
        clear HB2
        obtain ⟨i, hi, rfl, HB, N⟩ := hrel
        by_cases hit : i < t.length
        · obtain ⟨bt, ot, ct, ⟨op, od, oi, oz, om⟩, hv, ho, hcells⟩ := HT.out.ent hit
          cases hv
          dsimp only at hcells
          obtain ⟨t0, t1, t2, t3, t4⟩ := hcells wr HB.out
          have HO := hidD ho
          have BB := hidD (box_below wr #[.string op, .bool od, .int .i64 oi, .int .i64 oz, .int .i64 om] 56)
          have XB := hidD (Blk.new wr 56 [.string op, .bool od, .int .i64 oi, .int .i64 oz, .int .i64 om])
          have HB1' := hidD (HB.out.trans (BB.out.mono HB.out.size))
          have hit' : (i : Int) < (t.length : Int) := by omega
          have y0 := XB.out.cell 0 rfl
          have y1 := XB.out.cell 1 rfl
          have y2 := XB.out.cell 2 rfl
          have y3 := XB.out.cell 3 rfl
          have y4 := XB.out.cell 4 rfl
          have HV := hidD (vother HS.out (by omega) (EntD.mk op od oi oz om))
          clear hcells ho
          go_wp2_with fail
          refine (HV.out _ HB1'.out).mono ?_
          rintro e w3 ⟨rfl, hb3⟩
          have HB3 := hidD (HB1'.out.trans (hb3.mono HB1'.out.size))
          clear hb3 XB BB y0 y1 y2 y3 y4 t0 t1 t2 t3 t4 HV
          cases hob : otherB s (EntD.mk op od oi oz om) with
          | true =>
            have hany : t.any (otherB s) = true := List.any_eq_true.2 ⟨_, getE HO.out, hob⟩
            clear hob
            go_wp2_with fail
            go_ret2
            refine ⟨?_, HB3.out⟩
            unfold refL
            rw [hts, htt, hany]
            rfl
          | false =>
            have N2 := hidD (show (t.take (i + 1)).any (otherB s) = false by
              obtain ⟨h', he⟩ := List.getElem?_eq_some_iff.1 HO.out
              rw [List.take_succ_eq_append_getElem h', List.any_append, N.out, he]
              simp [hob])
            clear hob N
            go_wp2_with fail
            exact ⟨⟨i + 1, by omega, by go_num, HB3, N2⟩, by simp [intOf]; omega⟩
        · have hie : i = t.length := by omega
          subst hie
          rw [List.take_length] at N
          have HM := hidD (missingN HS.out HT.out HN.out HSS.out HB.out hlt hln)
          go_wp2_with fail
          refine HM.out.mono ?_
          rintro e w4 ⟨rfl, hb4⟩
          have HB4 := hidD (HB.out.trans (hb4.mono HB.out.size))
          have ER := hidD (show refL fold s t store = if missL s store t = 0 then (0, 0) else (7, missL s store t) by
            unfold refL
            rw [hts, htt, N.out]
            rfl)
          clear hb4 HM
          generalize missL s store t = ml at *
          by_cases h0 : ml = 0
          · subst h0
            go_wp2_with fail
            go_ret2
            refine ⟨?_, HB4.out⟩
            rw [ER.out]
            rfl
          · have h0' : (ml != 0) = true := by simp [h0]
            go_wp2_with fail
            go_ret2
            refine ⟨?_, HB4.out⟩
            rw [ER.out, if_neg h0]
            rfl
    · have htt : treeF fold t = false := by rw [← HC2.out]; simp [h2]
      have h2' : (c2 != 0) = true := by simp [h2]
      clear HC2
      go_wp2_with fail
      go_ret2
      refine ⟨?_, HB2.out⟩
      unfold refL
      rw [hts, htt]
      rfl
  · have hts : treeF fold s = false := by rw [← HC1.out]; simp [h1]
    have h1' : (c1 != 0) = true := by simp [h1]
    clear HC1
    go_wp2_with fail
    go_ret2
    refine ⟨?_, HB1.out⟩
    unfold refL
    rw [hts]
    rfl
end Go.Proofs.YtpjjagalekolaaaGreatDoor

