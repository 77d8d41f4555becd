/- The program's Diff of two trees. -/
import Derived.Test.YtemkpollilhmjaaGreatDoorUJB
import Derived.Test.YtemkpollilhmjaaGreatDoorU05W0
import Derived.Deep.RegionHeldLaw
import Derived.Deep.AppendLies
namespace Go.Proofs.YtemkpollilhmjaaGreatDoor
open Go.RowKit
set_option linter.unusedVariables false
set_option linter.unusedSimpArgs false

theorem flatC_app {w : World} {base : Nat} {v : Value} {out : List ChD} {c : ChD} (h : w.ownsRow base 45 3 v (out.length + 1) (flatC out ++ c.cells)) : w.ownsRow base 45 3 v (out ++ [c]).length (flatC (out ++ [c])) := by
  rw [flatC_snoc, List.length_append]; exact h
theorem new_ch (w : World) (c : ChD) : ∀ j u, c.cells[j]? = some u → (w.alloc (.cells #[.string c.path, .int .i64 c.kind, .string c.src] 45)).cell? ((⟨w.heap.size, 0, none⟩ : Addr).add j) = some u := by
  intro j u hu
  rw [Addr.add_lit, Nat.zero_add, World.cell?_alloc_at _ _ _ _ rfl, ← hu]
  match j with
  | 0 => rfl
  | 1 => rfl
  | 2 => rfl
  | n + 3 => rfl
theorem slice22 (g off n cap i : Nat) (hi : i ≤ n) (hc : n ≤ cap) : ∃ p c, (∀ w, (Instr.sliceAt 22 (.slice (some ⟨g, off, none⟩) n cap) (some (.int .i64 i)) none none).run Tryz.prog w = .ok (.slice p (n - i) c) w) ∧ (i < n → p = some ⟨g, off + i * 5, none⟩) := by
  have h1 : (i : Int) ≤ n := by omega
  have h2 : (n : Int) ≤ cap := by omega
  by_cases h3 : cap = i
  · subst h3
    refine ⟨some ⟨g, off, none⟩, 0, fun w => ?_, fun h => by omega⟩
    go_simp
  · exact ⟨some ⟨g, off + i * 5, none⟩, cap - i, fun w => by go_simp, fun _ => rfl⟩
theorem slice22n (w : World) : (Instr.sliceAt 22 (.slice none 0 0) (some (.int .i64 0)) none none).run Tryz.prog w = .ok (.slice none 0 0) w := by
  go_simp
theorem grew {w w1 w2 : World} {v v' : Value} {out : List ChD} {c : ChD} {obj : Obj} (hown : w1.ownsRow w.heap.size 45 3 v out.length (flatC out)) (hbel : Below w.heap.size w w1) (h2 : w2.ownsRow w.heap.size 45 3 v' (out.length + 1) (flatC out ++ c.cells)) (hg : (w1.alloc obj).grownBy w2 v.ownBlock) :
    w2.ownsRow w.heap.size 45 3 v' (out ++ [c]).length (flatC (out ++ [c])) ∧ Below w.heap.size w w2 :=
  ⟨flatC_app h2, (hbel.alloc hbel.size _).grown hg (by have := hbel.size; simp; omega) (fun k hk => (hown.lt k hk).1)⟩
theorem neq61 (p q : ByteArray) (d e : Bool) (i j z y m n : Int) (w : World) : (binOp .neq 54 (.agg #[.string p, .bool d, .int .i64 i, .int .i64 z, .int .i64 m]) (.agg #[.string q, .bool e, .int .i64 j, .int .i64 y, .int .i64 n])).run Tryz.prog w = .ok (.bool (!eqB ⟨p, d, i, z, m⟩ ⟨q, e, j, y, n⟩)) w := by
  go_simp
  rw [ba_toList, ba_toList]
  by_cases h1 : p.data.toList = q.data.toList <;> by_cases h2 : d = e <;> by_cases h3 : i = j <;> by_cases h4 : z = y <;> by_cases h5 : m = n <;> simp [eqB, h1, h2, h3, h4, h5]
  all_goals (intro hc; exact h1 (by rw [hc]))
theorem eql61 (p q : ByteArray) (d e : Bool) (i j z y m n : Int) (w : World) : (binOp .eql 54 (.agg #[.string p, .bool d, .int .i64 i, .int .i64 z, .int .i64 m]) (.agg #[.string q, .bool e, .int .i64 j, .int .i64 y, .int .i64 n])).run Tryz.prog w = .ok (.bool (eqB ⟨p, d, i, z, m⟩ ⟨q, e, j, y, n⟩)) w := by
  go_simp
  rw [ba_toList, ba_toList]
  by_cases h1 : p.data.toList = q.data.toList <;> by_cases h2 : d = e <;> by_cases h3 : i = j <;> by_cases h4 : z = y <;> by_cases h5 : m = n <;> simp [eqB, h1, h2, h3, h4, h5]
  all_goals (intro hc; exact h1 (by rw [hc]))
theorem eqB_eq {p q : ByteArray} {d e : Bool} {i j z y m n : Int} (h : eqB ⟨p, d, i, z, m⟩ ⟨q, e, j, y, n⟩ = true) : p = q ∧ d = e ∧ i = j ∧ z = y ∧ m = n := by
  simp only [eqB, Bool.and_eq_true, beq_iff_eq, decide_eq_true_eq] at h
  exact ⟨ba_ext h.1.1.1.1, h.1.1.1.2, h.1.1.2, h.1.2, h.2⟩
theorem ch_eq {c d : ChD} (h1 : c.path = d.path) (h2 : c.kind = d.kind) (h3 : c.src = d.src) : c = d := by cases c; cases d; simp_all

set_option maxHeartbeats 8000000 in
set_option maxRecDepth 100000 in
theorem diff_ss (g1 o1 c1 : Nat) (S : List EntD) (g2 o2 c2 : Nat) (T : List EntD) (w : World) (hl1 : S.length ≤ 2000000) (hc1 : S.length ≤ c1) (hs1 : ∀ o ∈ S, o.small) (hb1 : g1 < w.heap.size) (h1 : EntsAt w g1 o1 S) (hl2 : T.length ≤ 2000000) (hc2 : T.length ≤ c2) (hs2 : ∀ o ∈ T, o.small) (hb2 : g2 < w.heap.size) (h2 : EntsAt w g2 o2 T) 
    (HTS : Hid (∀ u : World, Below w.heap.size w u → Calls Tryz.prog 33 #[.slice (some ⟨g1, o1, none⟩) S.length c1] u fun e u' => e = .returned (.bool true) ∧ Below u.heap.size u u'))
    (HTT : Hid (∀ u : World, Below w.heap.size w u → Calls Tryz.prog 33 #[.slice (some ⟨g2, o2, none⟩) T.length c2] u fun e u' => e = .returned (.bool true) ∧ Below u.heap.size u u'))
    (HSR : Hid (∀ (u : World) (c : EntD), Below w.heap.size w u → Calls Tryz.prog 35 #[.slice (some ⟨g1, o1, none⟩) S.length c1, .agg #[.string c.path, .bool c.dir, .int .i64 c.id, .int .i64 c.size, .int .i64 c.mode]] u fun r w' => r = .returned (.string (srcB S c)) ∧ Below u.heap.size u w')) :
    Calls Tryz.prog 22 #[.slice (some ⟨g1, o1, none⟩) S.length c1, .slice (some ⟨g2, o2, none⟩) T.length c2] w fun e w' => ∃ v, e = .returned (.tuple #[v, .int .i64 0]) ∧ w'.ownsRow w.heap.size 45 3 v (diffL S S T).length (flatC (diffL S S T)) ∧ Below w.heap.size w w' := by
  obtain ⟨i0, hi, hz0, hz1, hz2⟩ := info_parts info64b
  have HL := hidD (diffL_len S _ S T (Nat.le_refl _))
  go_enter Tryz.func22, Tryz.ntmps22
  go_wp2_with fail
  refine (HTS.out w (Below.refl _ _)).mono ?_
  rintro e w1 ⟨rfl, hb1'⟩
  go_wp2_with fail
  refine (HTT.out w1 hb1').mono ?_
  rintro e w2 ⟨rfl, hb2'⟩
  have HB2 : Hid (Below w.heap.size w w2) := hb1'.trans (hb2'.mono hb1'.size)
  clear hb1' hb2' HTS HTT
  go_wp2
  go_loopw [6, 7, 8, 9] (fun vc vi vj vs wr => ∃ (i j : Nat) (out : List ChD), i ≤ (S : List EntD).length ∧ j ≤ (T : List EntD).length ∧ vi = .int .i64 i ∧ vj = .int .i64 j ∧ wr.ownsRow w.heap.size 45 3 vc out.length (flatC out) ∧ Below w.heap.size w wr ∧ diffL S S T = out ++ diffL S ((S : List EntD).drop i) ((T : List EntD).drop j)) (fun _ vi vj _ _ => ((S : List EntD).length - (intOf vi).toNat) + ((T : List EntD).length - (intOf vj).toNat))
  case atStart => exact ⟨0, 0, [], by simp, by simp, rfl, rfl, World.ownsRow_nil _ _ _ _, HB2.out, rfl⟩
  case round =>
    obtain ⟨i, j, out, hi1, hj1, rfl, rfl, hown, hbel, hd⟩ := hrel
    have HD := hidD hd
    have hol : out.length ≤ (S : List EntD).length + (T : List EntD).length := by
      have := HL.out
      rw [hd, List.length_append] at this
      omega
    (try simp only [List.length_nil] at hol hi1 hj1)
    clear hd
    have HO := hidD hown
    have hbs := hbel.size
    have HBE := hidD hbel

    obtain ⟨p1, k1, sl1, hp1⟩ := slice22 g1 o1 S.length c1 i hi1 hc1
    have ext1 : (i : Int) ≤ (c1 : Int) := by omega

    obtain ⟨p2, k2, sl2, hp2⟩ := slice22 g2 o2 T.length c2 j hj1 hc2
    have ext2 : (j : Int) ≤ (c2 : Int) := by omega

    by_cases hlt : i < S.length
    · obtain rfl := hp1 hlt
      by_cases hlt2 : j < T.length
      · obtain rfl := hp2 hlt2
        have hpS : 0 < S.length - i := by omega
        have hpT : 0 < T.length - j := by omega
        have hsS : S[i].path.size ≤ 1500000 := hs1 _ (List.getElem_mem hlt)
        have hsT : T[j].path.size ≤ 1500000 := hs2 _ (List.getElem_mem hlt2)
        rcases Int.lt_trichotomy (cmpL S[i].path.data.toList T[j].path.data.toList) 0 with hcm | hcm | hcm
        · have c0 : wr.cell? ⟨g1, o1 + i * 5, none⟩ = some (.string S[i].path) := by
            have := (h1.below HBE.out hb1) i hlt 0 _ rfl
            simpa using this
          have d0 : wr.cell? ⟨g2, o2 + j * 5, none⟩ = some (.string T[j].path) := by
            have := (h2.below HBE.out hb2) j hlt2 0 _ rfl
            simpa using this
          have HG := hidD (diffL_gone S S T i j hlt (fun _ => hcm))
          generalize S[i].path = pth at *
          generalize T[j].path = qth at *
          clear hown hbel
          go_wp2
          go_quiet (first | (go_at_call 34; exact Calls.quiet_of (side_both g1 (o1 + i * 5) g2 (o2 + j * 5) _ _ _ _ pth qth _ hpS hpT (by omega) (by omega) hsS hsT c0 d0)))
          go_wp2_with (at_builtin; refine wpList_append_own _ rfl (.tmp 64) (.tmp 71) 41 rfl w.heap.size 45 i0 _ 3 40 Tryz.underlying41 hi hz0 hz1 hz2 rfl (by decide) _ _ _ rfl (HO.out.alloc _) ⟨_, 0, none⟩ 1 1 (ChD.cells ⟨pth, 2, ⟨#[]⟩⟩) rfl rfl (new_ch _ _) (chCells_one _) (by unfold maxLen; omega) (by omega) (by simp only [World.size_alloc, World.drewN]; omega) ?_; intro v1 w1 hown1 hg1 _)
          have R := grew (w1 := wr.drewN nq) (c := ⟨pth, 2, ⟨#[]⟩⟩) HO.out (HBE.out.trans ⟨rfl, rfl, rfl, Nat.le_refl _, fun _ _ => rfl⟩) hown1 hg1
          clear hown1 hg1
          go_wp2
          exact ⟨⟨i + 1, j, _, by omega, by omega, by go_num, rfl, R.1, R.2, by rw [HD.out, HG.out]; simp⟩, by simp [intOf]; omega⟩

        · have HCS : Hid (∀ u : World, Below w.heap.size w u → u.cell? ⟨g1, o1 + i * 5, none⟩ = some (.string S[i].path) ∧ u.cell? ⟨g1, o1 + i * 5 + 1, none⟩ = some (.bool S[i].dir) ∧ u.cell? ⟨g1, o1 + i * 5 + 2, none⟩ = some (.int .i64 S[i].id) ∧ u.cell? ⟨g1, o1 + i * 5 + 3, none⟩ = some (.int .i64 S[i].size) ∧ u.cell? ⟨g1, o1 + i * 5 + 4, none⟩ = some (.int .i64 S[i].mode)) := fun u hu => by
            have hh := (h1.below hu hb1) i hlt
            have x0 := hh 0 _ rfl
            have x1 := hh 1 _ rfl
            have x2 := hh 2 _ rfl
            have x3 := hh 3 _ rfl
            have x4 := hh 4 _ rfl
            simp only [Nat.zero_add, Nat.add_zero] at x0 x1 x2 x3 x4
            exact ⟨x0, x1, x2, x3, x4⟩
          have HCT : Hid (∀ u : World, Below w.heap.size w u → u.cell? ⟨g2, o2 + j * 5, none⟩ = some (.string T[j].path) ∧ u.cell? ⟨g2, o2 + j * 5 + 1, none⟩ = some (.bool T[j].dir) ∧ u.cell? ⟨g2, o2 + j * 5 + 2, none⟩ = some (.int .i64 T[j].id) ∧ u.cell? ⟨g2, o2 + j * 5 + 3, none⟩ = some (.int .i64 T[j].size) ∧ u.cell? ⟨g2, o2 + j * 5 + 4, none⟩ = some (.int .i64 T[j].mode)) := fun u hu => by
            have hh := (h2.below hu hb2) j hlt2
            have x0 := hh 0 _ rfl
            have x1 := hh 1 _ rfl
            have x2 := hh 2 _ rfl
            have x3 := hh 3 _ rfl
            have x4 := hh 4 _ rfl
            simp only [Nat.zero_add, Nat.add_zero] at x0 x1 x2 x3 x4
            exact ⟨x0, x1, x2, x3, x4⟩
          have HG := hidD (diffL_both S S T i j hlt hlt2 hcm)
          generalize S[i] = eS at *
          generalize T[j] = eT at *
          obtain ⟨pS, dS, iS, zS, mS⟩ := eS
          obtain ⟨pT, dT, iT, zT, mT⟩ := eT
          obtain ⟨y0, y1, y2, y3, y4⟩ := HCS.out wr HBE.out
          obtain ⟨x0, x1, x2, x3, x4⟩ := HCT.out wr HBE.out
          dsimp only at *
          clear hown hbel
          by_cases he : eqB ⟨pS, dS, iS, zS, mS⟩ ⟨pT, dT, iT, zT, mT⟩ = true
          · have HE := hidD he
            obtain ⟨rfl, rfl, rfl, rfl, rfl⟩ := eqB_eq he
            clear he
            go_wp2
            go_quiet (first | (go_at_call 34; exact Calls.quiet_of (side_both g1 (o1 + i * 5) g2 (o2 + j * 5) _ _ _ _ pS pS _ hpS hpT (by omega) (by omega) hsS hsT y0 x0)))
            go_wp2
            rename Nat => n1
            go_quiet (fail)
            go_wp2
            exact ⟨⟨i + 1, j + 1, out, by omega, by omega, by go_num, by go_num, HO.out, bel_drewN HBE.out _, by rw [HD.out, HG.out, if_pos HE.out]⟩, by simp [intOf]; omega⟩
          · have hnq : ∀ u, (binOp .neq 54 (.agg #[.string pS, .bool dS, .int .i64 iS, .int .i64 zS, .int .i64 mS]) (.agg #[.string pT, .bool dT, .int .i64 iT, .int .i64 zT, .int .i64 mT])).run Tryz.prog u = .ok (.bool true) u := fun u => by
              rw [neq61]; simp only [Bool.not_eq_true] at he; rw [he]; rfl
            have HE := hidD he
            clear he
            go_wp2
            go_quiet (first | (go_at_call 34; exact Calls.quiet_of (side_both g1 (o1 + i * 5) g2 (o2 + j * 5) _ _ _ _ pS pT _ hpS hpT (by omega) (by omega) hsS hsT y0 x0)))
            go_wp2
            rename Nat => n1
            go_quiet (fail)
            go_wp2
            have HS2 : ∀ u : World, Below w.heap.size w u → Hid (∀ u' : World, Below u.heap.size u u' → Calls Tryz.prog 35 #[.slice (some ⟨g1, o1, none⟩) S.length c1, .agg #[.string pT, .bool dT, .int .i64 iT, .int .i64 zT, .int .i64 mT]] u' fun r w' => r = .returned (.string (srcB S ⟨pT, dT, iT, zT, mT⟩)) ∧ Below u'.heap.size u' w') := fun u hu u' hu' => HSR.out u' ⟨pT, dT, iT, zT, mT⟩ (hu.trans (hu'.mono hu.size))
            have HS3 := hidD HS2
            clear HS2 hnq
            go_region_held_law (fun u => (u.cell? ⟨g2, o2 + j * 5, none⟩ = some (.string pT) ∧ u.cell? ⟨g2, o2 + j * 5 + 1, none⟩ = some (.bool dT) ∧ u.cell? ⟨g2, o2 + j * 5 + 2, none⟩ = some (.int .i64 iT) ∧ u.cell? ⟨g2, o2 + j * 5 + 3, none⟩ = some (.int .i64 zT) ∧ u.cell? ⟨g2, o2 + j * 5 + 4, none⟩ = some (.int .i64 mT)) ∧ u.cell? ⟨g1, o1 + i * 5, none⟩ = some (.string pS) ∧ u.cell? ⟨g1, o1 + i * 5 + 1, none⟩ = some (.bool dS) ∧ u.cell? ⟨g1, o1 + i * 5 + 2, none⟩ = some (.int .i64 iS) ∧ u.cell? ⟨g1, o1 + i * 5 + 3, none⟩ = some (.int .i64 zS) ∧ u.cell? ⟨g1, o1 + i * 5 + 4, none⟩ = some (.int .i64 mS)) (go_keep) (first | (refine step_append_lies _ rfl (.tmp 44) (.tmp 55) 41 rfl w.heap.size 45 i0 _ 3 40 Tryz.underlying41 hi hz0 hz1 hz2 rfl (by decide) _ _ _ rfl (O1.alloc _) ⟨_, 0, none⟩ 1 1 (ChD.cells (chgB S ⟨pS, dS, iS, zS, mS⟩ ⟨pT, dT, iT, zT, mT⟩)) rfl rfl (new_ch _ _) (chCells_one _) (by decide) (by unfold maxLen; omega) (by omega) (by simp only [World.size_alloc]; omega) _ rfl ?_; intro gg cc w5 hown5 hg5 _ _; have R := grew (c := (chgB S ⟨pS, dS, iS, zS, mS⟩ ⟨pT, dT, iT, zT, mT⟩)) O1 B1 hown5 hg5; obtain ⟨z0, z1, z2, z3, z4⟩ := HCT.out w5 R.2; obtain ⟨q0, q1, q2, q3, q4⟩ := HCS.out w5 R.2) | (go_at_call 36; refine (change_any _ _ _ S ⟨pS, dS, iS, zS, mS⟩ ⟨pT, dT, iT, zT, mT⟩ _ (HS3.out _ (bel_drewN HBE.out _))).mono ?_; rintro r w4 ⟨rfl, hb4⟩; have B1 := (bel_drewN HBE.out _).trans (hb4.mono hbs); have O1 := own_below hb4 HO.out; obtain ⟨a0, a1, a2, a3, a4⟩ := HCT.out w4 B1; obtain ⟨k0, k1, k2, k3, k4⟩ := HCS.out w4 B1; have hb4s := B1.size))
            all_goals go_wp2
            all_goals exact ⟨⟨i + 1, j + 1, _, by omega, by omega, by go_num, by go_num, R.1, R.2, by rw [HD.out, HG.out, if_neg HE.out]; simp⟩, by simp [intOf]; omega⟩

        · have d0 : wr.cell? ⟨g1, o1 + i * 5, none⟩ = some (.string S[i].path) := by
            have := (h1.below HBE.out hb1) i hlt 0 _ rfl
            simpa using this
          have HM0 := hidD (diffL_made S S T i j hlt2 (fun _ => hcm))
          generalize S[i].path = pth at *
          have HCT : Hid (∀ u : World, Below w.heap.size w u → u.cell? ⟨g2, o2 + j * 5, none⟩ = some (.string T[j].path) ∧ u.cell? ⟨g2, o2 + j * 5 + 1, none⟩ = some (.bool T[j].dir) ∧ u.cell? ⟨g2, o2 + j * 5 + 2, none⟩ = some (.int .i64 T[j].id) ∧ u.cell? ⟨g2, o2 + j * 5 + 3, none⟩ = some (.int .i64 T[j].size) ∧ u.cell? ⟨g2, o2 + j * 5 + 4, none⟩ = some (.int .i64 T[j].mode)) := fun u hu => by
            have hh := (h2.below hu hb2) j hlt2
            have x0 := hh 0 _ rfl
            have x1 := hh 1 _ rfl
            have x2 := hh 2 _ rfl
            have x3 := hh 3 _ rfl
            have x4 := hh 4 _ rfl
            simp only [Nat.zero_add, Nat.add_zero] at x0 x1 x2 x3 x4
            exact ⟨x0, x1, x2, x3, x4⟩
          have HG := hidD (HM0.out)
          generalize T[j] = eT at *
          obtain ⟨pT, dT, iT, zT, mT⟩ := eT
          obtain ⟨x0, x1, x2, x3, x4⟩ := HCT.out wr HBE.out
          dsimp only at *
          clear hown hbel
          go_wp2
          go_quiet (first | (go_at_call 34; exact Calls.quiet_of (side_both g1 (o1 + i * 5) g2 (o2 + j * 5) _ _ _ _ pth pT _ hpS hpT (by omega) (by omega) hsS hsT d0 x0)))
          go_wp2
          go_region_held_law (fun u => u.cell? ⟨g2, o2 + j * 5, none⟩ = some (.string pT) ∧ u.cell? ⟨g2, o2 + j * 5 + 1, none⟩ = some (.bool dT) ∧ u.cell? ⟨g2, o2 + j * 5 + 2, none⟩ = some (.int .i64 iT) ∧ u.cell? ⟨g2, o2 + j * 5 + 3, none⟩ = some (.int .i64 zT) ∧ u.cell? ⟨g2, o2 + j * 5 + 4, none⟩ = some (.int .i64 mT)) (go_keep) (first | (refine step_append_lies _ rfl (.tmp 78) (.tmp 91) 41 rfl w.heap.size 45 i0 _ 3 40 Tryz.underlying41 hi hz0 hz1 hz2 rfl (by decide) _ _ _ rfl (O1.alloc _) ⟨_, 0, none⟩ 1 1 (ChD.cells ⟨pT, 1, srcB S ⟨pT, dT, iT, zT, mT⟩⟩) rfl rfl (new_ch _ _) (chCells_one _) (by decide) (by unfold maxLen; omega) (by omega) (by simp only [World.size_alloc]; omega) _ rfl ?_; intro gg cc w5 hown5 hg5 _ _; have R := grew (c := ⟨pT, 1, srcB S ⟨pT, dT, iT, zT, mT⟩⟩) O1 B1 hown5 hg5; obtain ⟨z0, z1, z2, z3, z4⟩ := HCT.out w5 R.2) | (go_at_call 35; refine (HSR.out _ ⟨pT, dT, iT, zT, mT⟩ (bel_drewN HBE.out _)).mono ?_; rintro r w4 ⟨rfl, hb4⟩; have B1 := (bel_drewN HBE.out _).trans (hb4.mono hbs); have O1 := own_below hb4 HO.out; obtain ⟨y0, y1, y2, y3, y4⟩ := HCT.out w4 B1; have hb4s := B1.size))
          all_goals go_wp2
          all_goals exact ⟨⟨i, j + 1, _, by omega, by omega, rfl, by go_num, R.1, R.2, by rw [HD.out, HG.out]; simp⟩, by simp [intOf]; omega⟩

      · have hz : T.length - j = 0 := by omega
        rw [hz] at sl2

        have c0 : wr.cell? ⟨g1, o1 + i * 5, none⟩ = some (.string S[i].path) := by
          have := (h1.below HBE.out hb1) i hlt 0 _ rfl
          simpa using this
        have HG := hidD (diffL_gone S S T i j hlt (fun h => by omega))
        generalize S[i].path = pth at *
        clear hown hbel
        go_wp2
        go_quiet (first | (go_at_call 34; exact Calls.quiet_of_same (side_t0 _ _ _ _ _ _)))
        go_wp2_with (at_builtin; refine wpList_append_own _ rfl (.tmp 64) (.tmp 71) 41 rfl w.heap.size 45 i0 _ 3 40 Tryz.underlying41 hi hz0 hz1 hz2 rfl (by decide) _ _ _ rfl (HO.out.alloc _) ⟨_, 0, none⟩ 1 1 (ChD.cells ⟨pth, 2, ⟨#[]⟩⟩) rfl rfl (new_ch _ _) (chCells_one _) (by unfold maxLen; omega) (by omega) (by simp only [World.size_alloc, World.drewN]; omega) ?_; intro v1 w1 hown1 hg1 _)
        have R := grew (w1 := wr.drewN nq) (c := ⟨pth, 2, ⟨#[]⟩⟩) HO.out (HBE.out.trans ⟨rfl, rfl, rfl, Nat.le_refl _, fun _ _ => rfl⟩) hown1 hg1
        clear hown1 hg1
        go_wp2
        exact ⟨⟨i + 1, j, _, by omega, by omega, by go_num, rfl, R.1, R.2, by rw [HD.out, HG.out]; simp⟩, by simp [intOf]; omega⟩

    · by_cases hlt2 : j < T.length
      · obtain rfl := hp2 hlt2
        have hz : S.length - i = 0 := by omega
        have hpT : 0 < T.length - j := by omega
        rw [hz] at sl1

        have HCT : Hid (∀ u : World, Below w.heap.size w u → u.cell? ⟨g2, o2 + j * 5, none⟩ = some (.string T[j].path) ∧ u.cell? ⟨g2, o2 + j * 5 + 1, none⟩ = some (.bool T[j].dir) ∧ u.cell? ⟨g2, o2 + j * 5 + 2, none⟩ = some (.int .i64 T[j].id) ∧ u.cell? ⟨g2, o2 + j * 5 + 3, none⟩ = some (.int .i64 T[j].size) ∧ u.cell? ⟨g2, o2 + j * 5 + 4, none⟩ = some (.int .i64 T[j].mode)) := fun u hu => by
          have hh := (h2.below hu hb2) j hlt2
          have x0 := hh 0 _ rfl
          have x1 := hh 1 _ rfl
          have x2 := hh 2 _ rfl
          have x3 := hh 3 _ rfl
          have x4 := hh 4 _ rfl
          simp only [Nat.zero_add, Nat.add_zero] at x0 x1 x2 x3 x4
          exact ⟨x0, x1, x2, x3, x4⟩
        have HG := hidD (diffL_made S S T i j hlt2 (fun h => by omega))
        generalize T[j] = eT at *
        obtain ⟨pT, dT, iT, zT, mT⟩ := eT
        obtain ⟨x0, x1, x2, x3, x4⟩ := HCT.out wr HBE.out
        dsimp only at *
        clear hown hbel
        go_wp2
        go_quiet (first | (go_at_call 34; exact Calls.quiet_of_same (side_s0 _ _ _ _ _ _ hpT (by omega))))
        go_wp2
        go_region_held_law (fun u => u.cell? ⟨g2, o2 + j * 5, none⟩ = some (.string pT) ∧ u.cell? ⟨g2, o2 + j * 5 + 1, none⟩ = some (.bool dT) ∧ u.cell? ⟨g2, o2 + j * 5 + 2, none⟩ = some (.int .i64 iT) ∧ u.cell? ⟨g2, o2 + j * 5 + 3, none⟩ = some (.int .i64 zT) ∧ u.cell? ⟨g2, o2 + j * 5 + 4, none⟩ = some (.int .i64 mT)) (go_keep) (first | (refine step_append_lies _ rfl (.tmp 78) (.tmp 91) 41 rfl w.heap.size 45 i0 _ 3 40 Tryz.underlying41 hi hz0 hz1 hz2 rfl (by decide) _ _ _ rfl (O1.alloc _) ⟨_, 0, none⟩ 1 1 (ChD.cells ⟨pT, 1, srcB S ⟨pT, dT, iT, zT, mT⟩⟩) rfl rfl (new_ch _ _) (chCells_one _) (by decide) (by unfold maxLen; omega) (by omega) (by simp only [World.size_alloc]; omega) _ rfl ?_; intro gg cc w5 hown5 hg5 _ _; have R := grew (c := ⟨pT, 1, srcB S ⟨pT, dT, iT, zT, mT⟩⟩) O1 B1 hown5 hg5; obtain ⟨z0, z1, z2, z3, z4⟩ := HCT.out w5 R.2) | (go_at_call 35; refine (HSR.out _ ⟨pT, dT, iT, zT, mT⟩ (bel_drewN HBE.out _)).mono ?_; rintro r w4 ⟨rfl, hb4⟩; have B1 := (bel_drewN HBE.out _).trans (hb4.mono hbs); have O1 := own_below hb4 HO.out; obtain ⟨y0, y1, y2, y3, y4⟩ := HCT.out w4 B1; have hb4s := B1.size))
        all_goals go_wp2
        all_goals exact ⟨⟨i, j + 1, _, by omega, by omega, rfl, by go_num, R.1, R.2, by rw [HD.out, HG.out]; simp⟩, by simp [intOf]; omega⟩

      · have HE := hidD (diffL_end S S T i j (by first | simp | omega) (by first | simp | omega))
        clear hown hbel
        go_wp2
        go_ret2
        have hL : diffL S S T = out := by rw [HD.out, HE.out, List.append_nil]
        exact ⟨_, rfl, by rw [hL]; exact HO.out, HBE.out⟩

set_option maxHeartbeats 8000000 in
set_option maxRecDepth 100000 in
theorem diff_sn (g1 o1 c1 : Nat) (S : List EntD) (w : World) (hl1 : S.length ≤ 2000000) (hc1 : S.length ≤ c1) (hs1 : ∀ o ∈ S, o.small) (hb1 : g1 < w.heap.size) (h1 : EntsAt w g1 o1 S) 
    (HTS : Hid (∀ u : World, Below w.heap.size w u → Calls Tryz.prog 33 #[.slice (some ⟨g1, o1, none⟩) S.length c1] u fun e u' => e = .returned (.bool true) ∧ Below u.heap.size u u'))
    (HTT : Hid (∀ u : World, Below w.heap.size w u → Calls Tryz.prog 33 #[.slice none 0 0] u fun e u' => e = .returned (.bool true) ∧ Below u.heap.size u u'))
    (HSR : Hid (∀ (u : World) (c : EntD), Below w.heap.size w u → Calls Tryz.prog 35 #[.slice (some ⟨g1, o1, none⟩) S.length c1, .agg #[.string c.path, .bool c.dir, .int .i64 c.id, .int .i64 c.size, .int .i64 c.mode]] u fun r w' => r = .returned (.string (srcB S c)) ∧ Below u.heap.size u w')) :
    Calls Tryz.prog 22 #[.slice (some ⟨g1, o1, none⟩) S.length c1, .slice none 0 0] w fun e w' => ∃ v, e = .returned (.tuple #[v, .int .i64 0]) ∧ w'.ownsRow w.heap.size 45 3 v (diffL S S []).length (flatC (diffL S S [])) ∧ Below w.heap.size w w' := by
  obtain ⟨i0, hi, hz0, hz1, hz2⟩ := info_parts info64b
  have HL := hidD (diffL_len S _ S [] (Nat.le_refl _))
  go_enter Tryz.func22, Tryz.ntmps22
  go_wp2_with fail
  refine (HTS.out w (Below.refl _ _)).mono ?_
  rintro e w1 ⟨rfl, hb1'⟩
  go_wp2_with fail
  refine (HTT.out w1 hb1').mono ?_
  rintro e w2 ⟨rfl, hb2'⟩
  have HB2 : Hid (Below w.heap.size w w2) := hb1'.trans (hb2'.mono hb1'.size)
  clear hb1' hb2' HTS HTT
  go_wp2
  go_loopw [6, 7, 8, 9] (fun vc vi vj vs wr => ∃ (i j : Nat) (out : List ChD), i ≤ (S : List EntD).length ∧ j ≤ ([] : List EntD).length ∧ vi = .int .i64 i ∧ vj = .int .i64 j ∧ wr.ownsRow w.heap.size 45 3 vc out.length (flatC out) ∧ Below w.heap.size w wr ∧ diffL S S [] = out ++ diffL S ((S : List EntD).drop i) (([] : List EntD).drop j)) (fun _ vi vj _ _ => ((S : List EntD).length - (intOf vi).toNat) + (([] : List EntD).length - (intOf vj).toNat))
  case atStart => exact ⟨0, 0, [], by simp, by simp, rfl, rfl, World.ownsRow_nil _ _ _ _, HB2.out, rfl⟩
  case round =>
    obtain ⟨i, j, out, hi1, hj1, rfl, rfl, hown, hbel, hd⟩ := hrel
    have HD := hidD hd
    have hol : out.length ≤ (S : List EntD).length + ([] : List EntD).length := by
      have := HL.out
      rw [hd, List.length_append] at this
      omega
    (try simp only [List.length_nil] at hol hi1 hj1)
    clear hd
    have HO := hidD hown
    have hbs := hbel.size
    have HBE := hidD hbel

    obtain ⟨p1, k1, sl1, hp1⟩ := slice22 g1 o1 S.length c1 i hi1 hc1
    have ext1 : (i : Int) ≤ (c1 : Int) := by omega

    obtain rfl : j = 0 := by simpa using hj1
    have sl2 := fun u => slice22n u

    by_cases hlt : i < S.length
    · obtain rfl := hp1 hlt
      have c0 : wr.cell? ⟨g1, o1 + i * 5, none⟩ = some (.string S[i].path) := by
        have := (h1.below HBE.out hb1) i hlt 0 _ rfl
        simpa using this
      have HG := hidD (diffL_gone S S [] i 0 hlt (fun h => by simp at h))
      generalize S[i].path = pth at *
      clear hown hbel
      go_wp2
      go_quiet (first | (go_at_call 34; exact Calls.quiet_of_same (side_t0 _ _ _ _ _ _)))
      go_wp2_with (at_builtin; refine wpList_append_own _ rfl (.tmp 64) (.tmp 71) 41 rfl w.heap.size 45 i0 _ 3 40 Tryz.underlying41 hi hz0 hz1 hz2 rfl (by decide) _ _ _ rfl (HO.out.alloc _) ⟨_, 0, none⟩ 1 1 (ChD.cells ⟨pth, 2, ⟨#[]⟩⟩) rfl rfl (new_ch _ _) (chCells_one _) (by unfold maxLen; omega) (by omega) (by simp only [World.size_alloc, World.drewN]; omega) ?_; intro v1 w1 hown1 hg1 _)
      have R := grew (w1 := wr.drewN nq) (c := ⟨pth, 2, ⟨#[]⟩⟩) HO.out (HBE.out.trans ⟨rfl, rfl, rfl, Nat.le_refl _, fun _ _ => rfl⟩) hown1 hg1
      clear hown1 hg1
      go_wp2
      exact ⟨⟨i + 1, 0, _, by omega, by omega, by go_num, rfl, R.1, R.2, by rw [HD.out, HG.out]; simp⟩, by simp [intOf]; omega⟩

    · have HE := hidD (diffL_end S S [] i 0 (by first | simp | omega) (by first | simp | omega))
      clear hown hbel
      go_wp2
      go_ret2
      have hL : diffL S S [] = out := by rw [HD.out, HE.out, List.append_nil]
      exact ⟨_, rfl, by rw [hL]; exact HO.out, HBE.out⟩

set_option maxHeartbeats 8000000 in
set_option maxRecDepth 100000 in
theorem diff_ns (g2 o2 c2 : Nat) (T : List EntD) (w : World) (hl2 : T.length ≤ 2000000) (hc2 : T.length ≤ c2) (hs2 : ∀ o ∈ T, o.small) (hb2 : g2 < w.heap.size) (h2 : EntsAt w g2 o2 T) 
    (HTS : Hid (∀ u : World, Below w.heap.size w u → Calls Tryz.prog 33 #[.slice none 0 0] u fun e u' => e = .returned (.bool true) ∧ Below u.heap.size u u'))
    (HTT : Hid (∀ u : World, Below w.heap.size w u → Calls Tryz.prog 33 #[.slice (some ⟨g2, o2, none⟩) T.length c2] u fun e u' => e = .returned (.bool true) ∧ Below u.heap.size u u'))
    (HSR : Hid (∀ (u : World) (c : EntD), Below w.heap.size w u → Calls Tryz.prog 35 #[.slice none 0 0, .agg #[.string c.path, .bool c.dir, .int .i64 c.id, .int .i64 c.size, .int .i64 c.mode]] u fun r w' => r = .returned (.string (srcB [] c)) ∧ Below u.heap.size u w')) :
    Calls Tryz.prog 22 #[.slice none 0 0, .slice (some ⟨g2, o2, none⟩) T.length c2] w fun e w' => ∃ v, e = .returned (.tuple #[v, .int .i64 0]) ∧ w'.ownsRow w.heap.size 45 3 v (diffL [] [] T).length (flatC (diffL [] [] T)) ∧ Below w.heap.size w w' := by
  obtain ⟨i0, hi, hz0, hz1, hz2⟩ := info_parts info64b
  have HL := hidD (diffL_len [] _ [] T (Nat.le_refl _))
  go_enter Tryz.func22, Tryz.ntmps22
  go_wp2_with fail
  refine (HTS.out w (Below.refl _ _)).mono ?_
  rintro e w1 ⟨rfl, hb1'⟩
  go_wp2_with fail
  refine (HTT.out w1 hb1').mono ?_
  rintro e w2 ⟨rfl, hb2'⟩
  have HB2 : Hid (Below w.heap.size w w2) := hb1'.trans (hb2'.mono hb1'.size)
  clear hb1' hb2' HTS HTT
  go_wp2
  go_loopw [6, 7, 8, 9] (fun vc vi vj vs wr => ∃ (i j : Nat) (out : List ChD), i ≤ ([] : List EntD).length ∧ j ≤ (T : List EntD).length ∧ vi = .int .i64 i ∧ vj = .int .i64 j ∧ wr.ownsRow w.heap.size 45 3 vc out.length (flatC out) ∧ Below w.heap.size w wr ∧ diffL [] [] T = out ++ diffL [] (([] : List EntD).drop i) ((T : List EntD).drop j)) (fun _ vi vj _ _ => (([] : List EntD).length - (intOf vi).toNat) + ((T : List EntD).length - (intOf vj).toNat))
  case atStart => exact ⟨0, 0, [], by simp, by simp, rfl, rfl, World.ownsRow_nil _ _ _ _, HB2.out, rfl⟩
  case round =>
    obtain ⟨i, j, out, hi1, hj1, rfl, rfl, hown, hbel, hd⟩ := hrel
    have HD := hidD hd
    have hol : out.length ≤ ([] : List EntD).length + (T : List EntD).length := by
      have := HL.out
      rw [hd, List.length_append] at this
      omega
    (try simp only [List.length_nil] at hol hi1 hj1)
    clear hd
    have HO := hidD hown
    have hbs := hbel.size
    have HBE := hidD hbel

    obtain rfl : i = 0 := by simpa using hi1
    have sl1 := fun u => slice22n u

    obtain ⟨p2, k2, sl2, hp2⟩ := slice22 g2 o2 T.length c2 j hj1 hc2
    have ext2 : (j : Int) ≤ (c2 : Int) := by omega

    by_cases hlt2 : j < T.length
    · obtain rfl := hp2 hlt2
      have hpT : 0 < T.length - j := by omega
      have HCT : Hid (∀ u : World, Below w.heap.size w u → u.cell? ⟨g2, o2 + j * 5, none⟩ = some (.string T[j].path) ∧ u.cell? ⟨g2, o2 + j * 5 + 1, none⟩ = some (.bool T[j].dir) ∧ u.cell? ⟨g2, o2 + j * 5 + 2, none⟩ = some (.int .i64 T[j].id) ∧ u.cell? ⟨g2, o2 + j * 5 + 3, none⟩ = some (.int .i64 T[j].size) ∧ u.cell? ⟨g2, o2 + j * 5 + 4, none⟩ = some (.int .i64 T[j].mode)) := fun u hu => by
        have hh := (h2.below hu hb2) j hlt2
        have x0 := hh 0 _ rfl
        have x1 := hh 1 _ rfl
        have x2 := hh 2 _ rfl
        have x3 := hh 3 _ rfl
        have x4 := hh 4 _ rfl
        simp only [Nat.zero_add, Nat.add_zero] at x0 x1 x2 x3 x4
        exact ⟨x0, x1, x2, x3, x4⟩
      have HG := hidD (diffL_made [] [] T 0 j hlt2 (fun h => by simp at h))
      generalize T[j] = eT at *
      obtain ⟨pT, dT, iT, zT, mT⟩ := eT
      obtain ⟨x0, x1, x2, x3, x4⟩ := HCT.out wr HBE.out
      dsimp only at *
      clear hown hbel
      go_wp2
      go_quiet (first | (go_at_call 34; exact Calls.quiet_of_same (side_s0 _ _ _ _ _ _ hpT (by omega))))
      go_wp2
      go_region_held_law (fun u => u.cell? ⟨g2, o2 + j * 5, none⟩ = some (.string pT) ∧ u.cell? ⟨g2, o2 + j * 5 + 1, none⟩ = some (.bool dT) ∧ u.cell? ⟨g2, o2 + j * 5 + 2, none⟩ = some (.int .i64 iT) ∧ u.cell? ⟨g2, o2 + j * 5 + 3, none⟩ = some (.int .i64 zT) ∧ u.cell? ⟨g2, o2 + j * 5 + 4, none⟩ = some (.int .i64 mT)) (go_keep) (first | (refine step_append_lies _ rfl (.tmp 78) (.tmp 91) 41 rfl w.heap.size 45 i0 _ 3 40 Tryz.underlying41 hi hz0 hz1 hz2 rfl (by decide) _ _ _ rfl (O1.alloc _) ⟨_, 0, none⟩ 1 1 (ChD.cells ⟨pT, 1, srcB [] ⟨pT, dT, iT, zT, mT⟩⟩) rfl rfl (new_ch _ _) (chCells_one _) (by decide) (by unfold maxLen; omega) (by omega) (by simp only [World.size_alloc]; omega) _ rfl ?_; intro gg cc w5 hown5 hg5 _ _; have R := grew (c := ⟨pT, 1, srcB [] ⟨pT, dT, iT, zT, mT⟩⟩) O1 B1 hown5 hg5; obtain ⟨z0, z1, z2, z3, z4⟩ := HCT.out w5 R.2) | (go_at_call 35; refine (HSR.out _ ⟨pT, dT, iT, zT, mT⟩ (bel_drewN HBE.out _)).mono ?_; rintro r w4 ⟨rfl, hb4⟩; have B1 := (bel_drewN HBE.out _).trans (hb4.mono hbs); have O1 := own_below hb4 HO.out; obtain ⟨y0, y1, y2, y3, y4⟩ := HCT.out w4 B1; have hb4s := B1.size))
      all_goals go_wp2
      all_goals exact ⟨⟨0, j + 1, _, by omega, by omega, rfl, by go_num, R.1, R.2, by rw [HD.out, HG.out]; simp⟩, by simp [intOf]; omega⟩

    · have HE := hidD (diffL_end [] [] T 0 j (by first | simp | omega) (by first | simp | omega))
      clear hown hbel
      go_wp2
      go_ret2
      have hL : diffL [] [] T = out := by rw [HD.out, HE.out, List.append_nil]
      exact ⟨_, rfl, by rw [hL]; exact HO.out, HBE.out⟩

set_option maxHeartbeats 8000000 in
set_option maxRecDepth 100000 in
theorem diff_nn (w : World) 
    (HTS : Hid (∀ u : World, Below w.heap.size w u → Calls Tryz.prog 33 #[.slice none 0 0] u fun e u' => e = .returned (.bool true) ∧ Below u.heap.size u u'))
    (HTT : Hid (∀ u : World, Below w.heap.size w u → Calls Tryz.prog 33 #[.slice none 0 0] u fun e u' => e = .returned (.bool true) ∧ Below u.heap.size u u'))
    (HSR : Hid (∀ (u : World) (c : EntD), Below w.heap.size w u → Calls Tryz.prog 35 #[.slice none 0 0, .agg #[.string c.path, .bool c.dir, .int .i64 c.id, .int .i64 c.size, .int .i64 c.mode]] u fun r w' => r = .returned (.string (srcB [] c)) ∧ Below u.heap.size u w')) :
    Calls Tryz.prog 22 #[.slice none 0 0, .slice none 0 0] w fun e w' => ∃ v, e = .returned (.tuple #[v, .int .i64 0]) ∧ w'.ownsRow w.heap.size 45 3 v (diffL [] [] []).length (flatC (diffL [] [] [])) ∧ Below w.heap.size w w' := by
  obtain ⟨i0, hi, hz0, hz1, hz2⟩ := info_parts info64b
  have HL := hidD (diffL_len [] _ [] [] (Nat.le_refl _))
  go_enter Tryz.func22, Tryz.ntmps22
  go_wp2_with fail
  refine (HTS.out w (Below.refl _ _)).mono ?_
  rintro e w1 ⟨rfl, hb1'⟩
  go_wp2_with fail
  refine (HTT.out w1 hb1').mono ?_
  rintro e w2 ⟨rfl, hb2'⟩
  have HB2 : Hid (Below w.heap.size w w2) := hb1'.trans (hb2'.mono hb1'.size)
  clear hb1' hb2' HTS HTT
  go_wp2
  go_loopw [6, 7, 8, 9] (fun vc vi vj vs wr => ∃ (i j : Nat) (out : List ChD), i ≤ ([] : List EntD).length ∧ j ≤ ([] : List EntD).length ∧ vi = .int .i64 i ∧ vj = .int .i64 j ∧ wr.ownsRow w.heap.size 45 3 vc out.length (flatC out) ∧ Below w.heap.size w wr ∧ diffL [] [] [] = out ++ diffL [] (([] : List EntD).drop i) (([] : List EntD).drop j)) (fun _ vi vj _ _ => (([] : List EntD).length - (intOf vi).toNat) + (([] : List EntD).length - (intOf vj).toNat))
  case atStart => exact ⟨0, 0, [], by simp, by simp, rfl, rfl, World.ownsRow_nil _ _ _ _, HB2.out, rfl⟩
  case round =>
    obtain ⟨i, j, out, hi1, hj1, rfl, rfl, hown, hbel, hd⟩ := hrel
    have HD := hidD hd
    have hol : out.length ≤ ([] : List EntD).length + ([] : List EntD).length := by
      have := HL.out
      rw [hd, List.length_append] at this
      omega
    (try simp only [List.length_nil] at hol hi1 hj1)
    clear hd
    have HO := hidD hown
    have hbs := hbel.size
    have HBE := hidD hbel

    obtain rfl : i = 0 := by simpa using hi1
    have sl1 := fun u => slice22n u

    obtain rfl : j = 0 := by simpa using hj1
    have sl2 := fun u => slice22n u

    have HE := hidD (diffL_end [] [] [] 0 0 (by first | simp | omega) (by first | simp | omega))
    clear hown hbel
    go_wp2
    go_ret2
    have hL : diffL [] [] [] = out := by rw [HD.out, HE.out, List.append_nil]
    exact ⟨_, rfl, by rw [hL]; exact HO.out, HBE.out⟩

end Go.Proofs.YtemkpollilhmjaaGreatDoor
