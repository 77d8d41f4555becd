/- The law Mirror: the other way round the same paths differ. -/
import Derived.Test.YtemkpollilhmjaaGreatDoorUJD
import Derived.Test.YtemkpollilhmjaaGreatDoorU18
namespace Go.Proofs.YtemkpollilhmjaaGreatDoor
open Go.RowKit
set_option linter.unusedVariables false
set_option linter.unusedSimpArgs false

theorem ch_cell {w : World} {B g c i : Nat} {l : List ChD} (h : w.ownsRow B 45 3 (.slice (some ⟨g, 0, none⟩) l.length c) l.length (flatC l)) (hi : i < l.length) : w.cell? ⟨g, i * 3, none⟩ = some (.string l[i].path) ∧ w.cell? ⟨g, i * 3 + 1, none⟩ = some (.int .i64 l[i].kind) := by
  have key : ∀ j u, (flatC l)[j]? = some u → w.cell? ⟨g, j, none⟩ = some u := fun j u hu => by
    have := (List.getElem?_eq_some_iff.1 hu).1
    rw [flatC_length] at this
    rw [h.cellAt j this]; exact hu
  exact ⟨key _ _ (flatC_get l i hi 0 (by omega)), key _ _ (flatC_get l i hi 1 (by omega))⟩

set_option maxHeartbeats 8000000 in
set_option maxRecDepth 100000 in
theorem mirror_any (a b : Value) (S T : List EntD) (w : World) (hg : Gd w) (hs : RowAt w a S) (ht : RowAt w b T) (sS : SmallL S) (sT : SmallL T) :
    Calls Tryz.prog 5 #[a, b] w fun e w' => e = .returned (.bool true) ∧ Below w.heap.size w w' := by
  have HS := hidD hs
  have HT := hidD ht
  have HSS := hidD sS
  have HST := hidD sT
  have HG := hidD hg
  have fewA := lst_few S T sS.1 sT.1
  obtain ⟨sa, sc, rfl⟩ := hs.val
  obtain ⟨ta, tc, rfl⟩ := ht.val
  clear hs ht sS sT hg
  go_enter Tryz.func5, Tryz.ntmps5
  go_wp2_with fail
  refine (alive_any _ HG.out).mono ?_
  rintro e w1 ⟨rfl, hb1⟩
  have B1 := hidD hb1
  clear hb1
  have D := hidD (fun (v1 v2 : Value) (X Y : List EntD) (u : World) (hx : RowAt u v1 X) (hy : RowAt u v2 Y) (sx : SmallL X) (sy : SmallL Y) => faceDiff (pdiff hx hy sx.1 sy.1 sx.2 sy.2))
  go_wp2_with fail
  refine (D.out _ _ S T w1 (HS.out.below B1.out (Nat.le_refl _)) (HT.out.below B1.out (Nat.le_refl _)) HSS.out HST.out).mono ?_
  rintro e w2 ⟨v2, rfl, ho2, hb2⟩
  obtain ⟨a2, n2, c2, hv2⟩ := shape_of ho2
  subst hv2
  have B2 := hidD (B1.out.trans (hb2.mono B1.out.size))
  have R2 := hidD ho2
  clear ho2 hb2 B1
  go_wp2_with fail
  refine (D.out _ _ T S w2 (HT.out.below B2.out (Nat.le_refl _)) (HS.out.below B2.out (Nat.le_refl _)) HST.out HSS.out).mono ?_
  rintro e w3 ⟨v3, rfl, ho3, hb3⟩
  obtain ⟨a3, n3, c3, hv3⟩ := shape_of ho3
  subst hv3
  have B3 := hidD (B2.out.trans (hb3.mono B2.out.size))
  have RA3 := hidD (own_belowK hb3 R2.out)
  have RB3 := hidD ho3
  clear ho3 hb3 B2 R2
  go_wp2_with fail
  refine (D.out _ _ S S w3 (HS.out.below B3.out (Nat.le_refl _)) (HS.out.below B3.out (Nat.le_refl _)) HSS.out HSS.out).mono ?_
  rintro e w4 ⟨v4, rfl, ho4, hb4⟩
  rw [lst_self] at ho4
  obtain ⟨a4, c4, hv4⟩ := row_shape0 ho4
  subst hv4
  have B4 := hidD (B3.out.trans (hb4.mono B3.out.size))
  have RA4 := hidD (own_belowK hb4 RA3.out)
  have RB4 := hidD (own_belowK hb4 RB3.out)
  clear ho4 hb4 B3 RA3 RB3 D
  rw [err_comm S T]
  obtain ⟨p1, p2, hp⟩ := row_shape0 RA4.out
  obtain ⟨q1, q2, hq⟩ := row_shape0 RB4.out
  rw [lst_len S T] at hq
  simp only [Value.slice.injEq] at hp hq
  obtain ⟨rfl, rfl, rfl⟩ := hp
  obtain ⟨rfl, rfl, rfl⟩ := hq
  have AT := hidD (lst_at S T)
  have LL := hidD (lst_len S T)
  have two := err_two S T
  clear HS HT HSS HST HG
  generalize hLA : lstL S T = LA at *
  generalize hLB : lstL T S = LB at *
  generalize hgv : errL S S = gv at *
  generalize hev : errL S T = ev at *
  clear hLA hLB hgv hev
  have LL2 := LL.out
  have hne : ((LA.length : Int) != (LA.length : Int)) = false := by simp
  rcases two with ⟨rfl, rfl⟩ | ⟨rfl, rfl⟩
  · go_wp2_with fail
    go_loopw [12] (fun iv wr => ∃ i n : Nat, i ≤ LA.length ∧ iv = .int .i64 i ∧ wr = w4.drewN n) (fun iv _ => LA.length - (intOf iv).toNat)
    case atStart => exact ⟨0, 0, Nat.zero_le _, rfl, rfl⟩
    case round =>
      obtain ⟨i, n, hi, rfl, rfl⟩ := hrel
      by_cases hlt : i < LA.length
      · have hlt' : (i : Int) < (LA.length : Int) := by omega
        have hltB : i < LB.length := by omega
        obtain ⟨g1, d1, hv1⟩ := row_form RA4.out (by omega)
        have RB5 := RB4.out
        rw [LL2] at RB5
        obtain ⟨g2, d2, hv2⟩ := row_form RB5 (by omega)
        cases hv1
        cases hv2
        have xa := ch_cell RA4.out hlt
        have xb := ch_cell (by rw [LL2]; exact RB5) hltB
        obtain ⟨e1, e2⟩ := AT.out i hlt hltB
        rw [e1, e2] at xb
        obtain ⟨xa0, xa1⟩ := xa
        obtain ⟨xb0, xb1⟩ := xb
        clear e1 e2
        generalize LA[i].path = pth at *
        generalize LA[i].kind = kd at *
        clear RB5
        by_cases k1 : kd = 1
        · subst k1
          rw [show swK 1 = 2 from rfl] at xb1
          go_wp2_with fail
          go_quiet (fail)
          go_wp2
          exact ⟨⟨i + 1, _, by omega, by go_num, rfl⟩, by simp [intOf]; omega⟩
        · by_cases k2 : kd = 2
          · subst k2
            rw [show swK 2 = 1 from rfl] at xb1
            go_wp2_with fail
            go_quiet (fail)
            go_wp2
            exact ⟨⟨i + 1, _, by omega, by go_num, rfl⟩, by simp [intOf]; omega⟩
          · have hk : swK kd = kd := by simp [swK, k1, k2]
            rw [hk] at xb1
            have z1 : (kd == 1) = false := by simpa using k1
            have z2 : (kd == 2) = false := by simpa using k2
            have z3 : (kd != kd) = false := by simp
            clear hk
            go_wp2_with fail
            go_quiet (fail)
            go_wp2
            exact ⟨⟨i + 1, _, by omega, by go_num, rfl⟩, by simp [intOf]; omega⟩
      · go_wp2_with fail
        go_ret
        exact ⟨rfl, B4.out.trans (below_drewNB _ n)⟩
  · simp only [List.length_nil] at *
    clear AT LL RA4 RB4
    go_wp2_with fail
    refine wp_loop_rounds 1 ?_
    rw [rounds_succ]
    go_wp2_with fail
    go_ret
    exact ⟨rfl, B4.out⟩
end Go.Proofs.YtemkpollilhmjaaGreatDoor
