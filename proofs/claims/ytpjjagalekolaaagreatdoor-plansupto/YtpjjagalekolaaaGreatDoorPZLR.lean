/- The law itself: the call of Plans answers true. -/
import Derived.Test.YtpjjagalekolaaaGreatDoorPZLQ
namespace Go.Proofs.YtpjjagalekolaaaGreatDoor
open Go.RowKit
set_option linter.unusedVariables false
set_option linter.unusedSimpArgs false

theorem looks_ou {w0 w : World} {bk kk : Nat} (h : LawInv w0 bk kk w) (hk : kk ≤ 1000000) :
    Calls Tryz.prog 18 #[.pointer (some ⟨bk, 0, none⟩)] w fun e w' => e = .returned (.bool true) ∧ ∃ n, w' = w.drewN n := by
  obtain ⟨hbel, hlt2, cv, cs, i1, i2, i3, i4⟩ := h
  rcases i2.2 with ⟨rfl, _⟩ | ⟨g, cap, cur, hcv, _⟩
  · exact looks_nil bk w i1
  · rw [hcv, ← i3] at i1 i2
    exact looks_ob bk w0.heap.size g cap cs w (by omega) i1 i2 i4.book

set_option maxHeartbeats 8000000 in
set_option maxRecDepth 100000 in
theorem plans_any (sv tv nv : Value) (fold : Bool) (s t : List EntD) (store : List Int) (w : World) (hs : RowAt w sv s) (ht : RowAt w tv t) (hn : IntsAt w nv store) (ss : SmallL s) (st : SmallL t) (hln : store.length ≤ 2000000) :
    Calls Tryz.prog 3 #[sv, tv, .bool fold, nv] w fun e w' => e = .returned (.bool true) ∧ Below w.heap.size w w' := by
  have HS := hidD hs
  have HT := hidD ht
  have HN := hidD hn
  have HSS := hidD ss
  have HST := hidD st
  have hls := ss.1
  have hlt := st.1
  obtain ⟨sa, sc, hsv⟩ := hs.val
  obtain ⟨ta, tc, htv⟩ := ht.val
  obtain ⟨na, nc, hnv⟩ := hn.val
  subst hsv htv hnv
  clear hs ht hn ss st
  have HOK := hidD (fun h => refL_ok (fold := fold) (s := s) (t := t) (store := store) h)
  obtain ⟨r1, h1⟩ : ∃ r, (refL fold s t store).1 = r := ⟨_, rfl⟩
  obtain ⟨r2, h2⟩ : ∃ r, (refL fold s t store).2 = r := ⟨_, rfl⟩
  rw [h1] at HOK
  have HR1 := hidD h1
  have HR2 := hidD h2
  clear h1 h2
  go_enter Tryz.func3, Tryz.ntmps3
  go_wp2_with fail
  refine (aliveL w).mono ?_
  rintro e w1 ⟨rfl, hb1⟩
  have I0 := hidD (LawInv.start w w1 hb1)
  clear hb1
  go_wp2_with fail
  go_loopw [11] (fun k wr => ∃ kk jj : Nat, kk ≤ 2 ∧ jj ≤ 2 ∧ k = .int .i64 kk ∧ Hid (LawInv w w1.heap.size jj wr) ∧ jj ≤ kk) (fun k _ => 2 - (intOf k).toNat)
  case atStart => exact ⟨0, 0, by omega, by omega, rfl, I0, by omega⟩
  case round =>
    obtain ⟨kk, jj, hkk, hjj, rfl, HI, hjk⟩ := hrel
    clear I0
    by_cases hlt2 : kk < 2
    · go_wp2_with fail
      refine (roomy_u (HS.out.below HI.out.bel (Nat.le_refl _)) hls).mono ?_
      rintro e w2 ⟨x, rfl, px, hb2⟩
      have PX2 := hidD px
      have B2 := hidD hb2
      clear px hb2
      obtain ⟨xa, xc, hx⟩ := PX2.out.rm.val
      subst hx
      go_wp2_with fail
      refine (roomy_u (HT.out.below (HI.out.bel.trans (B2.out.mono HI.out.bel.size)) (Nat.le_refl _)) hlt).mono ?_
      rintro e w3 ⟨y, rfl, py, hb3⟩
      have PX3 := hidD (PX2.out.below hb3)
      have PY3 := hidD py
      have B3 := hidD (B2.out.trans (hb3.mono B2.out.size))
      clear py hb3 PX2 B2
      obtain ⟨ya, yc, hy⟩ := PY3.out.rm.val
      subst hy
      go_wp2_with fail
      refine (roomyI_u (HN.out.below (HI.out.bel.trans (B3.out.mono HI.out.bel.size)) (Nat.le_refl _)) hln).mono ?_
      rintro e w4 ⟨z, rfl, pz, hb4⟩
      have PX4 := hidD (PX3.out.below hb4)
      have PY4 := hidD (PY3.out.below hb4)
      have PZ4 := hidD pz
      have B4 := hidD (B3.out.trans (hb4.mono B3.out.size))
      clear pz hb4 PX3 PY3 B3
      obtain ⟨za, zc, hz⟩ := PZ4.out.rm.val
      subst hz
      go_wp2_with fail
      refine (facePlan PX4.out.rm PY4.out.rm PZ4.out.rm HSS.out HST.out hln).mono ?_
      rintro e w5 ⟨v5, rfl, hb5, h1, h2⟩
      rw [HR1.out] at h1 h2
      rw [HR1.out, HR2.out]
      obtain ⟨oa, on, oc, hov⟩ : ∃ a n c, v5 = .slice a n c := by
        by_cases h0 : r1 = 0
        · obtain ⟨ops, ho, _⟩ := h1 h0
          exact shape_of ho
        · exact ⟨_, _, _, h2 h0⟩
      subst hov
      have H1 := hidD h1
      have H2 := hidD h2
      have PX5 := hidD (PX4.out.below hb5)
      have PY5 := hidD (PY4.out.below hb5)
      have PZ5 := hidD (PZ4.out.below hb5)
      have hz45 := hb5.size
      have B5 := hidD (B4.out.trans (hb5.mono B4.out.size))
      have hz4 := B4.out.size
      clear h1 h2 hb5 PX4 PY4 PZ4 B4
      have W5 := hidD (HI.out.bel.trans (B5.out.mono HI.out.bel.size))
      go_wp2_with fail
      refine (planErr11 (fold := fold) (HS.out.below W5.out (Nat.le_refl _)) (HT.out.below W5.out (Nat.le_refl _)) (HN.out.below W5.out (Nat.le_refl _)) HSS.out HST.out hln).mono ?_
      rintro e w6 ⟨rfl, hb6⟩
      rw [HR1.out, HR2.out]
      have PX6 := hidD (PX5.out.below hb6)
      have PY6 := hidD (PY5.out.below hb6)
      have PZ6 := hidD (PZ5.out.below hb6)
      have C6 := hidD hb6
      clear hb6 PX5 PY5 PZ5 W5
      go_wp2_with fail
      refine (kept_u PX6.out hls).mono ?_
      rintro e w7 ⟨rfl, hb7⟩
      have PY7 := hidD (PY6.out.below hb7)
      have PZ7 := hidD (PZ6.out.below hb7)
      have C7 := hidD (C6.out.trans (hb7.mono C6.out.size))
      clear hb7 PX6 PY6 PZ6 C6
      go_wp2_with fail
      refine (kept_u PY7.out hlt).mono ?_
      rintro e w8 ⟨rfl, hb8⟩
      have PZ8 := hidD (PZ7.out.below hb8)
      have C8 := hidD (C7.out.trans (hb8.mono C7.out.size))
      clear hb8 PY7 PZ7 C7
      go_wp2_with fail
      refine (keptI_u PZ8.out hln).mono ?_
      rintro e w9 ⟨rfl, hb9⟩
      have C9 := hidD (C8.out.trans (hb9.mono C8.out.size))
      clear hb9 PZ8 C8
      have B9 := hidD (B5.out.trans (C9.out.mono B5.out.size))
      have e1 : (r1 != r1) = false := by simp
      have e2 : (r2 != r2) = false := by simp
      by_cases h0 : r1 = 0
      · subst h0
        obtain ⟨ops, ho, hp⟩ := H1.out rfl
        have hn5 : on = ops.length := by
          obtain ⟨a', c', hv'⟩ := row_shape0 ho
          cases hv'
          rfl
        subst hn5
        have PT := hidD (hp.told HSS.out HST.out (HOK.out rfl).2.1)
        have O9 := hidD (own_belowK C9.out ho)
        obtain ⟨n, htry⟩ := PT.out.try_
        have hX := (tryP_space fold s ops).trans htry
        have HX := hidD hX
        have hlen := PT.out.len
        have W9 := hidD (HI.out.bel.trans (B9.out.mono HI.out.bel.size))
        have hz49 := Nat.le_trans hz45 C9.out.size
        clear ho hp H1 H2 htry hX C9 B5 hz45
        go_wp2_with (go_at_call 14; refine (num_anyL _ _).mono ?_; rintro e w' ⟨rfl, rfl⟩)
        refine (Calls.mono (refTry fold (HS.out.below W9.out (Nat.le_refl _)) HSS.out (OpRow.ofOwn O9.out) (by omega) PT.out.small _ HX.out) ?_)
        intro e w10 hpost
        obtain ⟨vu, rfl, hm, hb10⟩ := hpost.one
        clear hpost
        dsimp only [rM, rN, rC, rK] at hm ⊢
        have M10 := hidD hm
        have O10 := hidD (own_belowK hb10 O9.out)
        have B10 := hidD (B9.out.trans (hb10.mono B9.out.size))
        have hz9 := B9.out.size
        have hz910 := hb10.size
        obtain ⟨ua, uc, hu⟩ := M10.out.val
        subst hu
        clear hm hb10 O9 B9 W9
        have W10 := hidD (HI.out.bel.trans (B10.out.mono HI.out.bel.size))
        go_wp2_with fail
        refine (sameF M10.out (HT.out.below W10.out (Nat.le_refl _)) hlt).mono ?_
        rintro e w11 ⟨rfl, hb11⟩
        have O11 := hidD (own_belowK hb11 O10.out)
        have B11 := hidD (B10.out.trans (hb11.mono B10.out.size))
        have hz11 := hb11.size
        have hz10 := B10.out.size
        clear hb11 O10 B10 M10 W10
        have HBU := hidD (book_u HI.out B11.out hz4 (by omega) (by omega) (by omega) O11.out)
        go_wp2_with fail
        refine HBU.out.mono ?_
        rintro e w12 ⟨rfl, hi12, _⟩
        have HI12 := hidD hi12
        clear hi12 HBU HI O11 B11
        go_wp2_with fail
        exact ⟨⟨kk + 1, jj + 1, by omega, by omega, by go_num, HI12, by omega⟩, by simp [intOf]; omega⟩
      · have hv5 := H2.out h0
        cases hv5
        have h0' : (r1 != 0) = true := by simp [h0]
        have HI9 := hidD (HI.out.below B9.out)
        clear H1 H2 h0 HI
        go_wp2_with (go_at_call 14; refine (num_anyL _ _).mono ?_; rintro e w' ⟨rfl, rfl⟩)
        exact ⟨⟨kk + 1, jj, by omega, by omega, by go_num, HI9, by omega⟩, by simp [intOf]; omega⟩
    · have hk2 : kk = 2 := by omega
      subst hk2
      have HK := hidD (looks_ou HI.out (by omega))
      have HBL := hidD HI.out.bel
      go_wp2_with fail
      refine HK.out.mono ?_
      rintro e w9 ⟨rfl, nn, rfl⟩
      have B9 := hidD (HBL.out.trans (below_drewNB wr nn))
      clear HK HBL
      go_wp2_with fail
      go_ret
      exact ⟨rfl, B9.out⟩
end Go.Proofs.YtpjjagalekolaaaGreatDoor
