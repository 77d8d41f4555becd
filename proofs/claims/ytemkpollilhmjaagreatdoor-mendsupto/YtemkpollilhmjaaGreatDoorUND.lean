/- The law Mends: a script that lacks space stays where it was, and goes on when there is more. -/
import Derived.Test.YtemkpollilhmjaaGreatDoorUNC
import Derived.Test.YtemkpollilhmjaaGreatDoorU18
namespace Go.Proofs.YtemkpollilhmjaaGreatDoor
open Go.RowKit
set_option linter.unusedVariables false
set_option linter.unusedSimpArgs false

theorem OwnV.row {u : World} {v : Value} {V : List EntD} (h : OwnV u v V) : RowAt u v V := by
  obtain ⟨B, h⟩ := h
  exact RowAt.ofOwn h
/-- Work with budget enough, and less space than may be wanted: all is done, or an operation lacks space. -/
theorem work_two {fold : Bool} {S M V' : List EntD} {l : List OpD} {n sp : Int} {m d m' d' : Nat} {e k : Int} (h : tryP fold 9223372036854775807 S l = .ok (M, n)) (hv : WkV fold (wayT fold S l) l V' m' d') (hw : WorkE fold sp l V' m d m' d' (100 * ((l.length : Int) + 1)) e k) : (e = 0 ∧ k = l.length ∧ d' = l.length) ∨ (e = 11 ∧ k = d' ∧ d' < l.length ∧ sp < usedL (wayT fold S l (d' + 1))) := by
  rcases hw with h1 | ⟨_, _, _, hmu⟩ | ⟨h1, h2, _, hlt, h11⟩
  · exact .inl h1
  · have h1 := hv.here.2.2
    have h2 := mu_le (l := l) (m := m) (d := d)
    omega
  · refine .inr ⟨h1, h2, hlt, do_full (s1 := 9223372036854775807) ?_ h11⟩
    rw [hv.here.2.1]
    exact (tryP_way h).2 d' hlt

set_option maxHeartbeats 16000000 in
set_option maxRecDepth 100000 in
theorem mends_any (sv : Value) (la : Option Addr) (lc : Nat) (fold : Bool) (S : List EntD) (l : List OpD) (c b : Int) (w : World) (hg : Gd w) (hs : RowAt w sv S) (ho : OpRow w (.slice la l.length lc) l) (hcap : l.length ≤ lc) (sS : SmallL S) (hl : l.length ≤ 2000000) (hos : ∀ o ∈ l, o.small) (hc : -9223372036854775808 ≤ c ∧ c ≤ 9223372036854775807) (hb : -9223372036854775808 ≤ b ∧ b ≤ 9223372036854775807) :
    Calls Tryz.prog 4 #[sv, .bool fold, .slice la l.length lc, .int .i64 c, .int .i64 b] w fun e w' => e = .returned (.bool true) ∧ Below w.heap.size w w' := by
  have HS := hidD hs
  have HO := hidD ho
  have HSS := hidD sS
  have HOS := hidD hos
  have HG := hidD hg
  obtain ⟨sa, sc, rfl⟩ := hs.val
  clear hs ho sS hos hg
  go_enter Tryz.func4, Tryz.ntmps4
  go_wp2_with fail
  refine (alive_any _ HG.out).mono ?_
  rintro e w1 ⟨rfl, hb1⟩
  have B1 := hidD hb1
  clear hb1
  have HN := hidD (fun (u : World) (hu : Below w.heap.size w u) => faceTry (vTry fold (HS.out.below hu (Nat.le_refl _)) HSS.out (HG.out.below hu) (OpRow.nil (w := u)) (by simp) (by simp) _ rfl))
  cases hX : tryP fold 9223372036854775807 S l with
  | error ck =>
    obtain ⟨c1, k1⟩ := ck
    have hc1 := tryP_err0 hX
    have hc2 : (c1 == 0) = false := by simpa using hc1
    have HE := hidD (faceTry (vTry fold (HS.out.below B1.out (Nat.le_refl _)) HSS.out (HG.out.below B1.out) (HO.out.below B1.out (Nat.le_refl _)) hl HOS.out _ hX))
    clear hX
    go_wp2_with fail
    refine HE.out.mono ?_
    rintro e w2 ⟨v2, rfl, ho2, hb2⟩
    simp only [rC, rN, rK, rM] at ho2 ⊢
    obtain ⟨p1, p2, p3, hp⟩ := shape_of ho2
    subst hp
    have B2 := hidD (B1.out.trans (hb2.mono B1.out.size))
    clear ho2 hb2 HE
    go_wp2_with fail
    refine (HN.out _ B2.out).mono ?_
    rintro e w3 ⟨v3, rfl, ho3, hb3⟩
    obtain ⟨q1, q2, q3, hq⟩ := shape_of ho3
    subst hq
    have B3 := hidD (B2.out.trans (hb3.mono B2.out.size))
    clear ho3 hb3 HN
    generalize rN _ = n3
    generalize rC _ = c3
    generalize rK _ = k3
    go_wp2_with fail
    go_ret
    exact ⟨rfl, B3.out⟩
  | ok Mn =>
    obtain ⟨M, n⟩ := Mn
    have HX := hidD hX
    have h4 := (try_ok hX).1
    have hn12 := tryP_few hX
    have hn0 := (tryP_need hX).1
    have hf0 := (used_le (tree_vol (try_tree hX))).1
    have HM := hidD (tryP_way hX).1
    have NN := hidD (tryP_none (try_tree hX))
    have HE := hidD (faceTry (vTry fold (HS.out.below B1.out (Nat.le_refl _)) HSS.out (HG.out.below B1.out) (HO.out.below B1.out (Nat.le_refl _)) hl HOS.out _ hX))
    clear hX
    go_wp2_with fail
    refine HE.out.mono ?_
    rintro e w2 ⟨v2, rfl, ho2, hb2⟩
    simp only [rC, rN, rK, rM] at ho2 ⊢
    obtain ⟨p1, p2, p3, hp⟩ := shape_of ho2
    subst hp
    have B2 := hidD (B1.out.trans (hb2.mono B1.out.size))
    have T2 := hidD (RowAt.ofOwn ho2)
    clear ho2 hb2 HE
    go_wp2_with fail
    refine (HN.out _ B2.out).mono ?_
    rw [NN.out]
    rintro e w3 ⟨v3, rfl, ho3, hb3⟩
    simp only [rC, rN, rK, rM] at ho3 ⊢
    obtain ⟨q1, q2, q3, hq⟩ := shape_of ho3
    subst hq
    have B3 := hidD (B2.out.trans (hb3.mono B2.out.size))
    have T3 := hidD (T2.out.below hb3 (Nat.le_refl _))
    clear ho3 hb3 HN NN T2
    have S3 := hidD (HS.out.below B3.out (Nat.le_refl _))
    have O3 := hidD (HO.out.below B3.out (Nat.le_refl _))
    have G3 := hidD (HG.out.below B3.out)
    have hbig := G3.out.big
    clear HS HO HG
    have US := hidD (rfl : usedL S = usedL S)
    generalize hfd : usedL S = f0 at *
    obtain ⟨q, hq⟩ := Int.eq_ofNat_of_zero_le (by omega : 0 ≤ n - f0 + 1)
    have hqe : n - f0 + 1 = (q : Int) := hq
    have hwA : IntKind.i64.wrap (n - f0) = n - f0 := by rw [IntKind.wrap_i64]; omega
    have hwB : IntKind.i64.wrap (n - f0 + 1) = (q : Int) := by rw [hqe, IntKind.wrap_i64]; omega
    go_wp2_with fail
    refine (pickK c q _ (by omega) (by omega) hc.1 hc.2).mono ?_
    rintro e wz ⟨k1, hk1, rfl, hwz⟩; rw [hwz]; clear hwz wz
    obtain ⟨sp, hsp⟩ : ∃ sp : Int, f0 + (k1 : Int) = sp := ⟨_, rfl⟩
    have hw1 : IntKind.i64.wrap (f0 + (k1 : Int)) = sp := by rw [hsp, IntKind.wrap_i64]; omega
    have hspn : sp ≤ n := by omega
    have hsp0 : f0 ≤ sp := by omega
    have hXB := box_below w3 #[.slice sa S.length sc, .bool fold, .int .i64 sp, .string ⟨#[]⟩] 30
    have L0 : Hid (Lft w3 (w3.alloc (.cells #[.slice sa S.length sc, .bool fold, .int .i64 sp, .string ⟨#[]⟩] 30)) w3.heap.size fold sp S l (.slice sa S.length sc) S 0 0) := ⟨hXB, Nat.le_refl _, Blk.new w3 30 [.slice sa S.length sc, .bool fold, .int .i64 sp, .string ⟨#[]⟩], S3.out.below hXB (Nat.le_refl _), WkV.begin (tree_vol (try_tree HX.out))⟩
    clear hXB hq hqe hwA hwB
    have c0 := L0.out.x.cell 2 rfl
    go_wp2_with fail
    generalize hW : w3.alloc (.cells #[.slice sa S.length sc, .bool fold, .int .i64 sp, .string ⟨#[]⟩] 30) = wx at *
    clear hW c0
    generalize hxb : w3.heap.size = xb at L0 ⊢
    refine (pickK b 200 _ (by decide) (by decide) hb.1 hb.2).mono ?_
    rintro e wz ⟨k1, hk1, rfl, hwz⟩; rw [hwz]; clear hwz wz
    go_wp2_with fail
    refine (worksS L0.out hbig G3.out S3.out HSS.out O3.out hl HOS.out HX.out (by rw [hfd]; exact hsp0) (by omega) (Nat.zero_le _) k1 (by omega) (by omega)).mono ?_
    rintro e u1 ⟨e1, j1, v1, V1, m1, d1, rfl, hL1, _, ⟨hE1, hY1⟩, _⟩
    have Y1 : Hid (WayS fold S l sp 0 d1) := hY1 (by rw [show wayT fold S l 0 = S from rfl, hfd]; exact hsp0)
    have U1 : Hid (usedL V1 ≤ sp) := by
      have := Y1.out d1 (Nat.zero_le _) (Nat.le_refl _)
      rw [← hL1.wk.here.2.1] at this
      exact this
    have L1 := hidD hL1
    have hcase : e1 = 0 ∨ e1 = 17 ∨ e1 = 11 := by
      rcases hE1 with ⟨h, _⟩ | ⟨h, _⟩ | ⟨h, _⟩
      · exact .inl h
      · exact .inr (.inl h)
      · exact .inr (.inr h)
    clear hL1 hE1 hY1 L0
    rcases hcase with rfl | rfl | rfl
    all_goals
      go_wp2_with fail
      refine (worksS L1.out hbig G3.out S3.out HSS.out O3.out hl HOS.out HX.out U1.out (by omega) (by have := L1.out.wk.mle; omega) (100 * ((l.length : Int) + 1)) (by omega) (by omega)).mono ?_
      rintro e u2 ⟨e2, j2, v2, V2, m2, d2, rfl, hL2, _, ⟨hE2, hY2⟩, hV2, _⟩
      obtain ⟨pa, pc, hv⟩ := hL2.row.val
      subst hv
      have Y2 : Hid (WayS fold S l sp 0 d2) := Y1.out.join (hY2 (Y1.out d1 (Nat.zero_le _) (Nat.le_refl _)))
      have L2 := hidD hL2
      have D2 := hidD hV2
      have few2 := hL2.wk.vol.few
      have VD2 := hidD hL2.wk.here.2.1
      have hcase := work_two HX.out hL2.wk hE2
      clear hL2 hE2 hY2 hV2 L1 U1 Y1
      rcases hcase with ⟨rfl, rfl, hd⟩ | ⟨rfl, rfl, hlt, hfull⟩
      · have hns : n ≤ sp := (tryP_need HX.out).2.2.2 sp (by rw [← hd]; exact Y2.out)
        have c2 := L2.out.x.cell 2 rfl
        have f2 := L2.out.x.frozen 2
        have L3 := hidD (L2.out.space D2.out n)
        clear Y2 hd VD2
        generalize hqv : V2.length = q1 at *
        go_wp2_with fail
        have UF : usedL V2 ≤ n := by
          rw [L3.out.wk.here.2.1]
          exact (tryP_need HX.out).2.2.1 _ (Nat.zero_le _) L3.out.wk.here.1
        refine (worksS L3.out hbig G3.out S3.out HSS.out O3.out hl HOS.out HX.out UF (by omega) (by have := L3.out.wk.mle; omega) (100 * ((l.length : Int) + 1)) (by omega) (by omega)).mono ?_
        rintro e u9 ⟨e9, j9, v9, V9, m9, d9, rfl, hL9, _, ⟨hE9, _⟩, _⟩
        obtain ⟨pa9, pc9, hv⟩ := hL9.row.val
        subst hv
        obtain ⟨rfl, rfl, hd9⟩ : e9 = 0 ∧ j9 = l.length ∧ d9 = l.length := by
          rcases work_two HX.out hL9.wk hE9 with h | ⟨_, _, hlt, hf⟩
          · exact h
          · have := (tryP_need HX.out).2.2.1 (d9 + 1) (Nat.zero_le _) hlt
            omega
        have hVM : Hid (V9 = M) := by
          have := hL9.wk.here.2.1
          rw [hd9] at this
          exact this.trans HM.out
        have c9 := hL9.x.cell 0 rfl
        have E9 := hidD (rEq hL9.row (T3.out.below hL9.bel (Nat.le_refl _)) (by have := hL9.wk.vol.few; omega))
        have BL9 := hidD (B3.out.trans (hL9.bel.mono B3.out.size))
        clear hL9 hE9 hd9 L3 UF c2 f2
        generalize hq9 : V9.length = q9 at *
        go_wp2_with fail
        refine E9.out.mono ?_
        rintro e uz ⟨bb, rfl, hbb, nn, rfl⟩
        have hb9 : bb = true := hbb.2 hVM.out
        subst hb9
        go_wp2_with fail
        go_ret
        exact ⟨rfl, BL9.out.trans (below_drewNB _ nn)⟩
      · obtain ⟨nk, hnk⟩ := tryP_take HX.out d2 (by omega)
        obtain ⟨nj, hnj⟩ := tryP_take HX.out (d2 + 1) (by omega)
        have hmore : sp < nj := by
          have := (tryP_need hnj).2.1
          omega
        have HC1 := hidD (faceTry (vTry fold (S3.out.below L2.out.bel (Nat.le_refl _)) HSS.out (G3.out.below L2.out.bel) ((O3.out.below L2.out.bel (Nat.le_refl _)).takeK d2 (by omega)) (by rw [List.length_take]; omega) (fun o ho => HOS.out o (List.mem_of_mem_take ho)) _ hnk))
        have HC2 := hidD (fun (u : World) (hu : Below w3.heap.size w3 u) => faceTry (vTry fold (S3.out.below hu (Nat.le_refl _)) HSS.out (G3.out.below hu) ((O3.out.below hu (Nat.le_refl _)).takeK (d2 + 1) (by omega)) (by rw [List.length_take]; omega) (fun o ho => HOS.out o (List.mem_of_mem_take ho)) _ hnj))
        have HF := hidD hfull
        have hdc : d2 ≤ lc := by omega
        have hdc1 : d2 + 1 ≤ lc := by omega
        clear hnk hnj hfull
        generalize hqv : V2.length = q1 at *
        go_wp2_with fail
        refine HC1.out.mono ?_
        rintro e u3 ⟨t1, rfl, ho1, hb1⟩
        simp only [rC, rN, rK, rM] at ho1 ⊢
        obtain ⟨r1, r2, r3, hr⟩ := shape_of ho1
        subst hr
        have L3 := hidD (L2.out.below hb1)
        have D3 := hidD (D2.out.below hb1)
        have R3 : Hid (OwnV u3 (.slice r1 r2 r3) (wayT fold S l d2)) := ⟨_, ho1⟩
        clear ho1 hb1 HC1 L2 D2
        go_wp2_with fail
        refine (HC2.out _ L3.out.bel).mono ?_
        rintro e u4 ⟨t2, rfl, ho2, hb2⟩
        simp only [rC, rN, rK, rM] at ho2 ⊢
        obtain ⟨y1, y2, y3, hy⟩ := shape_of ho2
        subst hy
        have L4 := hidD (L3.out.below hb2)
        have D4 := hidD (D3.out.below hb2)
        have R4 := hidD (R3.out.below hb2)
        have E4 := hidD (rEq L4.out.row R4.out.row (by omega))
        have c0 := L4.out.x.cell 0 rfl
        clear ho2 hb2 HC2 L3 D3 R3
        go_wp2_with fail
        refine E4.out.mono ?_
        rintro e u5 ⟨bb, rfl, hbb, nn, rfl⟩
        have hb4 : bb = true := hbb.2 VD2.out
        subst hb4
        have L5 := hidD (L4.out.below (below_drewNB _ nn))
        have R5 := hidD (R4.out.below (below_drewNB _ nn))
        clear hbb E4 c0 L4 D4 R4
        generalize u4.drewN nn = u5 at *
        have c2 := L5.out.x.cell 2 rfl
        have U5 : Hid (usedL V2 ≤ sp) := by
          have := Y2.out d2 (Nat.zero_le _) (Nat.le_refl _)
          rw [← VD2.out] at this
          exact this
        go_wp2_with fail
        refine (worksS L5.out hbig G3.out S3.out HSS.out O3.out hl HOS.out HX.out U5.out (by omega) (by have := L5.out.wk.mle; omega) (100 * ((l.length : Int) + 1)) (by omega) (by omega)).mono ?_
        rintro e u6 ⟨e6, j6, v6, V6, m6, d6, rfl, hL6, hd6, ⟨hE6, hY6⟩, hV6, hK6⟩
        obtain ⟨pa6, pc6, hv⟩ := hL6.row.val
        subst hv
        have hdd : d2 = d6 := by
          have hY := hY6 (Y2.out d2 (Nat.zero_le _) (Nat.le_refl _))
          by_cases h : d6 = d2
          · exact h.symm
          · have := hY (d2 + 1) (by omega) (by omega)
            have := HF.out
            omega
        have hee : e6 = 11 ∧ j6 = d2 := by
          rcases work_two HX.out hL6.wk hE6 with ⟨_, _, h⟩ | ⟨h1, h2, _⟩
          · omega
          · exact ⟨h1, by rw [h2, hdd]⟩
        obtain ⟨rfl, rfl⟩ := hee
        have VD6 : Hid (V6 = wayT fold S l d2) := by
          have := hL6.wk.here.2.1
          rw [← hdd] at this
          exact this
        have L6 := hidD hL6
        have D6 := hidD hV6
        have R6 := hidD (hK6 _ _ R5.out)
        have E6 := hidD (rEq L6.out.row R6.out.row (by have := L6.out.wk.vol.few; omega))
        have c6 := L6.out.x.cell 0 rfl
        clear hL6 hE6 hY6 hV6 hK6 hd6 hdd L5 R5 c2 U5 Y2 HF
        generalize hq6 : V6.length = q6 at *
        go_wp2_with fail
        refine E6.out.mono ?_
        rintro e u7 ⟨bb, rfl, hbb, nn, rfl⟩
        have hb6 : bb = true := hbb.2 VD6.out
        subst hb6
        have L7 := hidD (L6.out.below (below_drewNB _ nn))
        have D7 := hidD (D6.out.below (below_drewNB _ nn))
        clear hbb E6 c6 L6 D6 R6
        generalize u6.drewN nn = u7 at *
        have c2 := L7.out.x.cell 2 rfl
        have f2 := L7.out.x.frozen 2
        have L3 := hidD (L7.out.space D7.out n)
        go_wp2_with fail
        have UF : usedL V6 ≤ n := by
          rw [L3.out.wk.here.2.1]
          exact (tryP_need HX.out).2.2.1 _ (Nat.zero_le _) L3.out.wk.here.1
        refine (worksS L3.out hbig G3.out S3.out HSS.out O3.out hl HOS.out HX.out UF (by omega) (by have := L3.out.wk.mle; omega) (100 * ((l.length : Int) + 1)) (by omega) (by omega)).mono ?_
        rintro e u9 ⟨e9, j9, v9, V9, m9, d9, rfl, hL9, _, ⟨hE9, _⟩, _⟩
        obtain ⟨pa9, pc9, hv⟩ := hL9.row.val
        subst hv
        obtain ⟨rfl, rfl, hd9⟩ : e9 = 0 ∧ j9 = l.length ∧ d9 = l.length := by
          rcases work_two HX.out hL9.wk hE9 with h | ⟨_, _, hlt, hf⟩
          · exact h
          · have := (tryP_need HX.out).2.2.1 (d9 + 1) (Nat.zero_le _) hlt
            omega
        have hVM : Hid (V9 = M) := by
          have := hL9.wk.here.2.1
          rw [hd9] at this
          exact this.trans HM.out
        have c9 := hL9.x.cell 0 rfl
        have E9 := hidD (rEq hL9.row (T3.out.below hL9.bel (Nat.le_refl _)) (by have := hL9.wk.vol.few; omega))
        have BL9 := hidD (B3.out.trans (hL9.bel.mono B3.out.size))
        clear hL9 hE9 hd9 L3 UF c2 f2
        generalize hq9 : V9.length = q9 at *
        go_wp2_with fail
        refine E9.out.mono ?_
        rintro e uz ⟨bb, rfl, hbb, nn, rfl⟩
        have hb9 : bb = true := hbb.2 hVM.out
        subst hb9
        go_wp2_with fail
        go_ret
        exact ⟨rfl, BL9.out.trans (below_drewNB _ nn)⟩
end Go.Proofs.YtemkpollilhmjaaGreatDoor
