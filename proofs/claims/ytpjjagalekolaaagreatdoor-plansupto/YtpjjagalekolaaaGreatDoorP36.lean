/- IQ, IR, IS: in one text. -/
import Derived.Test.YtpjjagalekolaaaGreatDoorP35
/- The match in memory: what is elsewhere; the match whole. -/
namespace Go.Proofs.YtpjjagalekolaaaGreatDoor
open Go.RowKit
set_option linter.unusedVariables false
set_option linter.unusedSimpArgs false

theorem optI_none (o : Option Nat) (h : o ≠ none) : (optI o == -1) = false ∧ (optI o != -1) = true ∧ ¬ optI o = -1 := by
  cases o with
  | none => exact absurd rfl h
  | some k => simp [optI]
set_option maxHeartbeats 8000000 in
set_option maxRecDepth 100000 in
theorem joinElsewhereN {w0 u : World} {P A B : Nat} {sv tv : Value} {fold : Bool} {s t : List EntD} {to0 fr0 : Nat → Option Nat} (X : Two w0 sv tv s t) (PP : Pair fold s t) (M : MsN w0 u P A B 160 sv tv fold s.length t.length to0 fr0) (KI : MI fold s t to0 fr0 t.length) :
    Calls Tryz.prog 148 #[.pointer (some ⟨P, 0, none⟩)] u fun e w' => e = .returned (.tuple #[]) ∧ ∃ to fr, MsN w0 w' P A B 160 sv tv fold s.length t.length to fr ∧ Mat fold s t to fr := by
  have XX := hidD X
  have XP := hidD PP
  have M0 := hidD M
  have K0 := hidD KI.done
  have c1 := M.p.cell 1 rfl
  obtain ⟨sa, sc, hsv⟩ := X.rs.val
  obtain ⟨ta, tc, htv⟩ := X.rt.val
  subst hsv htv
  have hlt := X.lt
  have hls := X.ls
  clear M X PP KI
  go_enter Tryz.func148, Tryz.ntmps148
  go_wp2_with fail
  go_step3
  go_wp2_with fail
  go_step3
  go_wp2_with fail
  go_loopw [11] (fun iv wr => ∃ (j : Nat) (to fr : Nat → Option Nat), j ≤ t.length ∧ iv = .int .i64 j ∧ Hid (MsN w0 wr P A B 160 (.slice sa s.length sc) (.slice ta t.length tc) fold s.length t.length to fr) ∧ Hid (ME fold s t to fr j)) (fun iv _ => t.length - (intOf iv).toNat)
  case atStart => exact ⟨0, _, _, Nat.zero_le _, rfl, M0, K0⟩
  case round =>
    clear M0 c1 K0
    obtain ⟨j, to, fr, hj, rfl, M, K⟩ := hrel
    by_cases hlt : j < t.length
    · obtain ⟨bt, ot, ct, ⟨op, od, oi, oz, om⟩, hv, ho, hcells⟩ := XX.out.rt.ent hlt
      cases hv
      dsimp only at hcells
      obtain ⟨t0, t1, t2, t3, t4⟩ := hcells wr M.out.w
      have HO := hidD ho
      have BB := hidD (box_below wr #[.string op, .bool od, .int .i64 oi, .int .i64 oz, .int .i64 om] 56)
      have XB := hidD (Blk.new wr 56 [.string op, .bool od, .int .i64 oi, .int .i64 oz, .int .i64 om])
      have M1 := hidD (M.out.below BB.out)
      have y1 := XB.out.cell 1 rfl
      have q4 := M1.out.p.cell 4 rfl
      have q0 := M1.out.p.cell 0 rfl
      have q5 := M1.out.b.cell j (optV_get fr t.length j hlt)
      have hlt' : (j : Int) < (t.length : Int) := by omega
      clear hcells ho M
      cases od with
      | true =>
        have K2 := hidD (K.out.skip HO.out (fun _ h => by cases h))
        go_wp2_with fail
        exact ⟨⟨j + 1, to, fr, by omega, by go_num, M1, K2⟩, by simp [intOf]; omega⟩
      | false =>
        by_cases hf : fr j = none
        · rw [hf] at q5
          have o1 : optI none = -1 := rfl
          rw [o1] at q5
          clear o1
          go_wp2_with fail
          generalize hU1 : wr.alloc (.cells #[.string op, .bool false, .int .i64 oi, .int .i64 oz, .int .i64 om] 56) = u1 at *
          clear hU1 y1 q4 q0 q5
          clear t0 t1 t2 t3 t4
          go_loopw [33] (fun iv wr2 => ∃ i : Nat, i ≤ s.length ∧ iv = .int .i64 i ∧ Hid (MsN w0 wr2 P A B 160 (.slice sa s.length sc) (.slice (some ⟨bt, ot, none⟩) t.length tc) fold s.length t.length to fr) ∧ Hid (Below u1.heap.size u1 wr2) ∧ Hid (∀ (i' : Nat) (a : EntD), i' < i → s[i']? = some a → a.id = oi → to i' ≠ none)) (fun iv _ => s.length - (intOf iv).toNat)
          case atStart => exact ⟨0, Nat.zero_le _, rfl, M1, Below.refl _ _, fun i' a h => by omega⟩
          case round =>
            clear M1
            obtain ⟨i, hi, rfl, M, hbu, N⟩ := hrel
            by_cases his : i < s.length
            · obtain ⟨bs, os, cs, ⟨ap, ad, ai, az, am⟩, hv, ha, hcells⟩ := XX.out.rs.ent his
              cases hv
              dsimp only at hcells
              obtain ⟨s0, s1, s2, s3, s4⟩ := hcells wr M.out.w
              have HA := hidD ha
              have B2 := hidD (box_below wr #[.string ap, .bool ad, .int .i64 ai, .int .i64 az, .int .i64 am] 56)
              have X2 := hidD (Blk.new wr 56 [.string ap, .bool ad, .int .i64 ai, .int .i64 az, .int .i64 am])
              have XB2 := hidD (XB.out.below (hbu.out.trans (B2.out.mono hbu.out.size)))
              have M2 := hidD (M.out.below B2.out)
              have HB2 := hidD (hbu.out.trans (B2.out.mono hbu.out.size))
              have y2 := XB2.out.cell 2 rfl
              have x2 := X2.out.cell 2 rfl
              have q3 := M2.out.p.cell 3 rfl
              have q5 := M2.out.a.cell i (optV_get to s.length i his)
              have his' : (i : Int) < (s.length : Int) := by omega
              clear hcells ha M
              by_cases hid : ai = oi
              · subst hid
                by_cases hto : to i = none
                · rw [hto] at q5
                  have o1 : optI none = -1 := rfl
                  rw [o1] at q5
                  clear o1
                  have K2 := hidD (K.out.join XP.out HO.out HA.out rfl rfl hto hf)
                  have HJ := hidD (M2.out.join (by decide) i j his hlt)
                  go_wp2_with fail
                  refine HJ.out.mono ?_
                  rintro e w3 ⟨rfl, hM4⟩
                  have M4 := hidD hM4
                  clear hM4
                  go_wp2_with fail
                  exact ⟨⟨j + 1, _, _, by omega, by go_num, M4, K2⟩, by simp [intOf]; omega⟩
                · have hne := (optI_none _ hto).1
                  have hne1 := (optI_none _ hto).2.2
                  have N2 : Hid (∀ (i' : Nat) (a : EntD), i' < i + 1 → s[i']? = some a → a.id = ai → to i' ≠ none) := fun i' a h1 h2 h3 => by
                    by_cases e : i' = i
                    · subst e; exact hto
                    · exact N.out i' a (by omega) h2 h3
                  generalize optI (to i) = ti at *
                  go_wp2_with fail
                  exact ⟨⟨i + 1, by omega, by go_num, M2, HB2, N2⟩, by simp [intOf]; omega⟩
              · have hid1 : (ai == oi) = false := by simp [hid]
                have N2 : Hid (∀ (i' : Nat) (a : EntD), i' < i + 1 → s[i']? = some a → a.id = oi → to i' ≠ none) := fun i' a h1 h2 h3 => by
                  by_cases e : i' = i
                  · subst e
                    rw [HA.out] at h2
                    cases h2
                    exact absurd h3 hid
                  · exact N.out i' a (by omega) h2 h3
                go_wp2_with fail
                exact ⟨⟨i + 1, by omega, by go_num, M2, HB2, N2⟩, by simp [intOf]; omega⟩
            · have hie : i = s.length := by omega
              subst hie
              have K2 := hidD (K.out.skip HO.out (fun _ _ i' a ha hid => N.out i' a (List.getElem?_eq_some_iff.1 ha).1 ha hid))
              go_wp2_with fail
              exact ⟨⟨j + 1, _, _, by omega, by go_num, M, K2⟩, by simp [intOf]; omega⟩
        · have K2 := hidD (K.out.skip HO.out (fun h => absurd h hf))
          have hne := (optI_none _ hf).2.1
          have hne1 := (optI_none _ hf).2.2
          generalize optI (fr j) = fj at *
          go_wp2_with fail
          exact ⟨⟨j + 1, to, fr, by omega, by go_num, M1, K2⟩, by simp [intOf]; omega⟩
    · have hje : j = t.length := by omega
      subst hje
      go_wp2_with fail
      rw [Exit.noGoto_normal]
      refine bodyPost_end (results_none rfl _ _ _) rfl ?_
      exact ⟨rfl, to, fr, M.out, K.out.done⟩

theorem Two.below {w w' : World} {sv tv : Value} {s t : List EntD} (X : Two w sv tv s t) (hb : Below w.heap.size w w') : Two w' sv tv s t := ⟨X.rs.below hb (Nat.le_refl _), X.rt.below hb (Nat.le_refl _), X.ss, X.st, X.ls, X.lt⟩
set_option maxHeartbeats 4000000 in
set_option maxRecDepth 100000 in
theorem newMatchN {w : World} {sv tv : Value} {fold : Bool} {s t : List EntD} (X : Two w sv tv s t) (PP : Pair fold s t) :
    Calls Tryz.prog 97 #[sv, tv, .bool fold] w fun e w' => ∃ A B to fr, e = .returned (.agg #[sv, tv, .bool fold, .slice (some ⟨A, 0, none⟩) s.length s.length, .slice (some ⟨B, 0, none⟩) t.length t.length]) ∧ A ≠ B ∧ w.heap.size ≤ A ∧ w.heap.size ≤ B ∧ Blk w' A 3 (optV to s.length) ∧ Blk w' B 3 (optV fr t.length) ∧ Below w.heap.size w w' ∧ Mat fold s t to fr := by
  have XX := hidD X
  have XP := hidD PP
  obtain ⟨sa, sc, hsv⟩ := X.rs.val
  obtain ⟨ta, tc, htv⟩ := X.rt.val
  subst hsv htv
  have hlt := X.lt
  have hls := X.ls
  have BR := hidD (box_below w #[.slice none 0 0, .slice none 0 0, .bool false, .slice none 0 0, .slice none 0 0] 160)
  have XR := hidD (Blk.new w 160 [.slice none 0 0, .slice none 0 0, .bool false, .slice none 0 0, .slice none 0 0])
  clear X PP
  have N1 := hidD (numbersN s.length hls)
  have N2 := hidD (numbersN t.length hlt)
  have XX1 := hidD (XX.out.below BR.out)
  go_enter Tryz.func97, Tryz.ntmps97
  go_wp2_with fail
  refine (N1.out _).mono ?_
  rintro e w2 ⟨A, rfl, hA, rA, hb2⟩
  have BA := hidD rA
  have HB2 := hidD hb2
  clear rA hb2
  go_wp2_with fail
  refine (N2.out _).mono ?_
  rintro e w3 ⟨B, rfl, hB, rB, hb3⟩
  have hAlt := BA.out.lt
  have BA3 := hidD (BA.out.below hb3)
  have BB3 := hidD rB
  have HB3 := hidD (HB2.out.trans (hb3.mono HB2.out.size))
  have hne : A ≠ B := by omega
  clear rB hb3 BA
  generalize hw1 : w.alloc (.cells #[.slice none 0 0, .slice none 0 0, .bool false, .slice none 0 0, .slice none 0 0] 160) = w1 at *
  have hs1 : w1.heap.size = w.heap.size + 1 := by rw [← hw1]; simp
  have h13 := HB3.out.size
  have BM := hidD (box_below w3 #[.slice sa s.length sc, .slice ta t.length tc, .bool fold, .slice (some ⟨A, 0, none⟩) s.length s.length, .slice (some ⟨B, 0, none⟩) t.length t.length] 160)
  have XM := hidD (Blk.new w3 160 [.slice sa s.length sc, .slice ta t.length tc, .bool fold, .slice (some ⟨A, 0, none⟩) s.length s.length, .slice (some ⟨B, 0, none⟩) t.length t.length])
  have HB4 := hidD (HB3.out.trans (BM.out.mono HB3.out.size))
  have hsz4 := BM.out.size
  have M4 : Hid (MsN w1 (w3.alloc (.cells #[.slice sa s.length sc, .slice ta t.length tc, .bool fold, .slice (some ⟨A, 0, none⟩) s.length s.length, .slice (some ⟨B, 0, none⟩) t.length t.length] 160)) w3.heap.size A B 160 (.slice sa s.length sc) (.slice ta t.length tc) fold s.length t.length (fun _ => none) (fun _ => none)) := ⟨HB4.out, XM.out, BA3.out.below BM.out, BB3.out.below BM.out, by omega, by omega, by omega, hne⟩
  go_wp2_with fail
  generalize w3.alloc (.cells #[.slice sa s.length sc, .slice ta t.length tc, .bool fold, .slice (some ⟨A, 0, none⟩) s.length s.length, .slice (some ⟨B, 0, none⟩) t.length t.length] 160) = w4 at *
  refine (joinInPlaceN XX1.out XP.out M4.out).mono ?_
  rintro e w5 ⟨rfl, to5, fr5, hM5, hI5⟩
  have M5 := hidD hM5
  have I5 := hidD hI5
  clear hM5 hI5 M4 HB4 hsz4 XM BM
  go_wp2_with fail
  refine (joinElsewhereN XX1.out XP.out M5.out I5.out).mono ?_
  rintro e w6 ⟨rfl, to, fr, hM6, hK6⟩
  have HM6 := hidD hM6
  have HK6 := hidD hK6
  have HB6 := hidD hM6.w
  have HR6 := hidD (XR.out.below hM6.w)
  have m0 := hM6.p.cell 0 rfl
  have m1 := hM6.p.cell 1 rfl
  have m2 := hM6.p.cell 2 rfl
  have m3 := hM6.p.cell 3 rfl
  have m4 := hM6.p.cell 4 rfl
  have r0 := HR6.out.cell 0 rfl
  have r1 := HR6.out.cell 1 rfl
  have r2 := HR6.out.cell 2 rfl
  have r3 := HR6.out.cell 3 rfl
  have r4 := HR6.out.cell 4 rfl
  have f0 := HR6.out.frozen 0
  have f1 := HR6.out.frozen 1
  have f2 := HR6.out.frozen 2
  have f3 := HR6.out.frozen 3
  have f4 := HR6.out.frozen 4
  clear hM6 hK6 M5 I5
  go_wp2
  have HR7 := ((((HR6.out.set 0 (.slice sa s.length sc) (by simp)).set 1 (.slice ta t.length tc) (by simp)).set 2 (.bool fold) (by simp)).set 3 (.slice (some ⟨A, 0, none⟩) s.length s.length) (by simp)).set 4 (.slice (some ⟨B, 0, none⟩) t.length t.length) (by simp)
  have na : A ≠ w.heap.size := fun e => HR6.out.ne HM6.out.a (by decide) e.symm
  have nb : B ≠ w.heap.size := fun e => HR6.out.ne HM6.out.b (by decide) e.symm
  have HA7 := ((((HM6.out.a.other 0 (.slice sa s.length sc) na).other 1 (.slice ta t.length tc) na).other 2 (.bool fold) na).other 3 (.slice (some ⟨A, 0, none⟩) s.length s.length) na).other 4 (.slice (some ⟨B, 0, none⟩) t.length t.length) na
  have HB7 := ((((HM6.out.b.other 0 (.slice sa s.length sc) nb).other 1 (.slice ta t.length tc) nb).other 2 (.bool fold) nb).other 3 (.slice (some ⟨A, 0, none⟩) s.length s.length) nb).other 4 (.slice (some ⟨B, 0, none⟩) t.length t.length) nb
  have HW6 : Below w.heap.size w w6 := BR.out.trans (HB6.out.mono BR.out.size)
  have hz6 := HW6.size
  refine bodyPost_ret (v := .agg #[.slice sa s.length sc, .slice ta t.length tc, .bool fold, .slice (some ⟨A, 0, none⟩) s.length s.length, .slice (some ⟨B, 0, none⟩) t.length t.length]) ?_ rfl ⟨A, B, to, fr, rfl, hne, by omega, by omega, HA7, HB7, ?_, HK6.out⟩
  · rw [results_cell1 rfl]
    have z0 := HR7.cell 0 rfl
    have z1 := HR7.cell 1 rfl
    have z2 := HR7.cell 2 rfl
    have z3 := HR7.cell 3 rfl
    have z4 := HR7.cell 4 rfl
    clear HR7 HA7 HB7 m0 m1 m2 m3 m4 r0 r1 r2 r3 r4 f0 f1 f2 f3 f4
    generalize World.setCell _ _ _ = W at *
    go_simp
  · exact below_set (below_set (below_set (below_set (below_set HW6 _ _ _ hz6 (Nat.le_refl _)) _ _ _ (by simpa using hz6) (Nat.le_refl _)) _ _ _ (by simpa using hz6) (Nat.le_refl _)) _ _ _ (by simpa using hz6) (Nat.le_refl _)) _ _ _ (by simpa using hz6) (Nat.le_refl _)
end Go.Proofs.YtpjjagalekolaaaGreatDoor

/- A draft in memory: its steps, and who waits for whom. -/
namespace Go.Proofs.YtpjjagalekolaaaGreatDoor
open Go.RowKit
set_option linter.unusedVariables false
set_option linter.unusedSimpArgs false

/-- Where the parts of a draft lie. -/
structure Dw where
  D : Nat
  A : Nat
  B : Nat
  C : Nat
  E : Nat
  sv : Value
  tv : Value
  fold : Bool
  n : Nat
  m : Nat
  to : Nat → Option Nat
  fr : Nat → Option Nat

theorem stC_setM {op : Nat → OpD} {ws : Nat → Nat} {f m : Nat → Value} {n k : Nat} (hk : k < n) (v : Value) : (stC op ws f m n).set (k * 9 + 8) v = stC op ws f (upN m k v) n := by
  unfold stC
  rw [flatR_set (fun k => stRow_len _ _ _ _) (by decide) _ n hk]
  refine flatR_same n (fun x _ => ?_)
  by_cases e : x = k
  · subst e; rw [upN_at, upN_at]; rfl
  · rw [upN_ne _ _ e, upN_ne _ _ e]
def stD (op : Nat → OpD) (ws : Nat → Nat) (row : Nat → Value) (N : Nat) : List Value := stC op ws (fun k => row (2 * k)) (fun k => row (2 * k + 1)) N
/-- The cell in which a row of waiting ones lies. -/
def offR (r : Nat) : Nat := (r / 2) * 9 + 7 + r % 2
theorem stD_row {op : Nat → OpD} {ws : Nat → Nat} {row : Nat → Value} {N r : Nat} (hr : r < 2 * N) (v : Value) : (stD op ws row N).set (offR r) v = stD op ws (upN row r v) N := by
  unfold stD offR
  rcases Nat.mod_two_eq_zero_or_one r with h | h
  · rw [h, Nat.add_zero, stC_setF (by omega)]
    congr 1
    · funext k
      by_cases e : k = r / 2
      · subst e
        rw [upN_at, show 2 * (r / 2) = r by omega, upN_at]
      · rw [upN_ne _ _ e, upN_ne _ _ (by omega)]
    · funext k
      rw [upN_ne _ _ (by omega)]
  · rw [h, show r / 2 * 9 + 7 + 1 = r / 2 * 9 + 8 by omega, stC_setM (by omega)]
    congr 1
    · funext k
      rw [upN_ne _ _ (by omega)]
    · funext k
      by_cases e : k = r / 2
      · subst e
        rw [upN_at, show 2 * (r / 2) + 1 = r by omega, upN_at]
      · rw [upN_ne _ _ e, upN_ne _ _ (by omega)]
theorem stD_get {op : Nat → OpD} {ws : Nat → Nat} {row : Nat → Value} {N r : Nat} (hr : r < 2 * N) : (stD op ws row N)[offR r]? = some (row r) := by
  unfold stD offR
  rcases Nat.mod_two_eq_zero_or_one r with h | h
  · rw [h, Nat.add_zero, stC_get (by omega) (by decide)]
    show some (row (2 * (r / 2))) = _
    rw [show 2 * (r / 2) = r by omega]
  · rw [h, show r / 2 * 9 + 7 + 1 = r / 2 * 9 + 8 by omega, stC_get (by omega) (by decide)]
    show some (row (2 * (r / 2) + 1)) = _
    rw [show 2 * (r / 2) + 1 = r by omega]
structure DsN (w0 u : World) (x : Dw) (lv cm : Nat → Option Nat) (stv : Value) (N : Nat) (op : Nat → OpD) (ws : Nat → Nat) (row : Nat → Value) (lst : Nat → List Nat) : Prop where
  w : Below w0.heap.size w0 u
  ge : w0.heap.size ≤ x.D ∧ w0.heap.size ≤ x.A ∧ w0.heap.size ≤ x.B ∧ w0.heap.size ≤ x.C ∧ w0.heap.size ≤ x.E
  ne : x.A ≠ x.C ∧ x.A ≠ x.E ∧ x.B ≠ x.C ∧ x.B ≠ x.E ∧ x.C ≠ x.E
  d : Blk u x.D 164 [x.sv, x.tv, .bool x.fold, .slice (some ⟨x.A, 0, none⟩) x.n x.n, .slice (some ⟨x.B, 0, none⟩) x.m x.m, stv, .slice (some ⟨x.C, 0, none⟩) x.n x.n, .slice (some ⟨x.E, 0, none⟩) x.m x.m]
  a : Blk u x.A 3 (optV x.to x.n)
  b : Blk u x.B 3 (optV x.fr x.m)
  c : Blk u x.C 3 (optV lv x.n)
  e : Blk u x.E 3 (optV cm x.m)
  st : u.ownsRow w0.heap.size 155 9 stv N (stD op ws row N)
  rw : ∀ r, u.ownsRow w0.heap.size 3 1 (row r) (lst r).length (numV (lst r))
  own : ∀ r g, (row r).ownBlock = some g → g ≠ x.A ∧ g ≠ x.B ∧ g ≠ x.C ∧ g ≠ x.E
  sep : ∀ r r' g, (row r).ownBlock = some g → (row r').ownBlock = some g → r = r'
  out : ∀ r, 2 * N ≤ r → row r = .slice none 0 0 ∧ lst r = []
section
variable {w0 u u' : World} {x : Dw} {lv cm : Nat → Option Nat} {stv : Value} {N : Nat} {op : Nat → OpD} {ws : Nat → Nat} {row : Nat → Value} {lst : Nat → List Nat}
theorem DsN.below (h : DsN w0 u x lv cm stv N op ws row lst) (hb : Below u.heap.size u u') : DsN w0 u' x lv cm stv N op ws row lst :=
  ⟨h.w.trans (hb.mono h.w.size), h.ge, h.ne, h.d.below hb, h.a.below hb, h.b.below hb, h.c.below hb, h.e.below hb, own_belowK hb h.st, fun r => own_belowK hb (h.rw r), h.own, h.sep, h.out⟩
theorem row_ne {B e s n g : Nat} {v : Value} {xs : List Value} (o : u.ownsRow B e s v n xs) (hg : u.grownBy u' (some g)) (hn : ∀ k, v.ownBlock = some k → k ≠ g) : u'.ownsRow B e s v n xs := by
  refine o.kept hg ?_
  cases hv : v.ownBlock with
  | none => exact .inl rfl
  | some k => exact .inr (fun e => hn k hv (by simpa using e))
/-- A number is written into the row of those that leave. -/
theorem DsN.setC (h : DsN w0 u x lv cm stv N op ws row lst) (i : Nat) (v : Option Nat) (hi : i < x.n) : DsN w0 (u.setCell ⟨x.C, i, none⟩ (.int .i64 (optI v))) x (upN lv i v) cm stv N op ws row lst := by
  have hg := gb_set u x.C i (.int .i64 (optI v))
  obtain ⟨n1, n2, n3, n4, n5⟩ := h.ne
  refine ⟨below_set h.w _ _ _ h.w.size h.ge.2.2.2.1, h.ge, h.ne, h.d.other _ _ (h.d.ne h.c (by decide)), h.a.other _ _ n1, h.b.other _ _ n3, ?_, h.e.other _ _ (fun e => n5 e.symm), row_blk h.c h.st (by decide) hg, fun r => row_ne (h.rw r) hg (fun k hk => (h.own r k hk).2.2.1), h.own, h.sep, h.out⟩
  rw [← optV_set]
  exact h.c.set i _ (by rw [optV_len]; exact hi)
theorem DsN.setE (h : DsN w0 u x lv cm stv N op ws row lst) (j : Nat) (v : Option Nat) (hj : j < x.m) : DsN w0 (u.setCell ⟨x.E, j, none⟩ (.int .i64 (optI v))) x lv (upN cm j v) stv N op ws row lst := by
  have hg := gb_set u x.E j (.int .i64 (optI v))
  obtain ⟨n1, n2, n3, n4, n5⟩ := h.ne
  refine ⟨below_set h.w _ _ _ h.w.size h.ge.2.2.2.2, h.ge, h.ne, h.d.other _ _ (h.d.ne h.e (by decide)), h.a.other _ _ n2, h.b.other _ _ n4, h.c.other _ _ n5, ?_, row_blk h.e h.st (by decide) hg, fun r => row_ne (h.rw r) hg (fun k hk => (h.own r k hk).2.2.2), h.own, h.sep, h.out⟩
  rw [← optV_set]
  exact h.e.set j _ (by rw [optV_len]; exact hj)
/-- A step more. -/
theorem DsN.added (h : DsN w0 u x lv cm stv N op ws row lst) {stv' : Value} {op' : Nat → OpD} (ho : u'.ownsRow w0.heap.size 155 9 stv' (N + 1) (stD op' ws row (N + 1))) (hg : u.grownBy u' stv.ownBlock) : DsN w0 (u'.setCell ⟨x.D, 5, none⟩ stv') x lv cm stv' (N + 1) op' ws row lst := by
  have hd := h.d.kept hg (blk_row h.d h.st (by decide))
  have ha := h.a.kept hg (blk_row h.a h.st (by decide))
  have hb := h.b.kept hg (blk_row h.b h.st (by decide))
  have hc := h.c.kept hg (blk_row h.c h.st (by decide))
  have he := h.e.kept hg (blk_row h.e h.st (by decide))
  have hbel := h.w.grown hg h.w.size (fun k e => (h.st.lt k e).1)
  refine ⟨below_set hbel _ _ _ hbel.size h.ge.1, h.ge, h.ne, hd.set 5 stv' (by simp), ha.other 5 stv' (ha.ne hd (by decide)), hb.other 5 stv' (hb.ne hd (by decide)), hc.other 5 stv' (hc.ne hd (by decide)), he.other 5 stv' (he.ne hd (by decide)), row_blk hd ho (by decide) (gb_set _ _ _ _), fun r => row_blk hd (row_row (h.rw r) h.st (by decide) hg) (by decide) (gb_set _ _ _ _), h.own, h.sep, fun r hr => h.out r (by omega)⟩
/-- A cell of the steps is written. -/
theorem DsN.setSt {g c : Nat} (h : DsN w0 u x lv cm (.slice (some ⟨g, 0, none⟩) N c) N op ws row lst) (j : Nat) (v : Value) {ws' : Nat → Nat} (he : (stD op ws row N).set j v = stD op ws' row N) : DsN w0 (u.setCell ⟨g, j, none⟩ v) x lv cm (.slice (some ⟨g, 0, none⟩) N c) N op ws' row lst := by
  have G := blk_of_row h.st
  have hg := (h.st.lt g rfl).1
  refine ⟨below_set h.w _ _ _ h.w.size hg, h.ge, h.ne, h.d.other j v (h.d.ne G (by decide)), h.a.other j v (h.a.ne G (by decide)), h.b.other j v (h.b.ne G (by decide)), h.c.other j v (h.c.ne G (by decide)), h.e.other j v (h.e.ne G (by decide)), ?_, fun r => row_blk G (h.rw r) (by decide) (gb_set _ _ _ _), h.own, h.sep, h.out⟩
  rw [← he]
  exact (h.st.stored j v).1
/-- One more waits. -/
theorem DsN.grow {g c r k g' c' : Nat} (h : DsN w0 u x lv cm (.slice (some ⟨g, 0, none⟩) N c) N op ws row lst) (hr : r < 2 * N) (ho : u'.ownsRow w0.heap.size 3 1 (.slice (some ⟨g', 0, none⟩) ((lst r).length + 1) c') ((lst r).length + 1) (numV (lst r) ++ [.int .i64 (k : Int)])) (hg : u.grownBy u' (row r).ownBlock) (hat : (row r).ownBlock = some g' ∨ g' = u.heap.size) :
    DsN w0 (u'.setCell ⟨g, offR r, none⟩ (.slice (some ⟨g', 0, none⟩) ((lst r).length + 1) c')) x lv cm (.slice (some ⟨g, 0, none⟩) N c) N op ws (upN row r (.slice (some ⟨g', 0, none⟩) ((lst r).length + 1) c')) (upN lst r (lst r ++ [k])) := by
  have hst := row_row h.st (h.rw r) (by decide) hg
  have G := blk_of_row hst
  have hgg := (h.st.lt g rfl).1
  have nA : some x.A ≠ (row r).ownBlock := fun e => (h.own r x.A e.symm).1 rfl
  have nB : some x.B ≠ (row r).ownBlock := fun e => (h.own r x.B e.symm).2.1 rfl
  have nC : some x.C ≠ (row r).ownBlock := fun e => (h.own r x.C e.symm).2.2.1 rfl
  have nE : some x.E ≠ (row r).ownBlock := fun e => (h.own r x.E e.symm).2.2.2 rfl
  have hd := h.d.kept hg (blk_row h.d (h.rw r) (by decide))
  have ha := h.a.kept hg nA
  have hb := h.b.kept hg nB
  have hc := h.c.kept hg nC
  have he := h.e.kept hg nE
  have hbel := h.w.grown hg h.w.size (fun k e => ((h.rw r).lt k e).1)
  have fresh : g' = u.heap.size → g' ≠ x.A ∧ g' ≠ x.B ∧ g' ≠ x.C ∧ g' ≠ x.E := fun e => by
    have := h.a.lt
    have := h.b.lt
    have := h.c.lt
    have := h.e.lt
    omega
  have ownB : (Value.slice (some ⟨g', 0, none⟩) ((lst r).length + 1) c').ownBlock = some g' := rfl
  refine ⟨below_set hbel _ _ _ hbel.size hgg, h.ge, h.ne, hd.other _ _ (hd.ne G (by decide)), ha.other _ _ (ha.ne G (by decide)), hb.other _ _ (hb.ne G (by decide)), hc.other _ _ (hc.ne G (by decide)), he.other _ _ (he.ne G (by decide)), ?_, fun q => ?_, fun q b hq => ?_, fun q q' b hq hq' => ?_, fun q hq => ?_⟩
  · rw [← stD_row hr]
    exact (hst.stored _ _).1
  · refine row_blk G ?_ (by decide) (gb_set _ _ _ _)
    by_cases e : q = r
    · subst e
      rw [upN_at, upN_at, List.length_append]
      have : numV (lst q ++ [k]) = numV (lst q) ++ [.int .i64 (k : Int)] := by simp [numV]
      rw [this]
      exact ho
    · rw [upN_ne _ _ e, upN_ne _ _ e]
      refine (h.rw q).kept hg ?_
      cases hv : (row q).ownBlock with
      | none => exact .inl rfl
      | some b => exact .inr (fun e' => e (h.sep q r b hv e'.symm))
  · by_cases e : q = r
    · subst e
      rw [upN_at, ownB] at hq
      cases hq
      rcases hat with h' | h'
      · exact h.own q _ h'
      · exact fresh h'
    · rw [upN_ne _ _ e] at hq
      exact h.own q b hq
  · by_cases e : q = r
    · by_cases e' : q' = r
      · rw [e, e']
      · subst e
        rw [upN_at, ownB] at hq
        cases hq
        rw [upN_ne _ _ e'] at hq'
        rcases hat with h' | h'
        · exact h.sep q q' _ h' hq'
        · have := ((h.rw q').lt _ hq').2
          omega
    · rw [upN_ne _ _ e] at hq
      by_cases e' : q' = r
      · subst e'
        rw [upN_at, ownB] at hq'
        cases hq'
        rcases hat with h' | h'
        · exact h.sep q q' _ hq h'
        · have := ((h.rw q).lt _ hq).2
          omega
      · rw [upN_ne _ _ e'] at hq'
        exact h.sep q q' b hq hq'
  · have e : q ≠ r := by omega
    rw [upN_ne _ _ e, upN_ne _ _ e]
    exact h.out q hq
theorem stD_W {k : Nat} (hk : k < N) (v : Nat) : (stD op ws row N).set (k * 9 + 6) (.int .i64 (v : Int)) = stD op (upN ws k v) row N := stC_setW hk v
theorem DsN.form (h : DsN w0 u x lv cm stv N op ws row lst) (hN : 0 < N) : ∃ g c, stv = .slice (some ⟨g, 0, none⟩) N c := row_form h.st hN
end
end Go.Proofs.YtpjjagalekolaaaGreatDoor

/- A draft in memory: a step is put behind the others; a step waits for another. -/
namespace Go.Proofs.YtpjjagalekolaaaGreatDoor
open Go.RowKit
set_option linter.unusedVariables false
set_option linter.unusedSimpArgs false

def stepO (o : OpD) : List Value := stRow o 0 (.slice none 0 0) (.slice none 0 0)
theorem stepO_one (o : OpD) : ∀ x ∈ stepO o, x.oneCell' = true := by
  intro x hx
  simp only [stepO, stRow, List.mem_cons, List.not_mem_nil, or_false] at hx
  rcases hx with rfl | rfl | rfl | rfl | rfl | rfl | rfl | rfl | rfl <;> rfl
theorem stD_add {op op' : Nat → OpD} {ws : Nat → Nat} {row : Nat → Value} {N : Nat} {o : OpD} (h1 : ∀ k, k < N → op' k = op k) (h2 : op' N = o) (hw : ws N = 0) (hr : row (2 * N) = .slice none 0 0) (hr2 : row (2 * N + 1) = .slice none 0 0) : stD op ws row N ++ stepO o = stD op' ws row (N + 1) := by
  unfold stD stC
  rw [flatR]
  congr 1
  · exact flatR_same N (fun k hk => by rw [h1 k hk])
  · dsimp only
    rw [h2, hw, hr, hr2]; rfl

set_option maxHeartbeats 4000000 in
set_option maxRecDepth 100000 in
theorem addN {w0 u : World} {x : Dw} {lv cm : Nat → Option Nat} {stv : Value} {N : Nat} {op : Nat → OpD} {ws : Nat → Nat} {row : Nat → Value} {lst : Nat → List Nat} (S : DsN w0 u x lv cm stv N op ws row lst) (hn : N ≤ 1000) (o : OpD) {op' : Nat → OpD} (h1 : ∀ k, k < N → op' k = op k) (h2 : op' N = o) (hw : ws N = 0) :
    Calls Tryz.prog 150 #[.pointer (some ⟨x.D, 0, none⟩), .agg #[.int .i64 o.kind, .string o.path, .string o.dest, .int .i64 o.id, .int .i64 o.size, .int .i64 o.mode]] u fun e w' => e = .returned (.int .i64 N) ∧ (∃ stv', DsN w0 w' x lv cm stv' (N + 1) op' ws row lst) ∧ ∀ (b : Nat) (T : TypeId) (xs : List Value), Blk u b T xs → T ≠ 155 → T ≠ 164 → Blk w' b T xs := by
  obtain ⟨i0, hi, hz0, hz1, hz2⟩ := info_parts info155
  have EQ := hidD (stD_add (op := op) (row := row) h1 h2 hw (S.out (2 * N) (by omega)).1 (S.out (2 * N + 1) (by omega)).1)
  obtain ⟨k, p, q, id, sz, md⟩ := o
  dsimp only at *
  have BX := hidD (box_below u #[.int .i64 k, .string p, .string q, .int .i64 id, .int .i64 sz, .int .i64 md] 59)
  have X := hidD (Blk.new u 59 [.int .i64 k, .string p, .string q, .int .i64 id, .int .i64 sz, .int .i64 md])
  have S1 := hidD (S.below BX.out)
  have d5 := S1.out.d.cell 5 rfl
  have x0 := X.out.cell 0 rfl
  have x1 := X.out.cell 1 rfl
  have x2 := X.out.cell 2 rfl
  have x3 := X.out.cell 3 rfl
  have x4 := X.out.cell 4 rfl
  have x5 := X.out.cell 5 rfl
  have hsz := S1.out.w.size
  obtain ⟨sa, sn, sc, hsv⟩ := shape_of S1.out.st
  subst hsv
  have HF0 := hidD (fun (b : Nat) (T : TypeId) (xs : List Value) (h : Blk u b T xs) => h.below BX.out)
  clear S h1 h2 hw
  go_enter Tryz.func150, Tryz.ntmps150
  go_wp2
  generalize hU : u.alloc (.cells #[.int .i64 k, .string p, .string q, .int .i64 id, .int .i64 sz, .int .i64 md] 59) = U at *
  have hbU : Below U.heap.size U (U.alloc (.cells (stepO ⟨k, p, q, id, sz, md⟩).toArray 155)).drew := (box_below U (stepO ⟨k, p, q, id, sz, md⟩).toArray 155).trans (Below.mono (below_drewB _) (by simp))
  have S2 := hidD (S1.out.below hbU)
  have X2 := hidD (X.out.below hbU)
  have d5' : (U.alloc (.cells (stepO ⟨k, p, q, id, sz, md⟩).toArray 155)).cell? ⟨x.D, 5, none⟩ = some (.slice sa sn sc) := S2.out.d.cell 5 rfl
  have y0 : (U.alloc (.cells (stepO ⟨k, p, q, id, sz, md⟩).toArray 155)).cell? ⟨u.heap.size, 0, none⟩ = _ := X2.out.cell 0 rfl
  have y1 : (U.alloc (.cells (stepO ⟨k, p, q, id, sz, md⟩).toArray 155)).cell? ⟨u.heap.size, 1, none⟩ = _ := X2.out.cell 1 rfl
  have y2 : (U.alloc (.cells (stepO ⟨k, p, q, id, sz, md⟩).toArray 155)).cell? ⟨u.heap.size, 2, none⟩ = _ := X2.out.cell 2 rfl
  have y3 : (U.alloc (.cells (stepO ⟨k, p, q, id, sz, md⟩).toArray 155)).cell? ⟨u.heap.size, 3, none⟩ = _ := X2.out.cell 3 rfl
  have y4 : (U.alloc (.cells (stepO ⟨k, p, q, id, sz, md⟩).toArray 155)).cell? ⟨u.heap.size, 4, none⟩ = _ := X2.out.cell 4 rfl
  have y5 : (U.alloc (.cells (stepO ⟨k, p, q, id, sz, md⟩).toArray 155)).cell? ⟨u.heap.size, 5, none⟩ = _ := X2.out.cell 5 rfl
  simp only [stepO, stRow, Int.natCast_zero] at d5' y0 y1 y2 y3 y4 y5
  have hz2' := S2.out.w.size
  have D6 := hidD (fun (w6 : World) (hg : (U.alloc (.cells (stepO ⟨k, p, q, id, sz, md⟩).toArray 155)).drew.grownBy w6 (Value.slice sa sn sc).ownBlock) => S2.out.d.kept hg (blk_row S2.out.d S2.out.st (by decide)))
  go_region_law ((refine step_append_lies _ (by rfl) (.tmp 9) (.tmp 12) 97 (by rfl) w0.heap.size 155 i0 _ 9 120 Tryz.underlying97 hi hz0 hz1 hz2 rfl (by decide) (.slice sa sn sc) N (stD op ws row N) (by rfl) S2.out.st ⟨U.heap.size, 0, none⟩ 1 1 (stepO ⟨k, p, q, id, sz, md⟩) (by rfl) rfl (new_at U 155 (stepO ⟨k, p, q, id, sz, md⟩)) (stepO_one _) (by decide) (by unfold maxLen; omega) (by omega) hz2' _ rfl ?_; intro g6 c6 w6 hown6 hg6 hat6 hlt6; have e5 := (D6.out w6 hg6).cell 5 rfl; have f5 := (D6.out w6 hg6).frozen 5))
  all_goals
    rw [EQ.out] at hown6
    have S7 := hidD (S2.out.added hown6 hg6)
    have z5 := S7.out.d.cell 5 rfl
    go_wp2
    go_ret
    refine ⟨by first | rfl | (congr 2; omega) | simp, ⟨_, S7.out⟩, fun b T xs h h1 h2 => ?_⟩
    have hb2 := (HF0.out b T xs h).below hbU
    have hb3 := hb2.kept hg6 (blk_row hb2 S2.out.st h1)
    exact hb3.other 5 _ (hb3.ne (D6.out _ hg6) h2)
def wtW (o : Option Nat) (k : Nat) (ws : Nat → Nat) : Nat → Nat := match o with | none => ws | some _ => upN ws k (ws k + 1)
def wtF (o : Option Nat) (k : Nat) (lst : Nat → List Nat) : Nat → List Nat := match o with | none => lst | some y => upN lst (2 * y) (lst (2 * y) ++ [k])
def wtM (o : Option Nat) (k : Nat) (lst : Nat → List Nat) : Nat → List Nat := match o with | none => lst | some y => upN lst (2 * y + 1) (lst (2 * y + 1) ++ [k])
set_option maxHeartbeats 8000000 in
set_option maxRecDepth 100000 in
theorem waitFreedN {w0 u : World} {x : Dw} {lv cm : Nat → Option Nat} {stv : Value} {N : Nat} {op : Nat → OpD} {ws : Nat → Nat} {row : Nat → Value} {lst : Nat → List Nat} (S : DsN w0 u x lv cm stv N op ws row lst) {k : Nat} (hk : k < N) (o : Option Nat) (ho : ∀ y, o = some y → y < N) (hw : ws k ≤ 1000000) (hl : ∀ r, (lst r).length ≤ 1000) (hN : N ≤ 1000) :
    Calls Tryz.prog 157 #[.pointer (some ⟨x.D, 0, none⟩), .int .i64 k, .int .i64 (optI o)] u fun e w' => e = .returned (.tuple #[]) ∧ (∃ row', DsN w0 w' x lv cm stv N op (wtW o k ws) row' (wtF o k lst)) ∧ ∀ (b : Nat) (T : TypeId) (xs : List Value), Blk u b T xs → T ≠ 155 → T ≠ 3 → Blk w' b T xs := by
  cases o with
  | none =>
    have S0 := hidD S
    have o1 : optI none = -1 := rfl
    rw [o1]
    clear S
    go_enter Tryz.func157, Tryz.ntmps157
    go_wp2
    refine bodyPost_end (results_none rfl _ _ _) rfl ?_
    exact ⟨rfl, ⟨row, S0.out⟩, fun b T xs h _ _ => h⟩
  | some y =>
    have hy := ho y rfl
    have o1 : optI (some y) = (y : Int) := rfl
    rw [o1]
    obtain ⟨g, c, hstv⟩ := S.form (by omega)
    subst hstv
    obtain ⟨i0, hi, hz0, hz1, hz2⟩ := info_parts info3
    have hyr : 2 * y < 2 * N := by omega
    have G := blk_of_row S.st
    have d5 := S.d.cell 5 rfl
    have c6 : u.cell? ⟨g, k * 9 + 6, none⟩ = some (.int .i64 ((ws k : Nat) : Int)) := G.cell _ ((stC_get hk (by decide)).trans rfl)
    have f6 := G.frozen (k * 9 + 6)
    have S1 := hidD (S.setSt (k * 9 + 6) (.int .i64 ((ws k + 1 : Nat) : Int)) (stD_W hk (ws k + 1)))
    have G1 := blk_of_row S1.out.st
    have d5' := S1.out.d.cell 5 rfl
    have eo : offR (2 * y) = y * 9 + 7 := by unfold offR; omega
    have c7 : (u.setCell ⟨g, k * 9 + 6, none⟩ (.int .i64 ((ws k + 1 : Nat) : Int))).cell? ⟨g, y * 9 + 7, none⟩ = some (row (2 * y)) := by
      have := G1.cell (offR (2 * y)) (stD_get hyr)
      rw [eo] at this
      exact this
    obtain ⟨ra, rc, hrow⟩ := row_shape0 (S.rw (2 * y))
    have hll := hl (2 * y)
    have HG := hidD (And.intro G G1)
    have HROW := hidD hrow
    have e9 : ((ws k : Nat) : Int) + 1 = ((ws k + 1 : Nat) : Int) := by omega
    have w9 : IntKind.i64.wrap ((ws k + 1 : Nat) : Int) = ((ws k + 1 : Nat) : Int) := by rw [IntKind.wrap_i64]; omega
    have hk' : (k : Int) < (N : Int) := by omega
    have hy' : (y : Int) < (N : Int) := by omega
    have hne : ((y : Int) != -1) = true := by simp
    rw [hrow] at c7
    generalize hwv : ((ws k + 1 : Nat) : Int) = wv at *
    generalize hwu : ((ws k : Nat) : Int) = wu at *
    clear S G G1 hrow
    go_enter Tryz.func157, Tryz.ntmps157
    go_wp2
    generalize hU : u.setCell ⟨g, k * 9 + 6, none⟩ (.int .i64 wv) = U at *
    have hbU : Below U.heap.size U (U.alloc (.cells #[.int .i64 k] 3)).drew := (box_below U #[.int .i64 k] 3).trans (Below.mono (below_drewB _) (by simp))
    have S2 := hidD (S1.out.below hbU)
    have k5 : (U.alloc (.cells #[.int .i64 k] 3)).cell? ⟨x.D, 5, none⟩ = some (.slice (some ⟨g, 0, none⟩) N c) := S2.out.d.cell 5 rfl
    have k7 : (U.alloc (.cells #[.int .i64 k] 3)).cell? ⟨g, y * 9 + 7, none⟩ = some (.slice ra (lst (2 * y)).length rc) := by
      have := (blk_of_row S2.out.st).cell (offR (2 * y)) (stD_get hyr)
      rw [eo, HROW.out] at this
      exact this
    have hz2' := S2.out.w.size
    have R2 := hidD (S2.out.rw (2 * y))
    have HRO : Hid ((U.alloc (.cells #[.int .i64 k] 3)).drew.ownsRow w0.heap.size 3 1 (.slice ra (lst (2 * y)).length rc) (lst (2 * y)).length (numV (lst (2 * y)))) := by rw [← HROW.out]; exact R2.out
    have HF := hidD (fun (w6 : World) (hg : (U.alloc (.cells #[.int .i64 k] 3)).drew.grownBy w6 (Value.slice ra (lst (2 * y)).length rc).ownBlock) => And.intro (S2.out.d.kept hg (blk_row S2.out.d HRO.out (by decide))) (blk_of_row (row_row S2.out.st HRO.out (by decide) hg)))
    go_region_law ((refine step_append_lies _ (by rfl) (.tmp 31) (.tmp 33) 23 (by rfl) w0.heap.size 3 i0 _ 1 8 Tryz.underlying23 hi hz0 hz1 hz2 rfl (by decide) (.slice ra (lst (2 * y)).length rc) (lst (2 * y)).length (numV (lst (2 * y))) (by rfl) HRO.out ⟨U.heap.size, 0, none⟩ 1 1 [.int .i64 k] (by rfl) rfl (new_at U 3 [.int .i64 k]) (by intro x hx; rw [List.mem_singleton.1 hx]; rfl) (by decide) (by unfold maxLen; omega) (by omega) hz2' _ rfl ?_; intro g6 c6' w6 hown6 hg6 hat6 hlt6; have l5 := (HF.out w6 hg6).1.cell 5 rfl; have l7 := (HF.out w6 hg6).2.cell (y * 9 + 7) (by rw [← eo]; exact stD_get hyr); have lf := (HF.out w6 hg6).2.frozen (y * 9 + 7)))
    all_goals
      refine bodyPost_end (results_none rfl _ _ _) rfl ?_
      have hg6' := hg6
      rw [← HROW.out] at hg6' hat6
      have S7 := S2.out.grow (k := k) hyr hown6 hg6' hat6
      rw [eo] at S7
      have F6 := (HF.out _ hg6).2
      refine ⟨rfl, ⟨_, S7⟩, fun b T xs h hT hT3 => ?_⟩
      have h1 := h.other (b' := g) (k * 9 + 6) (.int .i64 wv) (h.ne HG.out.1 hT)
      rw [hU] at h1
      have h2 := h1.below hbU
      have h3 := h2.kept hg6 (blk_row h2 HRO.out hT3)
      exact h3.other _ _ (h3.ne F6 hT)
set_option maxHeartbeats 8000000 in
set_option maxRecDepth 100000 in
theorem waitMadeN {w0 u : World} {x : Dw} {lv cm : Nat → Option Nat} {stv : Value} {N : Nat} {op : Nat → OpD} {ws : Nat → Nat} {row : Nat → Value} {lst : Nat → List Nat} (S : DsN w0 u x lv cm stv N op ws row lst) {k : Nat} (hk : k < N) (o : Option Nat) (ho : ∀ y, o = some y → y < N) (hw : ws k ≤ 1000000) (hl : ∀ r, (lst r).length ≤ 1000) (hN : N ≤ 1000) :
    Calls Tryz.prog 153 #[.pointer (some ⟨x.D, 0, none⟩), .int .i64 k, .int .i64 (optI o)] u fun e w' => e = .returned (.tuple #[]) ∧ (∃ row', DsN w0 w' x lv cm stv N op (wtW o k ws) row' (wtM o k lst)) ∧ ∀ (b : Nat) (T : TypeId) (xs : List Value), Blk u b T xs → T ≠ 155 → T ≠ 3 → Blk w' b T xs := by
  cases o with
  | none =>
    have S0 := hidD S
    have o1 : optI none = -1 := rfl
    rw [o1]
    clear S
    go_enter Tryz.func153, Tryz.ntmps153
    go_wp2
    refine bodyPost_end (results_none rfl _ _ _) rfl ?_
    exact ⟨rfl, ⟨row, S0.out⟩, fun b T xs h _ _ => h⟩
  | some y =>
    have hy := ho y rfl
    have o1 : optI (some y) = (y : Int) := rfl
    rw [o1]
    obtain ⟨g, c, hstv⟩ := S.form (by omega)
    subst hstv
    obtain ⟨i0, hi, hz0, hz1, hz2⟩ := info_parts info3
    have hyr : 2 * y + 1 < 2 * N := by omega
    have G := blk_of_row S.st
    have d5 := S.d.cell 5 rfl
    have c6 : u.cell? ⟨g, k * 9 + 6, none⟩ = some (.int .i64 ((ws k : Nat) : Int)) := G.cell _ ((stC_get hk (by decide)).trans rfl)
    have f6 := G.frozen (k * 9 + 6)
    have S1 := hidD (S.setSt (k * 9 + 6) (.int .i64 ((ws k + 1 : Nat) : Int)) (stD_W hk (ws k + 1)))
    have G1 := blk_of_row S1.out.st
    have d5' := S1.out.d.cell 5 rfl
    have eo : offR (2 * y + 1) = y * 9 + 8 := by unfold offR; omega
    have c7 : (u.setCell ⟨g, k * 9 + 6, none⟩ (.int .i64 ((ws k + 1 : Nat) : Int))).cell? ⟨g, y * 9 + 8, none⟩ = some (row (2 * y + 1)) := by
      have := G1.cell (offR (2 * y + 1)) (stD_get hyr)
      rw [eo] at this
      exact this
    obtain ⟨ra, rc, hrow⟩ := row_shape0 (S.rw (2 * y + 1))
    have hll := hl (2 * y + 1)
    have HG := hidD (And.intro G G1)
    have HROW := hidD hrow
    have e9 : ((ws k : Nat) : Int) + 1 = ((ws k + 1 : Nat) : Int) := by omega
    have w9 : IntKind.i64.wrap ((ws k + 1 : Nat) : Int) = ((ws k + 1 : Nat) : Int) := by rw [IntKind.wrap_i64]; omega
    have hk' : (k : Int) < (N : Int) := by omega
    have hy' : (y : Int) < (N : Int) := by omega
    have hne : ((y : Int) != -1) = true := by simp
    rw [hrow] at c7
    generalize hwv : ((ws k + 1 : Nat) : Int) = wv at *
    generalize hwu : ((ws k : Nat) : Int) = wu at *
    clear S G G1 hrow
    go_enter Tryz.func153, Tryz.ntmps153
    go_wp2
    generalize hU : u.setCell ⟨g, k * 9 + 6, none⟩ (.int .i64 wv) = U at *
    have hbU : Below U.heap.size U (U.alloc (.cells #[.int .i64 k] 3)).drew := (box_below U #[.int .i64 k] 3).trans (Below.mono (below_drewB _) (by simp))
    have S2 := hidD (S1.out.below hbU)
    have k5 : (U.alloc (.cells #[.int .i64 k] 3)).cell? ⟨x.D, 5, none⟩ = some (.slice (some ⟨g, 0, none⟩) N c) := S2.out.d.cell 5 rfl
    have k7 : (U.alloc (.cells #[.int .i64 k] 3)).cell? ⟨g, y * 9 + 8, none⟩ = some (.slice ra (lst (2 * y + 1)).length rc) := by
      have := (blk_of_row S2.out.st).cell (offR (2 * y + 1)) (stD_get hyr)
      rw [eo, HROW.out] at this
      exact this
    have hz2' := S2.out.w.size
    have R2 := hidD (S2.out.rw (2 * y + 1))
    have HRO : Hid ((U.alloc (.cells #[.int .i64 k] 3)).drew.ownsRow w0.heap.size 3 1 (.slice ra (lst (2 * y + 1)).length rc) (lst (2 * y + 1)).length (numV (lst (2 * y + 1)))) := by rw [← HROW.out]; exact R2.out
    have HF := hidD (fun (w6 : World) (hg : (U.alloc (.cells #[.int .i64 k] 3)).drew.grownBy w6 (Value.slice ra (lst (2 * y + 1)).length rc).ownBlock) => And.intro (S2.out.d.kept hg (blk_row S2.out.d HRO.out (by decide))) (blk_of_row (row_row S2.out.st HRO.out (by decide) hg)))
    go_region_law ((refine step_append_lies _ (by rfl) (.tmp 31) (.tmp 33) 23 (by rfl) w0.heap.size 3 i0 _ 1 8 Tryz.underlying23 hi hz0 hz1 hz2 rfl (by decide) (.slice ra (lst (2 * y + 1)).length rc) (lst (2 * y + 1)).length (numV (lst (2 * y + 1))) (by rfl) HRO.out ⟨U.heap.size, 0, none⟩ 1 1 [.int .i64 k] (by rfl) rfl (new_at U 3 [.int .i64 k]) (by intro x hx; rw [List.mem_singleton.1 hx]; rfl) (by decide) (by unfold maxLen; omega) (by omega) hz2' _ rfl ?_; intro g6 c6' w6 hown6 hg6 hat6 hlt6; have l5 := (HF.out w6 hg6).1.cell 5 rfl; have l7 := (HF.out w6 hg6).2.cell (y * 9 + 8) (by rw [← eo]; exact stD_get hyr); have lf := (HF.out w6 hg6).2.frozen (y * 9 + 8)))
    all_goals
      refine bodyPost_end (results_none rfl _ _ _) rfl ?_
      have hg6' := hg6
      rw [← HROW.out] at hg6' hat6
      have S7 := S2.out.grow (k := k) hyr hown6 hg6' hat6
      rw [eo] at S7
      have F6 := (HF.out _ hg6).2
      refine ⟨rfl, ⟨_, S7⟩, fun b T xs h hT hT3 => ?_⟩
      have h1 := h.other (b' := g) (k * 9 + 6) (.int .i64 wv) (h.ne HG.out.1 hT)
      rw [hU] at h1
      have h2 := h1.below hbU
      have h3 := h2.kept hg6 (blk_row h2 HRO.out hT3)
      exact h3.other _ _ (h3.ne F6 hT)
end Go.Proofs.YtpjjagalekolaaaGreatDoor

