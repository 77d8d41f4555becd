/- Have two trees at a path, and below it, the same? Has an operation to do with a path? -/
import Derived.Test.YtpjjagalekolaaaGreatDoorY18
import Derived.Test.YtpjjagalekolaaaGreatDoorY28
import Derived.Test.YtpjjagalekolaaaGreatDoorY09
namespace Go.Proofs.YtpjjagalekolaaaGreatDoor
open Go.RowKit
set_option linter.unusedVariables false
set_option linter.unusedSimpArgs false

/-- At a path and all below it both trees have the same. -/
structure WholeP (s t : List EntD) (p : BL) : Prop where
  st : ∀ o ∈ s, BelP o.pl p → o ∈ t
  ts : ∀ o ∈ t, BelP o.pl p → o ∈ s
  at_ : ∃ a ∈ s, a.pl = p
def TouchP (o : OpD) (p : BL) : Prop := (BelP o.path.data.toList p ∧ ¬ o.kind = 5) ∨ (BelP o.dest.data.toList p ∧ ¬ o.dest.data.toList = []) ∨ (BelP p o.path.data.toList ∧ (o.kind = 6 ∨ o.kind = 2 ∨ o.kind = 3))


theorem getD1 {l : List EntD} {i : Nat} {o : EntD} (h : l[i]? = some o) : o ∈ l := List.mem_iff_getElem?.2 ⟨i, h⟩
def WholeR (w : World) (s t : List EntD) (p : BL) (e : Ending) (w' : World) : Prop := ∃ b : Bool, e = .returned (.bool b) ∧ (b = true → WholeP s t p) ∧ Below w.heap.size w w'
set_option maxHeartbeats 8000000 in
set_option maxRecDepth 100000 in
theorem whole26 {w : World} {sv tv : Value} {s t : List EntD} (hs : RowAt w sv s) (ht : RowAt w tv t) (ss : SmallL s) (st : SmallL t) (p : ByteArray) (hp : p.size ≤ 1500000) : Calls Tryz.prog 26 #[sv, tv, .string p] w fun e w' => WholeR w s t p.data.toList e w' := by
  have HS := hidD hs
  have HT := hidD ht
  have HSS := hidD ss
  have HTS := hidD st
  have hls := ss.1
  have hlt := st.1
  obtain ⟨sa, sc, hsv⟩ := hs.val
  obtain ⟨ta, tc, htv⟩ := ht.val
  subst hsv htv
  clear hs ht ss st
  go_enter Tryz.func26, Tryz.ntmps26
  go_wp2_with fail
  go_loopw [7] (fun iv wr => ∃ i : Nat, i ≤ s.length ∧ iv = .int .i64 i ∧ Hid (Below w.heap.size w wr) ∧ Hid (∀ o ∈ s.take i, BelP o.path.data.toList p.data.toList → o ∈ t)) (fun iv _ => s.length - (intOf iv).toNat)
  case atStart => exact ⟨0, Nat.zero_le _, rfl, hidD (Below.refl _ _), fun o ho => by simp at ho⟩
  case round =>
    obtain ⟨i, hi, rfl, HB, N⟩ := hrel
    by_cases hil : i < s.length
    · obtain ⟨b, off, cap, ⟨q, d, id, z, m⟩, hv, ho, c0, c1, c2, c3, c4⟩ := (HS.out.below HB.out (Nat.le_refl _)).entC hil
      cases hv
      have hqs : q.size ≤ 1500000 := HSS.out.2 _ (getD1 ho)
      have HO := hidD ho
      dsimp only at c0 c1 c2 c3 c4
      have hil' : (i : Int) < (s.length : Int) := by omega
      have N1 : Hid (∀ (e : belB q p = false ∨ (EntD.mk q d id z m) ∈ t), ∀ o ∈ s.take (i + 1), BelP o.path.data.toList p.data.toList → o ∈ t) := fun e o ho' => by
        rw [List.take_add_one, HO.out] at ho'
        rcases List.mem_append.1 ho' with h | h
        · exact N.out o h
        · simp at h
          subst h
          intro hbel
          rcases e with e | e
          · rw [(belB_iff q p).2 hbel] at e; cases e
          · exact e
      have H46 := hidD (fun (u : World) => below46 q p u hqs hp)
      have H28 := hidD (fun (u : World) (hu : Below w.heap.size w u) => find28 (HT.out.below hu (Nat.le_refl _)) hlt q)
      clear ho hqs N
      go_wp2_with fail
      refine (H46.out _).mono ?_
      rintro e wz ⟨rfl, hwz⟩
      rw [hwz.out]
      clear hwz wz
      go_wp2_with fail
      refine (H28.out _ HB.out).mono ?_
      rintro e wz ⟨rfl, hwz⟩
      rw [hwz.out]
      clear hwz wz H46 H28
      cases hbb : belB q p with
      | false =>
        have N2 := hidD (N1.out (.inl hbb))
        clear N1 hbb
        go_wp2_with fail
        go_quiet (fail)
        have HB2 := hidD (HB.out.trans ((below_drewNB wr nq).mono HB.out.size))
        generalize wr.drewN nq = u2 at *
        clear HB
        go_wp2_with fail
        exact ⟨⟨i + 1, by omega, by go_num, HB2, N2⟩, by simp [intOf]; omega⟩
      | true =>
        clear hbb
        rcases finI_at (L := t) (p := q) with ⟨hf, _⟩ | ⟨k, ⟨q', d', id', z', m'⟩, hf, hk, hkq⟩
        · rw [hf]
          clear N1 hf
          go_wp2_with fail
          go_quiet (fail)
          have HB2 := hidD (HB.out.trans ((below_drewNB wr nq).mono HB.out.size))
          generalize wr.drewN nq = u2 at *
          clear HB
          go_wp2_with fail
          go_ret
          exact ⟨false, rfl, fun h => (by cases h), HB2.out⟩
        · rw [hf]
          have hkl : k < t.length := (List.getElem?_eq_some_iff.1 hk).1
          have hkl' : (k : Int) < (t.length : Int) := by omega
          have hk0 : ¬ (k : Int) < 0 := by omega
          obtain ⟨b', off', cap', o', hv', ho', e0, e1, e2, e3, e4⟩ := (HT.out.below HB.out (Nat.le_refl _)).entC hkl
          cases hv'
          rw [hk] at ho'
          cases ho'
          dsimp only at e0 e1 e2 e3 e4
          by_cases heq : q' = q ∧ d' = d ∧ id' = id ∧ z' = z ∧ m' = m
          · obtain ⟨rfl, rfl, rfl, rfl, rfl⟩ := heq
            have N2 := hidD (N1.out (.inr (getD1 hk)))
            clear N1 hf hk hkq
            go_wp2_with fail
            go_quiet (fail)
            have HB2 := hidD (HB.out.trans ((below_drewNB wr nq).mono HB.out.size))
            generalize wr.drewN nq = u2 at *
            clear HB c0 c1 c2 c3 c4 e0 e1 e2 e3 e4
            go_wp2_with fail
            exact ⟨⟨i + 1, by omega, by go_num, HB2, N2⟩, by simp [intOf]; omega⟩
          · have hnq := neq75 q' q d' d id' z' m' id z m heq
            clear N1 hf hk hkq heq
            go_wp2_with fail
            go_quiet (fail)
            have HB2 := hidD (HB.out.trans ((below_drewNB wr nq).mono HB.out.size))
            generalize wr.drewN nq = u2 at *
            clear HB c0 c1 c2 c3 c4 e0 e1 e2 e3 e4 hnq
            go_wp2_with fail
            go_ret
            exact ⟨false, rfl, fun h => (by cases h), HB2.out⟩
    · have hie : i = s.length := by omega
      subst hie
      have ST : Hid (∀ o ∈ s, BelP o.path.data.toList p.data.toList → o ∈ t) := by have := N.out; rw [List.take_length] at this; exact this
      clear N
      go_wp2_with fail
      go_loopw [10] (fun iv wr => ∃ i : Nat, i ≤ t.length ∧ iv = .int .i64 i ∧ Hid (Below w.heap.size w wr) ∧ Hid (∀ o ∈ t.take i, BelP o.path.data.toList p.data.toList → o ∈ s)) (fun iv _ => t.length - (intOf iv).toNat)
      case atStart => exact ⟨0, Nat.zero_le _, rfl, HB, fun o ho => by simp at ho⟩
      case round =>
        clear HB
        obtain ⟨i, hi, rfl, HB, N⟩ := hrel
        by_cases hil : i < t.length
        · obtain ⟨b, off, cap, ⟨q, d, id, z, m⟩, hv, ho, c0, c1, c2, c3, c4⟩ := (HT.out.below HB.out (Nat.le_refl _)).entC hil
          cases hv
          have hqs : q.size ≤ 1500000 := HTS.out.2 _ (getD1 ho)
          have HO := hidD ho
          dsimp only at c0 c1 c2 c3 c4
          have hil' : (i : Int) < (t.length : Int) := by omega
          have N1 : Hid (∀ (e : belB q p = false ∨ (EntD.mk q d id z m) ∈ s), ∀ o ∈ t.take (i + 1), BelP o.path.data.toList p.data.toList → o ∈ s) := fun e o ho' => by
            rw [List.take_add_one, HO.out] at ho'
            rcases List.mem_append.1 ho' with h | h
            · exact N.out o h
            · simp at h
              subst h
              intro hbel
              rcases e with e | e
              · rw [(belB_iff q p).2 hbel] at e; cases e
              · exact e
          have H46 := hidD (fun (u : World) => below46 q p u hqs hp)
          have H28 := hidD (fun (u : World) (hu : Below w.heap.size w u) => find28 (HS.out.below hu (Nat.le_refl _)) hls q)
          clear ho hqs N
          go_wp2_with fail
          refine (H46.out _).mono ?_
          rintro e wz ⟨rfl, hwz⟩
          rw [hwz.out]
          clear hwz wz
          go_wp2_with fail
          refine (H28.out _ HB.out).mono ?_
          rintro e wz ⟨rfl, hwz⟩
          rw [hwz.out]
          clear hwz wz H46 H28
          cases hbb : belB q p with
          | false =>
            have N2 := hidD (N1.out (.inl hbb))
            clear N1 hbb
            go_wp2_with fail
            go_quiet (fail)
            have HB2 := hidD (HB.out.trans ((below_drewNB wr nq).mono HB.out.size))
            generalize wr.drewN nq = u2 at *
            clear HB
            go_wp2_with fail
            exact ⟨⟨i + 1, by omega, by go_num, HB2, N2⟩, by simp [intOf]; omega⟩
          | true =>
            clear hbb
            rcases finI_at (L := s) (p := q) with ⟨hf, _⟩ | ⟨k, ⟨q', d', id', z', m'⟩, hf, hk, hkq⟩
            · rw [hf]
              clear N1 hf
              go_wp2_with fail
              go_quiet (fail)
              have HB2 := hidD (HB.out.trans ((below_drewNB wr nq).mono HB.out.size))
              generalize wr.drewN nq = u2 at *
              clear HB
              go_wp2_with fail
              go_ret
              exact ⟨false, rfl, fun h => (by cases h), HB2.out⟩
            · rw [hf]
              have hkl : k < s.length := (List.getElem?_eq_some_iff.1 hk).1
              have hkl' : (k : Int) < (s.length : Int) := by omega
              have hk0 : ¬ (k : Int) < 0 := by omega
              obtain ⟨b', off', cap', o', hv', ho', e0, e1, e2, e3, e4⟩ := (HS.out.below HB.out (Nat.le_refl _)).entC hkl
              cases hv'
              rw [hk] at ho'
              cases ho'
              dsimp only at e0 e1 e2 e3 e4
              by_cases heq : q' = q ∧ d' = d ∧ id' = id ∧ z' = z ∧ m' = m
              · obtain ⟨rfl, rfl, rfl, rfl, rfl⟩ := heq
                have N2 := hidD (N1.out (.inr (getD1 hk)))
                clear N1 hf hk hkq
                go_wp2_with fail
                go_quiet (fail)
                have HB2 := hidD (HB.out.trans ((below_drewNB wr nq).mono HB.out.size))
                generalize wr.drewN nq = u2 at *
                clear HB c0 c1 c2 c3 c4 e0 e1 e2 e3 e4
                go_wp2_with fail
                exact ⟨⟨i + 1, by omega, by go_num, HB2, N2⟩, by simp [intOf]; omega⟩
              · have hnq := neq75 q' q d' d id' z' m' id z m heq
                clear N1 hf hk hkq heq
                go_wp2_with fail
                go_quiet (fail)
                have HB2 := hidD (HB.out.trans ((below_drewNB wr nq).mono HB.out.size))
                generalize wr.drewN nq = u2 at *
                clear HB c0 c1 c2 c3 c4 e0 e1 e2 e3 e4 hnq
                go_wp2_with fail
                go_ret
                exact ⟨false, rfl, fun h => (by cases h), HB2.out⟩
        · have hie : i = t.length := by omega
          subst hie
          have TS : Hid (∀ o ∈ t, BelP o.path.data.toList p.data.toList → o ∈ s) := by have := N.out; rw [List.take_length] at this; exact this
          clear N
          go_wp2_with fail
          have H28 := hidD (find28 (HS.out.below HB.out (Nat.le_refl _)) hls p)
          go_wp2_with fail
          refine H28.out.mono ?_
          rintro e wz ⟨rfl, hwz⟩
          rw [hwz.out]
          clear hwz wz H28
          rcases finI_at (L := s) (p := p) with ⟨hf, _⟩ | ⟨k, o, hf, hk, hkq⟩
          · rw [hf]
            clear hf
            go_wp2_with fail
            go_ret
            exact ⟨false, rfl, fun h => (by cases h), HB.out⟩
          · rw [hf]
            have hk0 : (0 : Int) ≤ (k : Int) := by omega
            have HW : Hid (WholeP s t p.data.toList) := ⟨ST.out, TS.out, o, getD1 hk, by rw [EntD.pl, hkq]⟩
            clear hf hk hkq
            go_wp2_with fail
            go_ret
            exact ⟨true, rfl, fun _ => HW.out, HB.out⟩

set_option maxHeartbeats 8000000 in
set_option maxRecDepth 100000 in
theorem touches27 (o : OpD) (p : ByteArray) (w : World) (hsm : o.small) (hp : p.size ≤ 1500000) (hN : ¬ TouchP o p.data.toList) : Calls Tryz.prog 27 #[.agg #[.int .i64 o.kind, .string o.path, .string o.dest, .int .i64 o.id, .int .i64 o.size, .int .i64 o.mode], .string p] w fun e w' => e = .returned (.bool false) ∧ Below w.heap.size w w' := by
  obtain ⟨kd, pa, de, id, sz, mo⟩ := o
  obtain ⟨h1, h2⟩ := hsm
  unfold TouchP at hN
  dsimp only at *
  have hA : belB pa p = false ∨ kd = 5 := by
    by_cases e : kd = 5
    · exact .inr e
    · left
      cases hb : belB pa p with
      | false => rfl
      | true => exact absurd (.inl ⟨(belB_iff pa p).1 hb, e⟩) hN
  have hB : belB de p = false ∨ de = ⟨#[]⟩ := by
    cases hb : belB de p with
    | false => exact .inl rfl
    | true =>
      right
      by_cases e : de.data.toList = []
      · cases de; simp at e; rw [e]
      · exact absurd (.inr (.inl ⟨(belB_iff de p).1 hb, e⟩)) hN
  have hU : belB p pa = false ∨ (¬ kd = 6 ∧ ¬ kd = 2 ∧ ¬ kd = 3) := by
    cases hb : belB p pa with
    | false => exact .inl rfl
    | true =>
      right
      have : ¬ (kd = 6 ∨ kd = 2 ∨ kd = 3) := fun e => hN (.inr (.inr ⟨(belB_iff p pa).1 hb, e⟩))
      omega
  have H1 := hidD (fun (u : World) => below46 pa p u h1 hp)
  have H2 := hidD (fun (u : World) => below46 de p u h2 hp)
  have H3 := hidD (fun (u : World) => below46 p pa u hp h1)
  have BX := hidD (box_below w #[.int .i64 kd, .string pa, .string de, .int .i64 id, .int .i64 sz, .int .i64 mo] 59)
  have X := hidD (Blk.new w 59 [.int .i64 kd, .string pa, .string de, .int .i64 id, .int .i64 sz, .int .i64 mo])
  clear hN h1 h2
  generalize belB pa p = x1 at *
  generalize belB de p = x2 at *
  generalize belB p pa = x3 at *
  have x0 := X.out.cell 0 rfl
  have y1 := X.out.cell 1 rfl
  have y2 := X.out.cell 2 rfl
  clear X
  go_enter Tryz.func27, Tryz.ntmps27
  go_wp2_with fail
  refine (H1.out _).mono ?_
  rintro e wz ⟨rfl, hwz⟩
  rw [hwz.out]
  clear hwz wz
  go_wp2_with fail
  refine (H2.out _).mono ?_
  rintro e wz ⟨rfl, hwz⟩
  rw [hwz.out]
  clear hwz wz
  go_wp2_with fail
  refine (H3.out _).mono ?_
  rintro e wz ⟨rfl, hwz⟩
  rw [hwz.out]
  clear hwz wz H1 H2 H3
  have hK : (¬ kd = 6 ∧ ¬ kd = 2 ∧ ¬ kd = 3) ∨ kd = 6 ∨ kd = 2 ∨ kd = 3 := by omega
  rcases hK with ⟨k1, k2, k3⟩ | k | k | k
  · have k1' : (kd == 6) = false := by simp [k1]
    have k2' : (kd == 2) = false := by simp [k2]
    have k3' : (kd == 3) = false := by simp [k3]
    clear hU
    have key : (x1 = false ∨ (x1 = true ∧ kd = 5)) ∧ (x2 = false ∨ (x2 = true ∧ de = ⟨#[]⟩)) := by
      constructor
      · cases x1 with
        | false => exact .inl rfl
        | true => exact .inr ⟨rfl, by simpa using hA⟩
      · cases x2 with
        | false => exact .inl rfl
        | true => exact .inr ⟨rfl, by simpa using hB⟩
    clear hA hB
    obtain ⟨rfl | ⟨rfl, rfl⟩, rfl | ⟨rfl, rfl⟩⟩ := key
    all_goals cases x3
    all_goals (go_wp2_with fail; go_ret; exact ⟨rfl, BX.out⟩)
  all_goals
    subst k
    obtain rfl : x1 = false := by simpa using hA
    obtain rfl : x3 = false := by simpa using hU
    rcases hB with rfl | rfl
    · go_wp2_with fail
      go_ret
      exact ⟨rfl, BX.out⟩
    · cases x2
      · go_wp2_with fail
        go_ret
        exact ⟨rfl, BX.out⟩
      · go_wp2_with fail
        go_ret
        exact ⟨rfl, BX.out⟩
end Go.Proofs.YtpjjagalekolaaaGreatDoor

