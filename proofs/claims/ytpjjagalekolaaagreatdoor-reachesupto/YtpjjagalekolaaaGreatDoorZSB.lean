/- The law Reaches: a plan, done operation by operation, comes to the wanted tree, and loses nothing on the way. -/
import Derived.Test.YtpjjagalekolaaaGreatDoorY46SA
namespace Go.Proofs.YtpjjagalekolaaaGreatDoor
open Go.RowKit
set_option linter.unusedVariables false
set_option linter.unusedSimpArgs false

theorem getO {l : List OpD} {i : Nat} {o : OpD} (h : l[i]? = some o) : o ∈ l := List.mem_iff_getElem?.2 ⟨i, h⟩
theorem do_room {fold : Bool} {s t : List EntD} {l : List OpD} {n : Int} (h : tryP fold 9223372036854775807 s l = .ok (t, n)) {k : Nat} (hk : k < l.length) : doL fold n (wayT fold s l k) l[k] = .ok (wayT fold s l (k + 1)) := by
  have hw := (tryP_way h).2 k hk
  rcases do_two (space := n) hw with h1 | ⟨h1, _⟩
  · exact h1
  · have h2 := do_full hw h1
    have h3 := (tryP_need h).2.2.1 (k + 1) (Nat.zero_le _) (by omega)
    omega
/-- A volume on its way, and all that was there before it. -/
structure Rc (w3 u : World) (fold : Bool) (n : Int) (s : List EntD) (ops : List OpD) (va i : Nat) : Prop where
  bel : Below w3.heap.size w3 u
  ge : w3.heap.size ≤ va
  vk : ∃ v, Vk 89 u va v fold n [.string ⟨#[]⟩] ∧ RowAt u v (wayT fold s ops i)
theorem Rc.below {w3 u u' : World} {fold : Bool} {n : Int} {s : List EntD} {ops : List OpD} {va i : Nat} (h : Rc w3 u fold n s ops va i) (hb : Below u.heap.size u u') : Rc w3 u' fold n s ops va i := by
  obtain ⟨v, h1, h2⟩ := h.vk
  exact ⟨h.bel.trans (hb.mono h.bel.size), h.ge, v, h1.below hb h1.lt, h2.below hb (Nat.le_refl _)⟩
theorem Rc.did {w3 u : World} {fold : Bool} {n : Int} {s t : List EntD} {ops : List OpD} {va i : Nat} (h : Rc w3 u fold n s ops va i) (hT : tryP fold 9223372036854775807 s ops = .ok (t, n)) (hg : Gd w3) {o : OpD} (ho : ops[i]? = some o) (hok : okOp o = true) (hsm : o.small) :
    Calls Tryz.prog 25 #[.pointer (some ⟨va, 0, none⟩), .agg #[.int .i64 o.kind, .string o.path, .string o.dest, .int .i64 o.id, .int .i64 o.size, .int .i64 o.mode]] u fun r w' => r = .returned (.int .i64 0) ∧ Rc w3 w' fold n s ops va (i + 1) := by
  obtain ⟨hi, hoe⟩ := List.getElem?_eq_some_iff.1 ho
  obtain ⟨v, h1, h2⟩ := h.vk
  have hvol := way_vol hT i (by omega)
  have hused := (used_le (way_vol hT 0 (Nat.zero_le _))).1
  have hn0 : 0 ≤ n := Int.le_trans hused ((tryP_need hT).2.2.1 0 (Nat.le_refl _) (Nat.zero_le _))
  have hn1 := tryP_few hT
  refine (cDo h1 h2 hvol (hg.below h.bel) o hsm hn0 (by omega)).mono ?_
  intro r w' hd
  have hdo := do_room hT hi
  rw [hoe] at hdo
  rw [doesL, if_pos hok, hdo] at hd
  obtain ⟨rfl, v', k1, k2, k3⟩ := hd
  exact ⟨rfl, h.bel.grown k3 h.bel.size (fun q e => by cases e; exact h.ge), h.ge, v', k1, RowAt.ofOwn k2⟩
theorem mount_room {w : World} {v : Value} {L : List EntD} {fold : Bool} {n : Int} (ht : treeF fold L = true) (hr : RowAt w v L) (hs : SmallL L) (h0 : usedL L ≤ n) (h1 : n ≤ 100000) : Calls Tryz.prog 22 #[v, .bool fold, .int .i64 n, .string ⟨#[]⟩] w fun r w' => ∃ va, r = .returned (.tuple #[.pointer (some ⟨va, 0, none⟩), .int .i64 0]) ∧ w.heap.size ≤ va ∧ (∃ v', Vk 89 w' va v' fold n [.string ⟨#[]⟩] ∧ RowAt w' v' L) ∧ Below w.heap.size w w' := by
  refine (cMount fold hr hs n ⟨#[]⟩ (by decide)).mono ?_
  intro r w' h
  have hm : mountN fold n L = 0 := by
    unfold mountN
    rw [if_neg (by rw [tree_held ht]; decide), if_neg (by omega)]
  rw [CMnt, if_pos hm] at h
  obtain ⟨vb, v', rfl, hge, vk, vr, hb⟩ := h
  exact ⟨vb, rfl, hge, ⟨v', vk, RowAt.ofOwn vr⟩, hb⟩

theorem kept_has {s t V : List EntD} (h : KeptQ s t V) {a : EntD} (ha : a ∈ s) (hd : a.dir = false) (ht : hasB t a.id = true) : hasB V a.id = true := by
  obtain ⟨b, hb, h1⟩ := List.any_eq_true.1 ht
  simp only [Bool.and_eq_true, Bool.not_eq_true', beq_iff_eq] at h1
  obtain ⟨e, he, h2, h3⟩ := h a ha b hb hd h1.1 h1.2.symm
  exact List.any_eq_true.2 ⟨e, he, by simp [h2, h3]⟩

set_option maxHeartbeats 8000000 in
set_option maxRecDepth 100000 in
theorem reaches_any (sv tv nv : Value) (fold : Bool) (s t : List EntD) (store : List Int) (w : World) (hg : Gd w) (hs : RowAt w sv s) (ht : RowAt w tv t) (hn : IntsAt w nv store) (ss : SmallL s) (st : SmallL t) (hln : store.length ≤ 2000000) :
    Calls Tryz.prog 4 #[sv, tv, .bool fold, nv] w fun e w' => e = .returned (.bool true) ∧ Below w.heap.size w w' := by
  have HS := hidD hs
  have HT := hidD ht
  have HN := hidD hn
  have HSS := hidD ss
  have HST := hidD st
  have HG := hidD hg
  have hls := ss.1
  have hlt := st.1
  obtain ⟨sa, sc, hsv⟩ := hs.val
  obtain ⟨ta, tc, htv⟩ := ht.val
  obtain ⟨na, nc, hnv⟩ := hn.val
  subst hsv htv hnv
  clear hs ht hn ss st hg
  go_enter Tryz.func4, Tryz.ntmps4
  go_wp2_with fail
  refine (planned19 HG.out HS.out HT.out HN.out HSS.out HST.out hln).mono ?_
  rintro e w1 ⟨hb1, rfl | ⟨v1, ops, rfl, ho1, hp1⟩⟩
  · have B1 := hidD hb1
    clear hb1
    go_wp2_with fail
    go_ret
    exact ⟨rfl, B1.out⟩
  · have B1 := hidD hb1
    obtain ⟨oa, oc, hov⟩ := row_shape0 ho1
    subst hov
    have P := hidD hp1
    have O1 := hidD (OpRow.ofOwn ho1)
    obtain ⟨n, htry⟩ := hp1.try_
    have HTR := hidD htry
    have hlen := hp1.len
    clear hb1 ho1 hp1 htry HN
    go_wp2_with fail
    refine (faceTry (vTry fold (HS.out.below B1.out (Nat.le_refl _)) HSS.out (HG.out.below B1.out) O1.out (by omega) P.out.small _ HTR.out)).mono ?_
    rintro e w2 ⟨v2, rfl, ho2, hb2⟩
    dsimp only [rM, rN, rC, rK] at ho2 ⊢
    obtain ⟨a2, n2, c2, hv2⟩ := shape_of ho2
    subst hv2
    have R2 := hidD (RowAt.ofOwn ho2)
    have B2 := hidD (B1.out.trans (hb2.mono B1.out.size))
    have O2 := hidD (O1.out.below hb2 (Nat.le_refl _))
    clear ho2 hb2 O1 B1
    go_wp2_with fail
    refine (rEq R2.out (HT.out.below B2.out (Nat.le_refl _)) hlt).mono ?_
    rintro e w3' ⟨b3, rfl, hbb, nn, rfl⟩
    have hb3 : b3 = true := hbb.2 rfl
    subst hb3
    have B3 := hidD (B2.out.trans ((below_drewNB w2 nn).mono B2.out.size))
    have O3 := hidD (O2.out.below (below_drewNB w2 nn) (Nat.le_refl _))
    clear hbb R2 B2 O2
    generalize w2.drewN nn = w3 at *
    have S3 := hidD (HS.out.below B3.out (Nat.le_refl _))
    have T3 := hidD (HT.out.below B3.out (Nat.le_refl _))
    have G3 := hidD (HG.out.below B3.out)
    have hn1 := tryP_few HTR.out
    have hn2 : ¬ (100000 : Int) < n := by omega
    have hn3 := (tryP_need HTR.out).1
    have hts : treeF fold s = true := try_tree HTR.out
    clear HS HT HG
    have HMN := hidD (mount_room hts S3.out HSS.out hn3 (by omega))
    clear hn3 hts
    go_wp2_with fail
    refine HMN.out.mono ?_
    rintro e w4 ⟨va, rfl, hge, hvk, hb4⟩
    have RC0 : Hid (Rc w3 w4 fold n s ops va (min 0 ops.length)) := ⟨hb4, hge, by rw [Nat.zero_min]; exact hvk⟩
    clear hge hvk hb4 HMN
    go_wp2_with fail
    go_loopw [19] (fun iv wr => ∃ i : Nat, i ≤ ops.length + 1 ∧ iv = .int .i64 i ∧ Hid (Rc w3 wr fold n s ops va (min i ops.length))) (fun iv _ => ops.length + 1 - (intOf iv).toNat)
    case atStart => exact ⟨0, Nat.zero_le _, rfl, RC0⟩
    case round =>
      clear RC0
      obtain ⟨i, hi, rfl, RC⟩ := hrel
      by_cases hil : i ≤ ops.length
      · rw [Nat.min_eq_left hil] at RC
        have hil' : (i : Int) ≤ (ops.length : Int) := by omega
        obtain ⟨v4, vk4, r4⟩ := RC.out.vk
        have hfew := (way_vol HTR.out i hil).few
        have HCT := hidD (cTree vk4 r4 (by omega))
        clear vk4 r4
        go_wp2_with fail
        refine HCT.out.mono ?_
        rintro e w5 ⟨nv5, rfl, ho5, hb5⟩
        obtain ⟨a5, n5, c5, hv5⟩ := shape_of ho5
        subst hv5
        have NOW := hidD (RowAt.ofOwn ho5)
        have RC5 := hidD (RC.out.below hb5)
        have T5 := hidD (T3.out.below RC5.out.bel (Nat.le_refl _))
        have S5 := hidD (S3.out.below RC5.out.bel (Nat.le_refl _))
        have KQ := hidD (P.out.kept i hil)
        clear ho5 hb5 HCT RC
        go_wp2_with fail
        go_loopw [21] (fun kv wr2 => ∃ k : Nat, k ≤ s.length ∧ kv = .int .i64 k ∧ Hid (wr2 = w5)) (fun kv _ => s.length - (intOf kv).toNat)
        case atStart => exact ⟨0, Nat.zero_le _, rfl, rfl⟩
        case round =>
          obtain ⟨k, hk, rfl, HWR⟩ := hrel
          have hwr := HWR.out
          subst hwr
          clear HWR
          by_cases hks : k < s.length
          · obtain ⟨b, off, cap, ⟨p, d, q, z, m⟩, hv, ho, c0, c1, c2, c3, c4⟩ := S5.out.entC hks
            cases hv
            dsimp only at c0 c1 c2 c3 c4
            have hks' : (k : Int) < (s.length : Int) := by omega
            have HKH := hidD (fun (h1 : d = false) (h2 : hasB t q = true) => kept_has KQ.out (getE ho) h1 h2)
            have H1 := hidD (has24 T5.out hlt q)
            have H2 := hidD (has24 NOW.out (by omega) q)
            clear ho c0 c3 c4
            go_wp2_with fail
            refine H1.out.mono ?_
            rintro e wz ⟨rfl, hwz⟩
            rw [hwz.out]
            clear hwz wz
            go_wp2_with fail
            refine H2.out.mono ?_
            rintro e wz ⟨rfl, hwz⟩
            rw [hwz.out]
            clear hwz wz
            clear H1 H2
            cases d with
            | true =>
              clear HKH
              go_wp2_with fail
              exact ⟨⟨k + 1, by omega, by go_num, (by first | exact rfl | exact trivial)⟩, by simp [intOf]; omega⟩
            | false =>
              cases hq : hasB t q with
              | false =>
                clear HKH
                go_wp2_with fail
                exact ⟨⟨k + 1, by omega, by go_num, (by first | exact rfl | exact trivial)⟩, by simp [intOf]; omega⟩
              | true =>
                have h2 := HKH.out rfl hq
                rw [h2]
                clear HKH h2
                go_wp2_with fail
                exact ⟨⟨k + 1, by omega, by go_num, (by first | exact rfl | exact trivial)⟩, by simp [intOf]; omega⟩
          · have hke : k = s.length := by omega
            subst hke
            by_cases hio : i < ops.length
            · have hio' : (i : Int) < (ops.length : Int) := by omega
              obtain ⟨b, off, cap, ⟨kd, pa, de, id, sz, mo⟩, hv, ho, hc⟩ := O3.out.op hio
              cases hv
              dsimp only at hc
              obtain ⟨c0, c1, c2, c3, c4, c5⟩ := hc _ RC5.out.bel
              have HD := hidD (RC5.out.did HTR.out G3.out ho (P.out.ok _ (getO ho)) (P.out.small _ (getO ho)))
              clear ho hc
              go_wp2_with fail
              refine HD.out.mono ?_
              rintro e w6 ⟨rfl, hrc⟩
              have RC6 : Hid (Rc w3 w6 fold n s ops va (min (i + 1) ops.length)) := by rw [Nat.min_eq_left (by omega)]; exact hrc
              clear hrc HD RC5 NOW T5 S5
              go_wp2_with fail
              exact ⟨⟨i + 1, by omega, by go_num, RC6⟩, by simp [intOf]; omega⟩
            · have hio' : ¬ (i : Int) < (ops.length : Int) := by omega
              have RC6 : Hid (Rc w3 wr fold n s ops va (min (i + 1) ops.length)) := by
                have : min (i + 1) ops.length = i := by omega
                rw [this]; exact RC5.out
              clear RC5 NOW T5 S5
              go_wp2_with fail
              exact ⟨⟨i + 1, by omega, by go_num, RC6⟩, by simp [intOf]; omega⟩
      · have hie : i = ops.length + 1 := by omega
        subst hie
        have e1 : min (ops.length + 1) ops.length = ops.length := by omega
        rw [e1] at RC
        have hil' : ¬ ((ops.length + 1 : Nat) : Int) ≤ (ops.length : Int) := by omega
        obtain ⟨v4, vk4, r4⟩ := RC.out.vk
        rw [(tryP_way HTR.out).1] at r4
        have hlt120 := (way_vol HTR.out ops.length (Nat.le_refl _)).few
        rw [(tryP_way HTR.out).1] at hlt120
        have HCT := hidD (cTree vk4 r4 (by omega))
        clear vk4 r4 e1
        go_wp2_with fail
        refine HCT.out.mono ?_
        rintro e w5 ⟨nv5, rfl, ho5, hb5⟩
        obtain ⟨a5, n5, c5, hv5⟩ := shape_of ho5
        subst hv5
        have NOW := hidD (RowAt.ofOwn ho5)
        have RC5 := hidD (RC.out.below hb5)
        have HE := hidD (rEq NOW.out (T3.out.below RC5.out.bel (Nat.le_refl _)) hlt)
        clear ho5 hb5 HCT RC
        go_wp2_with fail
        refine HE.out.mono ?_
        rintro e w6 ⟨b6, rfl, hbb, nn, rfl⟩
        have hb6 : b6 = true := hbb.2 (by first | exact rfl | exact trivial)
        subst hb6
        have B6 := hidD ((B3.out.trans (RC5.out.bel.mono B3.out.size)).trans (below_drewNB w5 nn))
        clear hbb HE NOW RC5
        go_wp2_with fail
        go_ret
        exact ⟨rfl, B6.out⟩
end Go.Proofs.YtpjjagalekolaaaGreatDoor
