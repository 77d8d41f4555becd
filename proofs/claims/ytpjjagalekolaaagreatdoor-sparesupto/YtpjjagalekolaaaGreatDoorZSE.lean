/- The law Spares: a plan leaves alone what both trees have alike, writes nothing that is there, names nothing that is in neither tree, and is not too long. -/
import Derived.Test.YtpjjagalekolaaaGreatDoorY46SA
import Derived.Deep.CutRange
namespace Go.Proofs.YtpjjagalekolaaaGreatDoor
open Go.RowKit
set_option linter.unusedVariables false
set_option linter.unusedSimpArgs false

theorem getOp {l : List OpD} {i : Nat} {o : OpD} (h : l[i]? = some o) : o ∈ l := List.mem_iff_getElem?.2 ⟨i, h⟩
theorem finI_ge {L : List EntD} {p : ByteArray} : decide (0 ≤ finI L p) = true ↔ ∃ a ∈ L, a.path = p := by
  rcases finI_at (L := L) (p := p) with ⟨h, hn⟩ | ⟨k, o, h, hk, ho⟩
  · rw [h]
    constructor
    · intro h'; exact absurd (of_decide_eq_true h') (by omega)
    · rintro ⟨a, ha, e⟩; exact absurd e (hn a ha)
  · rw [h]
    constructor
    · intro _; exact ⟨o, List.mem_iff_getElem?.2 ⟨k, hk⟩, ho⟩
    · intro _; simp
theorem sprB_iff {p : ByteArray} (h : ∃ r, p.data.toList = 126 :: r) : sprB p = true := by
  obtain ⟨r, hr⟩ := h
  unfold sprB
  rw [hr]
  rfl
/-- What the law asks of each operation's names. -/
theorem NamedP.has {s t : List EntD} {o : OpD} (h : NamedP s t o) : (o.kind = 4 → hasB s o.id = false) ∧ (decide (0 ≤ finI s o.path) = true ∨ decide (0 ≤ finI t o.path) = true ∨ sprB o.path = true) ∧ (decide (0 ≤ finI s o.dest) = true ∨ decide (0 ≤ finI t o.dest) = true ∨ sprB o.dest = true ∨ o.dest = ⟨#[]⟩) := by
  refine ⟨fun hk => ?_, ?_, ?_⟩
  · cases hh : hasB s o.id with
    | false => rfl
    | true =>
      obtain ⟨a, ha, h1⟩ := List.any_eq_true.1 hh
      simp only [Bool.and_eq_true, Bool.not_eq_true', beq_iff_eq] at h1
      exact absurd h1.2 (h.wr hk a ha h1.1)
  · rcases h.pa with h1 | h1 | h1
    · exact .inl (finI_ge.2 h1)
    · exact .inr (.inl (finI_ge.2 h1))
    · exact .inr (.inr (sprB_iff h1))
  · rcases h.de with h1 | h1 | h1 | h1
    · exact .inl (finI_ge.2 h1)
    · exact .inr (.inl (finI_ge.2 h1))
    · exact .inr (.inr (.inl (sprB_iff h1)))
    · exact .inr (.inr (.inr h1))

set_option maxHeartbeats 16000000 in
set_option maxRecDepth 100000 in
theorem spares_any (sv tv nv : Value) (fold : Bool) (s t : List EntD) (store : List Int) (w : World) (hg : Gd w) (hs : RowAt w sv s) (ht : RowAt w tv t) (hn : IntsAt w nv store) (ss : SmallL s) (st : SmallL t) (hln : store.length ≤ 2000000) :
    Calls Tryz.prog 5 #[sv, tv, .bool fold, nv] w fun e w' => e = .returned (.bool true) ∧ Below w.heap.size w w' := by
  have HS := hidD hs
  have HT := hidD ht
  have HN := hidD hn
  have HSS := hidD ss
  have HST := hidD st
  have HG := hidD hg
  have hls := ss.1
  have hlt := st.1
  obtain ⟨sa, sc, hsv⟩ := hs.val
  obtain ⟨ta, tc, htv⟩ := ht.val
  obtain ⟨na, nc, hnv⟩ := hn.val
  subst hsv htv hnv
  clear hs ht hn ss st hg
  go_enter Tryz.func5, Tryz.ntmps5
  go_wp2_with fail
  refine (planned19 HG.out HS.out HT.out HN.out HSS.out HST.out hln).mono ?_
  rintro e w1 ⟨hb1, rfl | ⟨v1, ops, rfl, ho1, hp1⟩⟩
  · have B1 := hidD hb1
    clear hb1
    go_wp2_with fail
    go_ret
    exact ⟨rfl, B1.out⟩
  · have B1 := hidD hb1
    obtain ⟨oa, oc, hov⟩ := row_shape0 ho1
    subst hov
    have P := hidD hp1
    have O1 := hidD (OpRow.ofOwn ho1)
    have hlen := hp1.len
    have hfew := hp1.plan.few
    have S1 := hidD (HS.out.below hb1 (Nat.le_refl _))
    have T1 := hidD (HT.out.below hb1 (Nat.le_refl _))
    have hfew' : ¬ (3 * ((s.length : Int) + (t.length : Int)) < (ops.length : Int)) := by omega
    clear hb1 ho1 hp1 HN HS HT HG
    go_wp2_with fail
    go_loopw [12] (fun iv wr => ∃ i : Nat, i ≤ s.length ∧ iv = .int .i64 i ∧ Hid (Below w1.heap.size w1 wr)) (fun iv _ => s.length - (intOf iv).toNat)
    case atStart => exact ⟨0, Nat.zero_le _, rfl, hidD (Below.refl _ _)⟩
    case round =>
      obtain ⟨i, hi, rfl, HB⟩ := hrel
      by_cases hil : i < s.length
      · obtain ⟨b, off, cap, ⟨q, d, id, z, m⟩, hv, ho, hc⟩ := S1.out.ent hil
        cases hv
        dsimp only at hc
        obtain ⟨c0, c1, c2, c3, c4⟩ := hc wr HB.out
        have HC := hidD hc
        have hqs : q.size ≤ 1500000 := HSS.out.2 _ (getE ho)
        have hil' : (i : Int) < (s.length : Int) := by omega
        have HW := hidD (whole26 (S1.out.below HB.out (Nat.le_refl _)) (T1.out.below HB.out (Nat.le_refl _)) HSS.out HST.out q hqs)
        clear ho hc c1 c2 c3 c4
        go_wp2_with fail
        refine HW.out.mono ?_
        rintro e w2 ⟨wb, rfl, hwb, hb2⟩
        have WB := hidD hwb
        have HB2 := hidD (HB.out.trans (hb2.mono HB.out.size))
        clear hwb hb2 HW HB c0
        cases wb with
        | false =>
          clear WB
          go_wp2_with fail
          go_loopw [14] (fun kv wr => Hid (kv = .int .i64 0 ∧ Below w1.heap.size w1 wr)) (fun kv _ => 0)
          case atStart => exact ⟨rfl, HB2.out⟩
          case round =>
            obtain ⟨rfl, hb⟩ := hrel.out
            have HB3 := hidD hb
            clear hb hrel
            by_cases hol : (0 : Int) < (ops.length : Int)
            · go_wp2_with fail
              exact ⟨⟨i + 1, by omega, by go_num, HB3⟩, by simp [intOf]; omega⟩
            · go_wp2_with fail
              exact ⟨⟨i + 1, by omega, by go_num, HB3⟩, by simp [intOf]; omega⟩
        | true =>
          have WP := hidD (WB.out rfl)
          clear WB
          go_wp2_with fail
          go_loopw [14] (fun kv wr => ∃ k : Nat, k ≤ ops.length ∧ kv = .int .i64 k ∧ Hid (Below w1.heap.size w1 wr)) (fun kv _ => ops.length - (intOf kv).toNat)
          case atStart => exact ⟨0, Nat.zero_le _, rfl, HB2⟩
          case round =>
            clear HB2
            obtain ⟨k, hk, rfl, HB3⟩ := hrel
            by_cases hkl : k < ops.length
            · have hkl' : (k : Int) < (ops.length : Int) := by omega
              obtain ⟨b', off', cap', ⟨kd, pa, de, oid, sz, mo⟩, hv, ho, hc⟩ := O1.out.op hkl
              cases hv
              dsimp only at hc
              obtain ⟨d0, d1, d2, d3, d4, d5⟩ := hc _ HB3.out
              obtain ⟨c0, c1, c2, c3, c4⟩ := HC.out _ HB3.out
              have HTC := hidD (fun (u : World) => touches27 (OpD.mk kd pa de oid sz mo) q u (P.out.small _ (getOp ho)) hqs (P.out.plan.leaves WP.out (getOp ho)))
              have HOC := hidD hc
              clear ho hc c1 c2 c3 c4
              go_wp2_with fail
              go_region_held3 (fun v => v.cell? ⟨b', off' + k * 6, none⟩ = some (.int .i64 kd) ∧ v.cell? ⟨b', off' + k * 6 + 1, none⟩ = some (.string pa) ∧ v.cell? ⟨b', off' + k * 6 + 2, none⟩ = some (.string de) ∧ v.cell? ⟨b', off' + k * 6 + 3, none⟩ = some (.int .i64 oid) ∧ v.cell? ⟨b', off' + k * 6 + 4, none⟩ = some (.int .i64 sz) ∧ v.cell? ⟨b', off' + k * 6 + 5, none⟩ = some (.int .i64 mo) ∧ v.cell? ⟨b, off + i * 5, none⟩ = some (.string q)) (go_keep) (first | (go_at_call 27; refine (HTC.out _).mono ?_; rintro e u4 ⟨rfl, hb4⟩; have HB4 := hidD (HB3.out.trans (((below_drewB wr).mono HB3.out.size).trans (hb4.mono HB3.out.size))); clear hb4; obtain ⟨g0, g1, g2, g3, g4, g5⟩ := HOC.out _ HB4.out; obtain ⟨f0, f1, f2, f3, f4⟩ := HC.out _ HB4.out; clear f1 f2 f3 f4))
              go_wp2_with fail
              exact ⟨⟨k + 1, by omega, by go_num, HB4⟩, by simp [intOf]; omega⟩
            · have hkl' : ¬ (k : Int) < (ops.length : Int) := by omega
              go_wp2_with fail
              exact ⟨⟨i + 1, by omega, by go_num, HB3⟩, by simp [intOf]; omega⟩
      · have hie : i = s.length := by omega
        subst hie
        go_wp2_with fail
        go_loopw [16] (fun iv wr => ∃ i : Nat, i ≤ ops.length ∧ iv = .int .i64 i ∧ Hid (Below w1.heap.size w1 wr)) (fun iv _ => ops.length - (intOf iv).toNat)
        case atStart => exact ⟨0, Nat.zero_le _, rfl, HB⟩
        case round =>
          clear HB
          obtain ⟨i, hi, rfl, HB⟩ := hrel
          by_cases hil : i < ops.length
          · have hil' : (i : Int) < (ops.length : Int) := by omega
            obtain ⟨b', off', cap', ⟨kd, pa, de, oid, sz, mo⟩, hv, ho, hc⟩ := O1.out.op hil
            cases hv
            dsimp only at hc
            obtain ⟨d0, d1, d2, d3, d4, d5⟩ := hc _ HB.out
            have hNam := (P.out.plan.named (getOp ho)).has
            have hsm := P.out.small _ (getOp ho)
            obtain ⟨hs1, hs2⟩ := hsm
            dsimp only at hNam hs1 hs2
            have H24 := hidD (fun (u : World) (hu : Below w1.heap.size w1 u) => has24 (S1.out.below hu (Nat.le_refl _)) hls oid)
            have F1 := hidD (fun (u : World) (hu : Below w1.heap.size w1 u) => find28 (S1.out.below hu (Nat.le_refl _)) hls pa)
            have F2 := hidD (fun (u : World) (hu : Below w1.heap.size w1 u) => find28 (T1.out.below hu (Nat.le_refl _)) hlt pa)
            have G1 := hidD (fun (u : World) (hu : Below w1.heap.size w1 u) => find28 (S1.out.below hu (Nat.le_refl _)) hls de)
            have G2 := hidD (fun (u : World) (hu : Below w1.heap.size w1 u) => find28 (T1.out.below hu (Nat.le_refl _)) hlt de)
            have C1 := hidD (fun (u : World) (_ : Below w1.heap.size w1 u) => spare29 pa u hs1)
            have C2 := hidD (fun (u : World) (_ : Below w1.heap.size w1 u) => spare29 de u hs2)
            clear ho hc hs1 hs2 d4 d5
            generalize hasB s oid = x at *
            generalize finI s pa = f1 at *
            generalize finI t pa = f2 at *
            generalize finI s de = g1 at *
            generalize finI t de = g2 at *
            generalize sprB pa = c1 at *
            generalize sprB de = c2 at *
            simp only [decide_eq_true_eq] at hNam
            obtain ⟨n1, n2, n3⟩ := hNam
            have hP : 0 ≤ f1 ∨ (¬ 0 ≤ f1 ∧ 0 ≤ f2) ∨ (¬ 0 ≤ f1 ∧ ¬ 0 ≤ f2 ∧ c1 = true) := by
              rcases n2 with h | h | h
              · exact .inl h
              · by_cases h' : 0 ≤ f1
                · exact .inl h'
                · exact .inr (.inl ⟨h', h⟩)
              · by_cases h' : 0 ≤ f1
                · exact .inl h'
                · by_cases h'' : 0 ≤ f2
                  · exact .inr (.inl ⟨h', h''⟩)
                  · exact .inr (.inr ⟨h', h'', h⟩)
            have hD : 0 ≤ g1 ∨ (¬ 0 ≤ g1 ∧ 0 ≤ g2) ∨ (¬ 0 ≤ g1 ∧ ¬ 0 ≤ g2 ∧ c2 = true) ∨ (¬ 0 ≤ g1 ∧ ¬ 0 ≤ g2 ∧ c2 = false ∧ de = ⟨#[]⟩) := by
              by_cases h' : 0 ≤ g1
              · exact .inl h'
              · by_cases h'' : 0 ≤ g2
                · exact .inr (.inl ⟨h', h''⟩)
                · cases c2 with
                  | true => exact .inr (.inr (.inl ⟨h', h'', rfl⟩))
                  | false =>
                    rcases n3 with h | h | h | h
                    · exact absurd h h'
                    · exact absurd h h''
                    · cases h
                    · exact .inr (.inr (.inr ⟨h', h'', rfl, h⟩))
            have hK : (kd = 4 ∧ x = false) ∨ (kd == 4) = false := by
              by_cases h : kd = 4
              · exact .inl ⟨h, n1 h⟩
              · exact .inr (by simp [h])
            clear n1 n2 n3
            go_wp2_with fail
            refine (H24.out _ HB.out).mono ?_
            rintro e wz ⟨rfl, hwz⟩
            rw [hwz.out]
            clear hwz wz
            clear H24
            go_upto_region 20 with fail
            go_cut [102] from 81 to 172 (fun v102 wx => v102 = .bool false ∧ Hid (wx = wr))
            case first =>
              rcases hK with ⟨rfl, rfl⟩ | hk4
              · go_wp2_with fail
                go_meet
                case rel => exact ⟨(by first | exact rfl | exact trivial), (by first | exact rfl | exact trivial)⟩
              · go_wp2_with fail
                go_meet
                case rel => exact ⟨(by first | exact rfl | exact trivial), (by first | exact rfl | exact trivial)⟩
            case rest =>
              obtain ⟨rfl, HWC⟩ := hcut
              have hwc := HWC.out
              subst hwc
              clear HWC hK
              go_upto_region 22 with fail
              go_cut [18] from 81 to 172 (fun v18 wx => v18 = .bool (decide (0 ≤ f1) || decide (0 ≤ f2)) ∧ Hid (wx = wc))
              case first =>
                rcases hP with a1 | ⟨a1, a2⟩ | ⟨a1, a2, a3⟩
                · go_wp2_with fail
                  refine (F1.out _ HB.out).mono ?_
                  rintro e wz ⟨rfl, hwz⟩
                  rw [hwz.out]
                  clear hwz wz
                  go_wp2_with fail
                  go_meet
                  case rel => exact ⟨by simp [a1], (by first | exact rfl | exact trivial)⟩
                · go_wp2_with fail
                  refine (F1.out _ HB.out).mono ?_
                  rintro e wz ⟨rfl, hwz⟩
                  rw [hwz.out]
                  clear hwz wz
                  go_wp2_with fail
                  refine (F2.out _ HB.out).mono ?_
                  rintro e wz ⟨rfl, hwz⟩
                  rw [hwz.out]
                  clear hwz wz
                  go_wp2_with fail
                  go_meet
                  case rel => exact ⟨by simp [a1, a2], (by first | exact rfl | exact trivial)⟩
                · go_wp2_with fail
                  refine (F1.out _ HB.out).mono ?_
                  rintro e wz ⟨rfl, hwz⟩
                  rw [hwz.out]
                  clear hwz wz
                  go_wp2_with fail
                  refine (F2.out _ HB.out).mono ?_
                  rintro e wz ⟨rfl, hwz⟩
                  rw [hwz.out]
                  clear hwz wz
                  go_wp2_with fail
                  go_meet
                  case rel => exact ⟨by simp [a1, a2], (by first | exact rfl | exact trivial)⟩
              case rest =>
                obtain ⟨rfl, HWC⟩ := hcut
                have hwc := HWC.out
                subst hwc
                have hA : (decide (0 ≤ f1) || decide (0 ≤ f2)) = true ∨ ((decide (0 ≤ f1) || decide (0 ≤ f2)) = false ∧ c1 = true) := by
                  rcases hP with a1 | ⟨a1, a2⟩ | ⟨a1, a2, a3⟩
                  · left; simp [a1]
                  · left; simp [a2]
                  · right; exact ⟨by simp [a1, a2], a3⟩
                generalize (decide (0 ≤ f1) || decide (0 ≤ f2)) = xa at *
                clear HWC hP F1 F2
                go_upto_region 23 with fail
                go_cut [19] from 81 to 172 (fun v19 wx => v19 = .bool (decide (0 ≤ g1) || decide (0 ≤ g2)) ∧ Hid (wx = wc))
                case first =>
                  have hD' : 0 ≤ g1 ∨ (¬ 0 ≤ g1 ∧ 0 ≤ g2) ∨ (¬ 0 ≤ g1 ∧ ¬ 0 ≤ g2) := by omega
                  rcases hD' with a1 | ⟨a1, a2⟩ | ⟨a1, a2⟩
                  · go_wp2_with fail
                    refine (G1.out _ HB.out).mono ?_
                    rintro e wz ⟨rfl, hwz⟩
                    rw [hwz.out]
                    clear hwz wz
                    go_wp2_with fail
                    go_meet
                    case rel => exact ⟨by simp [a1], (by first | exact rfl | exact trivial)⟩
                  · go_wp2_with fail
                    refine (G1.out _ HB.out).mono ?_
                    rintro e wz ⟨rfl, hwz⟩
                    rw [hwz.out]
                    clear hwz wz
                    go_wp2_with fail
                    refine (G2.out _ HB.out).mono ?_
                    rintro e wz ⟨rfl, hwz⟩
                    rw [hwz.out]
                    clear hwz wz
                    go_wp2_with fail
                    go_meet
                    case rel => exact ⟨by simp [a1, a2], (by first | exact rfl | exact trivial)⟩
                  · go_wp2_with fail
                    refine (G1.out _ HB.out).mono ?_
                    rintro e wz ⟨rfl, hwz⟩
                    rw [hwz.out]
                    clear hwz wz
                    go_wp2_with fail
                    refine (G2.out _ HB.out).mono ?_
                    rintro e wz ⟨rfl, hwz⟩
                    rw [hwz.out]
                    clear hwz wz
                    go_wp2_with fail
                    go_meet
                    case rel => exact ⟨by simp [a1, a2], (by first | exact rfl | exact trivial)⟩
                case rest =>
                  obtain ⟨rfl, HWC⟩ := hcut
                  have hwc := HWC.out
                  subst hwc
                  have hB : (decide (0 ≤ g1) || decide (0 ≤ g2)) = true ∨ ((decide (0 ≤ g1) || decide (0 ≤ g2)) = false ∧ c2 = true) ∨ ((decide (0 ≤ g1) || decide (0 ≤ g2)) = false ∧ c2 = false ∧ de = ⟨#[]⟩) := by
                    rcases hD with a1 | ⟨a1, a2⟩ | ⟨a1, a2, a3⟩ | ⟨a1, a2, a3, a4⟩
                    · left; simp [a1]
                    · left; simp [a2]
                    · right; left; exact ⟨by simp [a1, a2], a3⟩
                    · right; right; exact ⟨by simp [a1, a2], a3, a4⟩
                  generalize (decide (0 ≤ g1) || decide (0 ≤ g2)) = xb at *
                  clear HWC hD G1 G2
                  go_wp2_with fail
                  refine (C1.out _ HB.out).mono ?_
                  rintro e wz ⟨rfl, hwz⟩
                  rw [hwz.out]
                  clear hwz wz
                  go_wp2_with fail
                  refine (C2.out _ HB.out).mono ?_
                  rintro e wz ⟨rfl, hwz⟩
                  rw [hwz.out]
                  clear hwz wz
                  clear C1 C2
                  go_upto_region 26 with fail
                  go_cut [172] from 81 to 172 (fun v172 wx => v172 = .bool false ∧ Hid (wx = wc))
                  case first =>
                    rcases hA with rfl | ⟨rfl, rfl⟩
                    · rcases hB with rfl | ⟨rfl, rfl⟩ | ⟨rfl, rfl, rfl⟩
                      · go_wp2_with fail
                        go_meet
                        case rel => exact ⟨(by first | exact rfl | exact trivial), (by first | exact rfl | exact trivial)⟩
                      · go_wp2_with fail
                        go_meet
                        case rel => exact ⟨(by first | exact rfl | exact trivial), (by first | exact rfl | exact trivial)⟩
                      · go_wp2_with fail
                        go_meet
                        case rel => exact ⟨(by first | exact rfl | exact trivial), (by first | exact rfl | exact trivial)⟩
                    · rcases hB with rfl | ⟨rfl, rfl⟩ | ⟨rfl, rfl, rfl⟩
                      · go_wp2_with fail
                        go_meet
                        case rel => exact ⟨(by first | exact rfl | exact trivial), (by first | exact rfl | exact trivial)⟩
                      · go_wp2_with fail
                        go_meet
                        case rel => exact ⟨(by first | exact rfl | exact trivial), (by first | exact rfl | exact trivial)⟩
                      · go_wp2_with fail
                        go_meet
                        case rel => exact ⟨(by first | exact rfl | exact trivial), (by first | exact rfl | exact trivial)⟩
                  case rest =>
                    obtain ⟨rfl, HWC⟩ := hcut
                    have hwc := HWC.out
                    subst hwc
                    clear HWC hA hB
                    go_wp2_with fail
                    go_roundw
                    case rel => exact ⟨i + 1, by omega, by go_num, HB⟩
                    case measure => simp [intOf]; omega
          · have hie : i = ops.length := by omega
            subst hie
            have B9 := hidD (B1.out.trans (HB.out.mono B1.out.size))
            go_wp2_with fail
            go_ret
            exact ⟨rfl, B9.out⟩
end Go.Proofs.YtpjjagalekolaaaGreatDoor
