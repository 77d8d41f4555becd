/- CH, CI: in one text. -/
import Derived.Test.YtpjjagalekolaaaGreatDoorP12
import Derived.Deep.RegionHeld3
/- The reference's look at one entry: the entries ahead. -/
namespace Go.Proofs.YtpjjagalekolaaaGreatDoor
open Go.RowKit
set_option linter.unusedVariables false
set_option linter.unusedSimpArgs false

theorem upB_snoc (l : List EntD) (up : ByteArray) (k : Nat) (h : k < l.length) : upB (l.take (k + 1)) up = (upB (l.take k) up || (l[k].dir && (l[k].path.data.toList == up.data.toList))) := by
  rw [upB, any_snoc _ _ _ h, upB, Bool.or_assoc]
theorem twiceB_snoc (l : List EntD) (e : EntD) (k : Nat) (h : k < l.length) : twiceB (l.take (k + 1)) e = (twiceB (l.take k) e || (l[k].path.data.toList == e.path.data.toList)) := by
  rw [twiceB, any_snoc _ _ _ h, twiceB]
theorem sizeB_snoc (l : List EntD) (e : EntD) (k : Nat) (h : k < l.length) : sizeB (l.take (k + 1)) e = (sizeB (l.take k) e || (!e.dir && !l[k].dir && decide (l[k].id = e.id) && decide (l[k].size ≠ e.size))) := by
  rw [sizeB, any_snoc _ _ _ h, sizeB]
theorem take_any_mono (pr : EntD → Bool) (l : List EntD) (k i : Nat) (h : k ≤ i) (hk : (l.take k).any pr = true) : (l.take i).any pr = true := by
  rw [List.any_eq_true] at hk ⊢
  obtain ⟨x, hx, hp⟩ := hk
  refine ⟨x, ?_, hp⟩
  have : l.take k = (l.take i).take k := by rw [List.take_take, Nat.min_eq_left h]
  rw [this] at hx
  exact List.mem_of_mem_take hx

set_option maxRecDepth 4000 in
set_option maxHeartbeats 8000000 in
theorem refEntry_d0 (b off cap : Nat) (l : List EntD) (p : ByteArray) (md : Int) (w : World) (hi : 0 < l.length) (hx : l[0] = ⟨p, true, 0, 0, md⟩) (hl : l.length ≤ 2000000) (hs : ∀ o ∈ l, o.small) (hb : b < w.heap.size) (hc : EntsAt w b off l) (h1 : pathL p.data.toList = true) (f1 : 0 ≤ md) (f2 : md ≤ 511) :
    Calls Tryz.prog 105 #[.slice (some ⟨b, off, none⟩) l.length cap, .int .i64 (0 : Nat), .bool false, .bool false] w fun r w' => r = .returned (.int .i64 (refErr l 0 ⟨p, true, 0, 0, md⟩)) ∧ Below w.heap.size w w' := by
  have hcw := hc 0 hi
  rw [hx] at hcw
  have c0 := hcw 0 _ rfl
  have c1 := hcw 1 _ rfl
  have c2 := hcw 2 _ rfl
  have c3 := hcw 3 _ rfl
  have c4 := hcw 4 _ rfl
  simp only [Nat.add_zero, Nat.zero_mul] at c0 c1 c2 c3 c4
  clear hcw
  have hsm : p.size ≤ 1500000 := by have := hs _ (List.getElem_mem hi); rw [hx] at this; exact this
  have hfl : fieldsB ⟨p, true, 0, 0, md⟩ = true := by simp [fieldsB, f1, f2]
  have st := Eb.start w ⟨p, true, 0, 0, md⟩
  have hps := parentB_small p
  have HV : Hid (refErr l 0 ⟨p, true, 0, 0, md⟩ = if upB (l.take 0) (parentB p) = false then 2 else if twiceB (l.take 0) ⟨p, true, 0, 0, md⟩ = true then 8 else if sizeB (l.take 0) ⟨p, true, 0, 0, md⟩ = true then 6 else 0) := by
    show refErr l 0 ⟨p, true, 0, 0, md⟩ = _
    rw [refErr, h1, if_neg (by simp), hfl, if_neg (by simp), if_neg (by simp)]
  go_enter Tryz.func105, Tryz.ntmps105
  go_wp2_with (first | (go_at_call 107; refine (refPath_any _ _ hsm).mono ?_; rintro r w1 ⟨rfl, hb1⟩; rw [h1]; have s1 := st.below hb1; have k0 := s1.cell 0; simp [EntD.cells] at k0) | (go_at_call 113; refine (refSpare_any _ _ (by omega)).mono ?_; rintro r w2 ⟨rfl, rfl⟩; have k1 := s1.cell 1; have k2 := s1.cell 2; have k3 := s1.cell 3; have k4 := s1.cell 4; simp [EntD.cells] at k1 k2 k3 k4) | (go_at_call 158; refine (refParent_any _ _ hsm).mono ?_; rintro r w4 ⟨rfl, hb4⟩; have s4 := s1.below hb4))
  generalize hup : parentB p = up at *
  clear hup
  go_loopw [14, 15] (fun fd kv wr => ∃ k : Nat, k ≤ 0 ∧ kv = .int .i64 k ∧ fd = .bool (upB (l.take k) up) ∧ Eb w ⟨p, true, 0, 0, md⟩ wr) (fun fd kv _ => 0 - (intOf kv).toNat)
  case atStart => exact ⟨0, Nat.zero_le _, rfl, by simp [upB, ba_toList], s4⟩
  case round =>
    obtain ⟨k, hk, rfl, rfl, sr⟩ := hrel
    clear s1 s4 hb1 hb4
    by_cases hlt : k < 0
    · exact absurd hlt (Nat.not_lt_zero _)
    · obtain rfl : k = 0 := by omega
      by_cases hU : upB (l.take 0) up = true
      · rw [hU]
        go_wp2
        go_loopw [16] (fun kv wr => ∃ k : Nat, k ≤ 0 ∧ kv = .int .i64 k ∧ twiceB (l.take k) ⟨p, true, 0, 0, md⟩ = false ∧ Eb w ⟨p, true, 0, 0, md⟩ wr) (fun kv _ => 0 - (intOf kv).toNat)
        case atStart => exact ⟨0, Nat.zero_le _, rfl, rfl, sr⟩
        case round =>
          clear sr
          obtain ⟨k, hk, rfl, hd, sr⟩ := hrel
          have HD : Hid (twiceB (l.take k) ⟨p, true, 0, 0, md⟩ = false) := hd
          clear hd
          by_cases hlt : k < 0
          · exact absurd hlt (Nat.not_lt_zero _)
          · obtain rfl : k = 0 := by omega
            go_wp2
            go_loopw [18] (fun kv wr => ∃ k : Nat, k ≤ 0 ∧ kv = .int .i64 k ∧ sizeB (l.take k) ⟨p, true, 0, 0, md⟩ = false ∧ Eb w ⟨p, true, 0, 0, md⟩ wr) (fun kv _ => 0 - (intOf kv).toNat)
            case atStart => exact ⟨0, Nat.zero_le _, rfl, rfl, sr⟩
            case round =>
              clear sr
              obtain ⟨k, hk, rfl, hd, sr⟩ := hrel
              have HD2 : Hid (sizeB (l.take k) ⟨p, true, 0, 0, md⟩ = false) := hd
              clear hd
              by_cases hlt : k < 0
              · exact absurd hlt (Nat.not_lt_zero _)
              · obtain rfl : k = 0 := by omega
                go_wp2
                go_ret
                refine ⟨?_, sr.bel⟩
                rw [HV.out, hU, if_neg (by simp), HD.out, if_neg (by simp), HD2.out, if_neg (by simp)]; rfl
      · simp only [Bool.not_eq_true] at hU
        rw [hU]
        go_wp2
        go_ret
        refine ⟨?_, sr.bel⟩
        rw [HV.out, if_pos hU]; rfl

set_option maxRecDepth 4000 in
set_option maxHeartbeats 8000000 in
theorem refEntry_f0 (b off cap : Nat) (l : List EntD) (p : ByteArray) (q z : Int) (md : Int) (w : World) (hi : 0 < l.length) (hx : l[0] = ⟨p, false, q, z, md⟩) (hl : l.length ≤ 2000000) (hs : ∀ o ∈ l, o.small) (hb : b < w.heap.size) (hc : EntsAt w b off l) (h1 : pathL p.data.toList = true) (f1 : 0 ≤ md) (f2 : md ≤ 511) (f3 : 1 ≤ q) (f4 : q ≤ 9999) (f5 : 0 ≤ z) (f6 : z ≤ 100) :
    Calls Tryz.prog 105 #[.slice (some ⟨b, off, none⟩) l.length cap, .int .i64 (0 : Nat), .bool false, .bool false] w fun r w' => r = .returned (.int .i64 (refErr l 0 ⟨p, false, q, z, md⟩)) ∧ Below w.heap.size w w' := by
  have hcw := hc 0 hi
  rw [hx] at hcw
  have c0 := hcw 0 _ rfl
  have c1 := hcw 1 _ rfl
  have c2 := hcw 2 _ rfl
  have c3 := hcw 3 _ rfl
  have c4 := hcw 4 _ rfl
  simp only [Nat.add_zero, Nat.zero_mul] at c0 c1 c2 c3 c4
  clear hcw
  have hsm : p.size ≤ 1500000 := by have := hs _ (List.getElem_mem hi); rw [hx] at this; exact this
  have hfl : fieldsB ⟨p, false, q, z, md⟩ = true := by simp [fieldsB, f1, f2, f3, f4, f5, f6]
  have st := Eb.start w ⟨p, false, q, z, md⟩
  have hps := parentB_small p
  have HV : Hid (refErr l 0 ⟨p, false, q, z, md⟩ = if upB (l.take 0) (parentB p) = false then 2 else if twiceB (l.take 0) ⟨p, false, q, z, md⟩ = true then 8 else if sizeB (l.take 0) ⟨p, false, q, z, md⟩ = true then 6 else 0) := by
    show refErr l 0 ⟨p, false, q, z, md⟩ = _
    rw [refErr, h1, if_neg (by simp), hfl, if_neg (by simp), if_neg (by simp)]
  go_enter Tryz.func105, Tryz.ntmps105
  go_wp2_with (first | (go_at_call 107; refine (refPath_any _ _ hsm).mono ?_; rintro r w1 ⟨rfl, hb1⟩; rw [h1]; have s1 := st.below hb1; have k0 := s1.cell 0; simp [EntD.cells] at k0) | (go_at_call 113; refine (refSpare_any _ _ (by omega)).mono ?_; rintro r w2 ⟨rfl, rfl⟩; have k1 := s1.cell 1; have k2 := s1.cell 2; have k3 := s1.cell 3; have k4 := s1.cell 4; simp [EntD.cells] at k1 k2 k3 k4) | (go_at_call 158; refine (refParent_any _ _ hsm).mono ?_; rintro r w4 ⟨rfl, hb4⟩; have s4 := s1.below hb4))
  generalize hup : parentB p = up at *
  clear hup
  go_loopw [14, 15] (fun fd kv wr => ∃ k : Nat, k ≤ 0 ∧ kv = .int .i64 k ∧ fd = .bool (upB (l.take k) up) ∧ Eb w ⟨p, false, q, z, md⟩ wr) (fun fd kv _ => 0 - (intOf kv).toNat)
  case atStart => exact ⟨0, Nat.zero_le _, rfl, by simp [upB, ba_toList], s4⟩
  case round =>
    obtain ⟨k, hk, rfl, rfl, sr⟩ := hrel
    clear s1 s4 hb1 hb4
    by_cases hlt : k < 0
    · exact absurd hlt (Nat.not_lt_zero _)
    · obtain rfl : k = 0 := by omega
      by_cases hU : upB (l.take 0) up = true
      · rw [hU]
        go_wp2
        go_loopw [16] (fun kv wr => ∃ k : Nat, k ≤ 0 ∧ kv = .int .i64 k ∧ twiceB (l.take k) ⟨p, false, q, z, md⟩ = false ∧ Eb w ⟨p, false, q, z, md⟩ wr) (fun kv _ => 0 - (intOf kv).toNat)
        case atStart => exact ⟨0, Nat.zero_le _, rfl, rfl, sr⟩
        case round =>
          clear sr
          obtain ⟨k, hk, rfl, hd, sr⟩ := hrel
          have HD : Hid (twiceB (l.take k) ⟨p, false, q, z, md⟩ = false) := hd
          clear hd
          by_cases hlt : k < 0
          · exact absurd hlt (Nat.not_lt_zero _)
          · obtain rfl : k = 0 := by omega
            go_wp2
            go_loopw [18] (fun kv wr => ∃ k : Nat, k ≤ 0 ∧ kv = .int .i64 k ∧ sizeB (l.take k) ⟨p, false, q, z, md⟩ = false ∧ Eb w ⟨p, false, q, z, md⟩ wr) (fun kv _ => 0 - (intOf kv).toNat)
            case atStart => exact ⟨0, Nat.zero_le _, rfl, rfl, sr⟩
            case round =>
              clear sr
              obtain ⟨k, hk, rfl, hd, sr⟩ := hrel
              have HD2 : Hid (sizeB (l.take k) ⟨p, false, q, z, md⟩ = false) := hd
              clear hd
              by_cases hlt : k < 0
              · exact absurd hlt (Nat.not_lt_zero _)
              · obtain rfl : k = 0 := by omega
                go_wp2
                go_ret
                refine ⟨?_, sr.bel⟩
                rw [HV.out, hU, if_neg (by simp), HD.out, if_neg (by simp), HD2.out, if_neg (by simp)]; rfl
      · simp only [Bool.not_eq_true] at hU
        rw [hU]
        go_wp2
        go_ret
        refine ⟨?_, sr.bel⟩
        rw [HV.out, if_pos hU]; rfl

set_option maxRecDepth 4000 in
set_option maxHeartbeats 8000000 in
theorem refEntry_d1 (b off cap m : Nat) (l : List EntD) (p : ByteArray) (md : Int) (w : World) (hi : m + 1 < l.length) (o : EntD) (hy : l[m] = o) (hx : l[m + 1] = ⟨p, true, 0, 0, md⟩) (hl : l.length ≤ 2000000) (hs : ∀ o ∈ l, o.small) (hb : b < w.heap.size) (hc : EntsAt w b off l) (h1 : pathL p.data.toList = true) (f1 : 0 ≤ md) (f2 : md ≤ 511) :
    Calls Tryz.prog 105 #[.slice (some ⟨b, off, none⟩) l.length cap, .int .i64 (m + 1 : Nat), .bool false, .bool false] w fun r w' => r = .returned (.int .i64 (refErr l (m + 1) ⟨p, true, 0, 0, md⟩)) ∧ Below w.heap.size w w' := by
  have hcw := hc (m + 1) hi
  rw [hx] at hcw
  have c0 := hcw 0 _ rfl
  have c1 := hcw 1 _ rfl
  have c2 := hcw 2 _ rfl
  have c3 := hcw 3 _ rfl
  have c4 := hcw 4 _ rfl
  simp only [Nat.add_zero] at c0
  clear hcw
  have hsm : p.size ≤ 1500000 := by have := hs _ (List.getElem_mem hi); rw [hx] at this; exact this
  have hfl : fieldsB ⟨p, true, 0, 0, md⟩ = true := by simp [fieldsB, f1, f2]
  have hI1 : m < l.length := by omega
  have hI2 : (m : Int) < (l.length : Int) := by omega
  have hI0 : (0 : Int) ≤ (m : Int) := by omega
  have hW1 : IntKind.i64.wrap ((m : Int) + 1 - 1) = (m : Int) := by simp [IntKind.wrap, IntKind.bits, IntKind.signed]; omega
  have hW2 : IntKind.i64.wrap (((m + 1 : Nat) : Int) - 1) = (m : Int) := by simp [IntKind.wrap, IntKind.bits, IntKind.signed]; omega
  have hW3 : IntKind.i64.wrap (m : Int) = (m : Int) := by simp [IntKind.wrap, IntKind.bits, IntKind.signed]; omega
  have hso : o.path.size ≤ 1500000 := by have := hs _ (List.getElem_mem (by omega : m < l.length)); rw [hy] at this; exact this
  have hpv : (l[m + 1 - 1]?.map (·.path.data.toList)).getD [] = o.path.data.toList := by
    rw [show m + 1 - 1 = m by omega, List.getElem?_eq_getElem (by omega : m < l.length), hy]; rfl
  have st := Eb.start w ⟨p, true, 0, 0, md⟩
  have hps := parentB_small p
  by_cases hls : lessN (spl o.path.data.toList) (spl p.data.toList) = true
  · have HV : Hid (refErr l (m + 1) ⟨p, true, 0, 0, md⟩ = if upB (l.take (m + 1)) (parentB p) = false then 2 else if twiceB (l.take (m + 1)) ⟨p, true, 0, 0, md⟩ = true then 8 else if sizeB (l.take (m + 1)) ⟨p, true, 0, 0, md⟩ = true then 6 else 0) := by
      show refErr l (m + 1) ⟨p, true, 0, 0, md⟩ = _
      rw [refErr, h1, if_neg (by simp), hfl, if_neg (by simp), hpv, if_neg (by rw [hls]; simp)]
    go_enter Tryz.func105, Tryz.ntmps105
    go_wp2_with (first | (go_at_call 107; refine (refPath_any _ _ hsm).mono ?_; rintro r w1 ⟨rfl, hb1⟩; rw [h1]; have s1 := st.below hb1; have k0 := s1.cell 0; simp [EntD.cells] at k0) | (go_at_call 113; refine (refSpare_any _ _ (by omega)).mono ?_; rintro r w2 ⟨rfl, rfl⟩; have k1 := s1.cell 1; have k2 := s1.cell 2; have k3 := s1.cell 3; have k4 := s1.cell 4; simp [EntD.cells] at k1 k2 k3 k4; have p0 := (hc.below s1.bel hb) m (by omega) 0 _ rfl; simp only [Nat.add_zero] at p0; rw [hy] at p0))
    go_wp2
    go_region_held3 (fun u => u.cell? ⟨w.heap.size, 0, none⟩ = some (.string p) ∧ u.cell? ⟨b, off + m * 5, none⟩ = some (.string o.path)) (go_keep) (first | (go_at_call 111; refine (less_any _ _ _ (by omega) (by omega)).mono ?_; rintro r w' ⟨rfl, hb3⟩; rw [hls]; have s2 := s1.drew.below hb3; have m0 := s2.cell 0; simp [EntD.cells] at m0; have m1 := (hc.below s2.bel hb) m (by omega) 0 _ rfl; simp only [Nat.add_zero] at m1; rw [hy] at m1))
    clear k0 k1 k2 k3 k4 p0
    rename World => w3
    go_wp2_with (go_at_call 158; refine (refParent_any _ _ hsm).mono ?_; rintro r w4 ⟨rfl, hb4⟩; have s4 := s2.below hb4)
    generalize hup : parentB p = up at *
    clear hup hW1 hW2 hW3
    go_loopw [14, 15] (fun fd kv wr => ∃ k : Nat, k ≤ (m + 1) ∧ kv = .int .i64 k ∧ fd = .bool (upB (l.take k) up) ∧ Eb w ⟨p, true, 0, 0, md⟩ wr) (fun fd kv _ => (m + 1) - (intOf kv).toNat)
    case atStart => exact ⟨0, Nat.zero_le _, rfl, by simp [upB, ba_toList], s4⟩
    case round =>
      obtain ⟨k, hk, rfl, rfl, sr⟩ := hrel
      clear s1 s4 hb1 hb4
      by_cases hlt : k < (m + 1)
      · have hlk : k < l.length := by omega
        have HSN := upB_snoc l up k hlk
        have hcw := (hc.below sr.bel hb) k hlk
        generalize l[k] = o1 at *
        have HS : Hid (upB (l.take (k + 1)) up = (upB (l.take k) up || (o1.dir && (o1.path.data.toList == up.data.toList)))) := HSN
        clear HSN
        have c0 := hcw 0 _ rfl
        have c1 := hcw 1 _ rfl
        simp only [Nat.add_zero] at c0
        clear hcw
        cases hA : upB (l.take k) up
        all_goals cases hB : o1.dir
        all_goals go_wp2
        all_goals
          refine ⟨⟨k + 1, by omega, by go_num, ?_, sr⟩, by simp [intOf]; omega⟩
          rw [HS.out]; simp [ba_toList, hA, hB]
      · obtain rfl : k = (m + 1) := by omega
        by_cases hU : upB (l.take (m + 1)) up = true
        · rw [hU]
          go_wp2
          go_loopw [16] (fun kv wr => ∃ k : Nat, k ≤ (m + 1) ∧ kv = .int .i64 k ∧ twiceB (l.take k) ⟨p, true, 0, 0, md⟩ = false ∧ Eb w ⟨p, true, 0, 0, md⟩ wr) (fun kv _ => (m + 1) - (intOf kv).toNat)
          case atStart => exact ⟨0, Nat.zero_le _, rfl, rfl, sr⟩
          case round =>
            clear sr
            obtain ⟨k, hk, rfl, hd, sr⟩ := hrel
            have HD : Hid (twiceB (l.take k) ⟨p, true, 0, 0, md⟩ = false) := hd
            clear hd
            by_cases hlt : k < (m + 1)
            · have hlk : k < l.length := by omega
              have hlk2 : (k : Int) < (l.length : Int) := by omega
              have hlk3 : (0 : Int) ≤ (k : Int) := by omega
              have HSN := twiceB_snoc l ⟨p, true, 0, 0, md⟩ k hlk
              have HTW : Hid (twiceB (l.take (k + 1)) ⟨p, true, 0, 0, md⟩ = true → twiceB (l.take (m + 1)) ⟨p, true, 0, 0, md⟩ = true) := fun h => take_any_mono _ l (k + 1) (m + 1) (by omega) h
              have hcw := (hc.below sr.bel hb) k hlk
              have hsk := hs _ (List.getElem_mem hlk)
              generalize l[k] = o1 at *
              have HS : Hid (twiceB (l.take (k + 1)) ⟨p, true, 0, 0, md⟩ = (twiceB (l.take k) ⟨p, true, 0, 0, md⟩ || (o1.path.data.toList == p.data.toList))) := HSN
              clear HSN
              have c0 := hcw 0 _ rfl
              simp only [Nat.add_zero] at c0
              clear hcw
              unfold EntD.small at hsk
              have k0 := sr.cell 0
              simp [EntD.cells] at k0
              cases hA : (o1.path.data.toList == p.data.toList)
              · go_wp2
                go_quiet (first | (go_at_call 110; exact Calls.quiet_of (one_any _ _ _ (by omega) (by omega))))
                rw [hA]
                go_wp2
                exact ⟨⟨k + 1, by omega, by go_num, by rw [HS.out, HD.out, hA]; rfl, sr.drewN _⟩, by simp [intOf]; omega⟩
              · go_wp2
                go_quiet (first | (go_at_call 110; exact Calls.quiet_of (one_any _ _ _ (by omega) (by omega))))
                rw [hA]
                go_wp2
                go_ret
                refine ⟨?_, (sr.drewN _).bel⟩
                rw [HV.out, hU, if_neg (by simp), if_pos (HTW.out (by rw [HS.out, hA]; simp))]; rfl
            · obtain rfl : k = (m + 1) := by omega
              go_wp2
              go_loopw [18] (fun kv wr => ∃ k : Nat, k ≤ (m + 1) ∧ kv = .int .i64 k ∧ sizeB (l.take k) ⟨p, true, 0, 0, md⟩ = false ∧ Eb w ⟨p, true, 0, 0, md⟩ wr) (fun kv _ => (m + 1) - (intOf kv).toNat)
              case atStart => exact ⟨0, Nat.zero_le _, rfl, rfl, sr⟩
              case round =>
                clear sr
                obtain ⟨k, hk, rfl, hd, sr⟩ := hrel
                have HD2 : Hid (sizeB (l.take k) ⟨p, true, 0, 0, md⟩ = false) := hd
                clear hd
                by_cases hlt : k < (m + 1)
                · have hlk : k < l.length := by omega
                  have hlk2 : (k : Int) < (l.length : Int) := by omega
                  have hlk3 : (0 : Int) ≤ (k : Int) := by omega
                  have HSN := sizeB_snoc l ⟨p, true, 0, 0, md⟩ k hlk
                  have HTW : Hid (sizeB (l.take (k + 1)) ⟨p, true, 0, 0, md⟩ = true → sizeB (l.take (m + 1)) ⟨p, true, 0, 0, md⟩ = true) := fun h => take_any_mono _ l (k + 1) (m + 1) (by omega) h
                  have hcw := (hc.below sr.bel hb) k hlk
                  generalize l[k] = o1 at *
                  have HS : Hid (sizeB (l.take (k + 1)) ⟨p, true, 0, 0, md⟩ = (sizeB (l.take k) ⟨p, true, 0, 0, md⟩ || (!true && !o1.dir && decide (o1.id = 0) && decide (o1.size ≠ 0)))) := HSN
                  clear HSN
                  have c1 := hcw 1 _ rfl
                  have c2 := hcw 2 _ rfl
                  have c3 := hcw 3 _ rfl
                  clear hcw
                  have k1 := sr.cell 1
                  have k2 := sr.cell 2
                  have k3 := sr.cell 3
                  simp [EntD.cells] at k1 k2 k3
                  go_wp2
                  go_quiet (fail)
                  go_wp2
                  exact ⟨⟨k + 1, by omega, by go_num, by rw [HS.out, HD2.out]; simp [], sr.drewN _⟩, by simp [intOf]; omega⟩
                · obtain rfl : k = (m + 1) := by omega
                  go_wp2
                  go_ret
                  refine ⟨?_, sr.bel⟩
                  rw [HV.out, hU, if_neg (by simp), HD.out, if_neg (by simp), HD2.out, if_neg (by simp)]; rfl
        · simp only [Bool.not_eq_true] at hU
          rw [hU]
          go_wp2
          go_ret
          refine ⟨?_, sr.bel⟩
          rw [HV.out, if_pos hU]; rfl

  · simp only [Bool.not_eq_true] at hls
    have hv : refErr l (m + 1) ⟨p, true, 0, 0, md⟩ = 3 := by rw [refErr, h1, if_neg (by simp), hfl, if_neg (by simp), hpv, if_pos ⟨by omega, hls⟩]
    go_enter Tryz.func105, Tryz.ntmps105
    go_wp2_with (first | (go_at_call 107; refine (refPath_any _ _ hsm).mono ?_; rintro r w1 ⟨rfl, hb1⟩; rw [h1]; have s1 := st.below hb1; have k0 := s1.cell 0; simp [EntD.cells] at k0) | (go_at_call 113; refine (refSpare_any _ _ (by omega)).mono ?_; rintro r w2 ⟨rfl, rfl⟩; have k1 := s1.cell 1; have k2 := s1.cell 2; have k3 := s1.cell 3; have k4 := s1.cell 4; simp [EntD.cells] at k1 k2 k3 k4; have p0 := (hc.below s1.bel hb) m (by omega) 0 _ rfl; simp only [Nat.add_zero] at p0; rw [hy] at p0))
    go_wp2
    go_region_held3 (fun u => u.cell? ⟨w.heap.size, 0, none⟩ = some (.string p) ∧ u.cell? ⟨b, off + m * 5, none⟩ = some (.string o.path)) (go_keep) (first | (go_at_call 111; refine (less_any _ _ _ (by omega) (by omega)).mono ?_; rintro r w' ⟨rfl, hb3⟩; rw [hls]; have s2 := s1.drew.below hb3; have m0 := s2.cell 0; simp [EntD.cells] at m0; have m1 := (hc.below s2.bel hb) m (by omega) 0 _ rfl; simp only [Nat.add_zero] at m1; rw [hy] at m1))
    all_goals
      go_wp2
      go_ret
      exact ⟨by rw [hv]; rfl, s2.bel⟩

set_option maxRecDepth 4000 in
set_option maxHeartbeats 8000000 in
theorem refEntry_f1 (b off cap m : Nat) (l : List EntD) (p : ByteArray) (q z : Int) (md : Int) (w : World) (hi : m + 1 < l.length) (o : EntD) (hy : l[m] = o) (hx : l[m + 1] = ⟨p, false, q, z, md⟩) (hl : l.length ≤ 2000000) (hs : ∀ o ∈ l, o.small) (hb : b < w.heap.size) (hc : EntsAt w b off l) (h1 : pathL p.data.toList = true) (f1 : 0 ≤ md) (f2 : md ≤ 511) (f3 : 1 ≤ q) (f4 : q ≤ 9999) (f5 : 0 ≤ z) (f6 : z ≤ 100) :
    Calls Tryz.prog 105 #[.slice (some ⟨b, off, none⟩) l.length cap, .int .i64 (m + 1 : Nat), .bool false, .bool false] w fun r w' => r = .returned (.int .i64 (refErr l (m + 1) ⟨p, false, q, z, md⟩)) ∧ Below w.heap.size w w' := by
  have hcw := hc (m + 1) hi
  rw [hx] at hcw
  have c0 := hcw 0 _ rfl
  have c1 := hcw 1 _ rfl
  have c2 := hcw 2 _ rfl
  have c3 := hcw 3 _ rfl
  have c4 := hcw 4 _ rfl
  simp only [Nat.add_zero] at c0
  clear hcw
  have hsm : p.size ≤ 1500000 := by have := hs _ (List.getElem_mem hi); rw [hx] at this; exact this
  have hfl : fieldsB ⟨p, false, q, z, md⟩ = true := by simp [fieldsB, f1, f2, f3, f4, f5, f6]
  have hI1 : m < l.length := by omega
  have hI2 : (m : Int) < (l.length : Int) := by omega
  have hI0 : (0 : Int) ≤ (m : Int) := by omega
  have hW1 : IntKind.i64.wrap ((m : Int) + 1 - 1) = (m : Int) := by simp [IntKind.wrap, IntKind.bits, IntKind.signed]; omega
  have hW2 : IntKind.i64.wrap (((m + 1 : Nat) : Int) - 1) = (m : Int) := by simp [IntKind.wrap, IntKind.bits, IntKind.signed]; omega
  have hW3 : IntKind.i64.wrap (m : Int) = (m : Int) := by simp [IntKind.wrap, IntKind.bits, IntKind.signed]; omega
  have hso : o.path.size ≤ 1500000 := by have := hs _ (List.getElem_mem (by omega : m < l.length)); rw [hy] at this; exact this
  have hpv : (l[m + 1 - 1]?.map (·.path.data.toList)).getD [] = o.path.data.toList := by
    rw [show m + 1 - 1 = m by omega, List.getElem?_eq_getElem (by omega : m < l.length), hy]; rfl
  have st := Eb.start w ⟨p, false, q, z, md⟩
  have hps := parentB_small p
  by_cases hls : lessN (spl o.path.data.toList) (spl p.data.toList) = true
  · have HV : Hid (refErr l (m + 1) ⟨p, false, q, z, md⟩ = if upB (l.take (m + 1)) (parentB p) = false then 2 else if twiceB (l.take (m + 1)) ⟨p, false, q, z, md⟩ = true then 8 else if sizeB (l.take (m + 1)) ⟨p, false, q, z, md⟩ = true then 6 else 0) := by
      show refErr l (m + 1) ⟨p, false, q, z, md⟩ = _
      rw [refErr, h1, if_neg (by simp), hfl, if_neg (by simp), hpv, if_neg (by rw [hls]; simp)]
    go_enter Tryz.func105, Tryz.ntmps105
    go_wp2_with (first | (go_at_call 107; refine (refPath_any _ _ hsm).mono ?_; rintro r w1 ⟨rfl, hb1⟩; rw [h1]; have s1 := st.below hb1; have k0 := s1.cell 0; simp [EntD.cells] at k0) | (go_at_call 113; refine (refSpare_any _ _ (by omega)).mono ?_; rintro r w2 ⟨rfl, rfl⟩; have k1 := s1.cell 1; have k2 := s1.cell 2; have k3 := s1.cell 3; have k4 := s1.cell 4; simp [EntD.cells] at k1 k2 k3 k4; have p0 := (hc.below s1.bel hb) m (by omega) 0 _ rfl; simp only [Nat.add_zero] at p0; rw [hy] at p0))
    go_wp2
    go_region_held3 (fun u => u.cell? ⟨w.heap.size, 0, none⟩ = some (.string p) ∧ u.cell? ⟨b, off + m * 5, none⟩ = some (.string o.path)) (go_keep) (first | (go_at_call 111; refine (less_any _ _ _ (by omega) (by omega)).mono ?_; rintro r w' ⟨rfl, hb3⟩; rw [hls]; have s2 := s1.drew.below hb3; have m0 := s2.cell 0; simp [EntD.cells] at m0; have m1 := (hc.below s2.bel hb) m (by omega) 0 _ rfl; simp only [Nat.add_zero] at m1; rw [hy] at m1))
    clear k0 k1 k2 k3 k4 p0
    rename World => w3
    go_wp2_with (go_at_call 158; refine (refParent_any _ _ hsm).mono ?_; rintro r w4 ⟨rfl, hb4⟩; have s4 := s2.below hb4)
    generalize hup : parentB p = up at *
    clear hup hW1 hW2 hW3
    go_loopw [14, 15] (fun fd kv wr => ∃ k : Nat, k ≤ (m + 1) ∧ kv = .int .i64 k ∧ fd = .bool (upB (l.take k) up) ∧ Eb w ⟨p, false, q, z, md⟩ wr) (fun fd kv _ => (m + 1) - (intOf kv).toNat)
    case atStart => exact ⟨0, Nat.zero_le _, rfl, by simp [upB, ba_toList], s4⟩
    case round =>
      obtain ⟨k, hk, rfl, rfl, sr⟩ := hrel
      clear s1 s4 hb1 hb4
      by_cases hlt : k < (m + 1)
      · have hlk : k < l.length := by omega
        have HSN := upB_snoc l up k hlk
        have hcw := (hc.below sr.bel hb) k hlk
        generalize l[k] = o1 at *
        have HS : Hid (upB (l.take (k + 1)) up = (upB (l.take k) up || (o1.dir && (o1.path.data.toList == up.data.toList)))) := HSN
        clear HSN
        have c0 := hcw 0 _ rfl
        have c1 := hcw 1 _ rfl
        simp only [Nat.add_zero] at c0
        clear hcw
        cases hA : upB (l.take k) up
        all_goals cases hB : o1.dir
        all_goals go_wp2
        all_goals
          refine ⟨⟨k + 1, by omega, by go_num, ?_, sr⟩, by simp [intOf]; omega⟩
          rw [HS.out]; simp [ba_toList, hA, hB]
      · obtain rfl : k = (m + 1) := by omega
        by_cases hU : upB (l.take (m + 1)) up = true
        · rw [hU]
          go_wp2
          go_loopw [16] (fun kv wr => ∃ k : Nat, k ≤ (m + 1) ∧ kv = .int .i64 k ∧ twiceB (l.take k) ⟨p, false, q, z, md⟩ = false ∧ Eb w ⟨p, false, q, z, md⟩ wr) (fun kv _ => (m + 1) - (intOf kv).toNat)
          case atStart => exact ⟨0, Nat.zero_le _, rfl, rfl, sr⟩
          case round =>
            clear sr
            obtain ⟨k, hk, rfl, hd, sr⟩ := hrel
            have HD : Hid (twiceB (l.take k) ⟨p, false, q, z, md⟩ = false) := hd
            clear hd
            by_cases hlt : k < (m + 1)
            · have hlk : k < l.length := by omega
              have hlk2 : (k : Int) < (l.length : Int) := by omega
              have hlk3 : (0 : Int) ≤ (k : Int) := by omega
              have HSN := twiceB_snoc l ⟨p, false, q, z, md⟩ k hlk
              have HTW : Hid (twiceB (l.take (k + 1)) ⟨p, false, q, z, md⟩ = true → twiceB (l.take (m + 1)) ⟨p, false, q, z, md⟩ = true) := fun h => take_any_mono _ l (k + 1) (m + 1) (by omega) h
              have hcw := (hc.below sr.bel hb) k hlk
              have hsk := hs _ (List.getElem_mem hlk)
              generalize l[k] = o1 at *
              have HS : Hid (twiceB (l.take (k + 1)) ⟨p, false, q, z, md⟩ = (twiceB (l.take k) ⟨p, false, q, z, md⟩ || (o1.path.data.toList == p.data.toList))) := HSN
              clear HSN
              have c0 := hcw 0 _ rfl
              simp only [Nat.add_zero] at c0
              clear hcw
              unfold EntD.small at hsk
              have k0 := sr.cell 0
              simp [EntD.cells] at k0
              cases hA : (o1.path.data.toList == p.data.toList)
              · go_wp2
                go_quiet (first | (go_at_call 110; exact Calls.quiet_of (one_any _ _ _ (by omega) (by omega))))
                rw [hA]
                go_wp2
                exact ⟨⟨k + 1, by omega, by go_num, by rw [HS.out, HD.out, hA]; rfl, sr.drewN _⟩, by simp [intOf]; omega⟩
              · go_wp2
                go_quiet (first | (go_at_call 110; exact Calls.quiet_of (one_any _ _ _ (by omega) (by omega))))
                rw [hA]
                go_wp2
                go_ret
                refine ⟨?_, (sr.drewN _).bel⟩
                rw [HV.out, hU, if_neg (by simp), if_pos (HTW.out (by rw [HS.out, hA]; simp))]; rfl
            · obtain rfl : k = (m + 1) := by omega
              go_wp2
              go_loopw [18] (fun kv wr => ∃ k : Nat, k ≤ (m + 1) ∧ kv = .int .i64 k ∧ sizeB (l.take k) ⟨p, false, q, z, md⟩ = false ∧ Eb w ⟨p, false, q, z, md⟩ wr) (fun kv _ => (m + 1) - (intOf kv).toNat)
              case atStart => exact ⟨0, Nat.zero_le _, rfl, rfl, sr⟩
              case round =>
                clear sr
                obtain ⟨k, hk, rfl, hd, sr⟩ := hrel
                have HD2 : Hid (sizeB (l.take k) ⟨p, false, q, z, md⟩ = false) := hd
                clear hd
                by_cases hlt : k < (m + 1)
                · have hlk : k < l.length := by omega
                  have hlk2 : (k : Int) < (l.length : Int) := by omega
                  have hlk3 : (0 : Int) ≤ (k : Int) := by omega
                  have HSN := sizeB_snoc l ⟨p, false, q, z, md⟩ k hlk
                  have HTW : Hid (sizeB (l.take (k + 1)) ⟨p, false, q, z, md⟩ = true → sizeB (l.take (m + 1)) ⟨p, false, q, z, md⟩ = true) := fun h => take_any_mono _ l (k + 1) (m + 1) (by omega) h
                  have hcw := (hc.below sr.bel hb) k hlk
                  generalize l[k] = o1 at *
                  have HS : Hid (sizeB (l.take (k + 1)) ⟨p, false, q, z, md⟩ = (sizeB (l.take k) ⟨p, false, q, z, md⟩ || (!false && !o1.dir && decide (o1.id = q) && decide (o1.size ≠ z)))) := HSN
                  clear HSN
                  have c1 := hcw 1 _ rfl
                  have c2 := hcw 2 _ rfl
                  have c3 := hcw 3 _ rfl
                  clear hcw
                  have k1 := sr.cell 1
                  have k2 := sr.cell 2
                  have k3 := sr.cell 3
                  simp [EntD.cells] at k1 k2 k3
                  cases hA : o1.dir
                  · rw [hA] at c1
                    by_cases hB : o1.id = q
                    · have g1 : (o1.id == q) = true := by simpa using hB
                      by_cases hC : o1.size = z
                      · have g2 : (o1.size != z) = false := by simpa using hC
                        go_wp2
                        go_quiet (fail)
                        go_wp2
                        exact ⟨⟨k + 1, by omega, by go_num, by rw [HS.out, HD2.out]; simp [hA, hC], sr.drewN _⟩, by simp [intOf]; omega⟩
                      · have g2 : (o1.size != z) = true := by simpa using hC
                        go_wp2
                        go_quiet (fail)
                        go_wp2
                        go_ret
                        refine ⟨?_, (sr.drewN _).bel⟩
                        rw [HV.out, hU, if_neg (by simp), HD.out, if_neg (by simp), if_pos (HTW.out (by rw [HS.out]; simp [hA, hB, hC]))]; rfl
                    · have g1 : (o1.id == q) = false := by simpa using hB
                      go_wp2
                      go_quiet (fail)
                      go_wp2
                      exact ⟨⟨k + 1, by omega, by go_num, by rw [HS.out, HD2.out]; simp [hA, hB], sr.drewN _⟩, by simp [intOf]; omega⟩
                  · rw [hA] at c1
                    go_wp2
                    go_quiet (fail)
                    go_wp2
                    exact ⟨⟨k + 1, by omega, by go_num, by rw [HS.out, HD2.out]; simp [hA], sr.drewN _⟩, by simp [intOf]; omega⟩
                · obtain rfl : k = (m + 1) := by omega
                  go_wp2
                  go_ret
                  refine ⟨?_, sr.bel⟩
                  rw [HV.out, hU, if_neg (by simp), HD.out, if_neg (by simp), HD2.out, if_neg (by simp)]; rfl
        · simp only [Bool.not_eq_true] at hU
          rw [hU]
          go_wp2
          go_ret
          refine ⟨?_, sr.bel⟩
          rw [HV.out, if_pos hU]; rfl

  · simp only [Bool.not_eq_true] at hls
    have hv : refErr l (m + 1) ⟨p, false, q, z, md⟩ = 3 := by rw [refErr, h1, if_neg (by simp), hfl, if_neg (by simp), hpv, if_pos ⟨by omega, hls⟩]
    go_enter Tryz.func105, Tryz.ntmps105
    go_wp2_with (first | (go_at_call 107; refine (refPath_any _ _ hsm).mono ?_; rintro r w1 ⟨rfl, hb1⟩; rw [h1]; have s1 := st.below hb1; have k0 := s1.cell 0; simp [EntD.cells] at k0) | (go_at_call 113; refine (refSpare_any _ _ (by omega)).mono ?_; rintro r w2 ⟨rfl, rfl⟩; have k1 := s1.cell 1; have k2 := s1.cell 2; have k3 := s1.cell 3; have k4 := s1.cell 4; simp [EntD.cells] at k1 k2 k3 k4; have p0 := (hc.below s1.bel hb) m (by omega) 0 _ rfl; simp only [Nat.add_zero] at p0; rw [hy] at p0))
    go_wp2
    go_region_held3 (fun u => u.cell? ⟨w.heap.size, 0, none⟩ = some (.string p) ∧ u.cell? ⟨b, off + m * 5, none⟩ = some (.string o.path)) (go_keep) (first | (go_at_call 111; refine (less_any _ _ _ (by omega) (by omega)).mono ?_; rintro r w' ⟨rfl, hb3⟩; rw [hls]; have s2 := s1.drew.below hb3; have m0 := s2.cell 0; simp [EntD.cells] at m0; have m1 := (hc.below s2.bel hb) m (by omega) 0 _ rfl; simp only [Nat.add_zero] at m1; rw [hy] at m1))
    all_goals
      go_wp2
      go_ret
      exact ⟨by rw [hv]; rfl, s2.bel⟩

end Go.Proofs.YtpjjagalekolaaaGreatDoor

/- The reference's Check, of trees that do not fold; it tells an error just where the program's does. -/
namespace Go.Proofs.YtpjjagalekolaaaGreatDoor
open Go.RowKit
set_option linter.unusedVariables false
set_option linter.unusedSimpArgs false

theorem fieldsB_true (e : EntD) (h : fieldsB e = true) : 0 ≤ e.mode ∧ e.mode ≤ 511 ∧ ((e.dir = true ∧ e.id = 0 ∧ e.size = 0) ∨ (e.dir = false ∧ 1 ≤ e.id ∧ e.id ≤ 9999 ∧ 0 ≤ e.size ∧ e.size ≤ 100)) := by
  cases hd : e.dir
  · simp [fieldsB, hd] at h
    refine ⟨by omega, by omega, .inr ⟨rfl, by omega, by omega, by omega, by omega⟩⟩
  · simp [fieldsB, hd] at h
    refine ⟨by omega, by omega, .inl ⟨rfl, by omega, by omega⟩⟩

theorem refEntry_any (b off cap : Nat) (l : List EntD) (i : Nat) (e : EntD) (w : World) (hi : i < l.length) (hx : l[i] = e) (hl : l.length ≤ 2000000) (hs : ∀ o ∈ l, o.small) (hb : b < w.heap.size) (hc : EntsAt w b off l) :
    Calls Tryz.prog 105 #[.slice (some ⟨b, off, none⟩) l.length cap, .int .i64 i, .bool false, .bool false] w fun r w' => r = .returned (.int .i64 (refErr l i e)) ∧ Below w.heap.size w w' := by
  by_cases h1 : pathL e.path.data.toList = true
  · by_cases h2 : fieldsB e = true
    · obtain ⟨f1, f2, f3⟩ := fieldsB_true e h2
      obtain ⟨p, d, q, z, md⟩ := e
      dsimp only at *
      rcases f3 with ⟨rfl, rfl, rfl⟩ | ⟨rfl, g1, g2, g3, g4⟩
      · cases i with
        | zero => exact refEntry_d0 b off cap l p md w hi hx hl hs hb hc h1 f1 f2
        | succ m => exact refEntry_d1 b off cap m l p md w hi _ rfl hx hl hs hb hc h1 f1 f2
      · cases i with
        | zero => exact refEntry_f0 b off cap l p q z md w hi hx hl hs hb hc h1 f1 f2 g1 g2 g3 g4
        | succ m => exact refEntry_f1 b off cap m l p q z md w hi _ rfl hx hl hs hb hc h1 f1 f2 g1 g2 g3 g4
    · exact refEntry_bad b off cap l i e w hi hx hl hs hb hc h1 (by simpa using h2)
  · exact refEntry_name b off cap l i e w hi hx hl hs hb hc (by simpa using h1)

def refGo (l : List EntD) : List EntD → Nat → Int × Int
  | [], _ => (0, 0)
  | e :: t, i => if refErr l i e = 0 then refGo l t (i + 1) else (refErr l i e, i)
def refP (l : List EntD) : Int × Int := if 60 < l.length then (5, 0) else refGo l l 0
theorem refGo_at (l : List EntD) (k : Nat) (h : k < l.length) : refGo l (l.drop k) k = if refErr l k l[k] = 0 then refGo l (l.drop (k + 1)) (k + 1) else (refErr l k l[k], (k : Int)) := by
  rw [List.drop_eq_getElem_cons h, refGo]

set_option maxHeartbeats 2000000 in
theorem refcheck_any (b off cap : Nat) (l : List EntD) (w : World) (hl : l.length ≤ 2000000) (hs : ∀ o ∈ l, o.small) (hb : b < w.heap.size) (hc : EntsAt w b off l) :
    Calls Tryz.prog 60 #[.slice (some ⟨b, off, none⟩) l.length cap, .bool false, .int .i64 60, .bool false] w fun e w' => e = .returned (.tuple #[.int .i64 (refP l).1, .int .i64 (refP l).2]) ∧ Below w.heap.size w w' := by
  by_cases h6 : (60 : Int) < l.length
  · have hv : refP l = (5, 0) := by rw [refP, if_pos (by omega)]
    rw [hv]
    go_enter Tryz.func60, Tryz.ntmps60
    go_wp2
    go_ret2
    exact ⟨rfl, Below.refl _ _⟩
  · have hv : refP l = refGo l l 0 := by rw [refP, if_neg (by omega)]
    rw [hv]
    go_enter Tryz.func60, Tryz.ntmps60
    go_wp2
    go_loopw [10] (fun i wr => ∃ k : Nat, k ≤ l.length ∧ i = .int .i64 k ∧ refGo l l 0 = refGo l (l.drop k) k ∧ Below w.heap.size w wr) (fun i _ => l.length - (intOf i).toNat)
    case atStart => exact ⟨0, Nat.zero_le _, rfl, rfl, Below.refl _ _⟩
    case round =>
      obtain ⟨k, hk, rfl, hd, hbw⟩ := hrel
      have HD : Hid (refGo l l 0 = refGo l (l.drop k) k) := hd
      clear hd
      have hbs := hbw.size
      by_cases hlt : k < l.length
      · have HSN := refGo_at l k hlt
        generalize hx : l[k] = o at *
        have HS : Hid (refGo l (l.drop k) k = if refErr l k o = 0 then refGo l (l.drop (k + 1)) (k + 1) else (refErr l k o, (k : Int))) := HSN
        clear HSN
        by_cases he : refErr l k o = 0
        · go_wp2_with (go_at_call 105; refine (refEntry_any b off cap l k o _ hlt hx hl hs (by omega) (hc.below hbw hb)).mono ?_; rintro e w2 ⟨rfl, hb2⟩; rw [he])
          exact ⟨⟨k + 1, by omega, by go_num, by rw [HD.out, HS.out, if_pos he], hbw.trans (hb2.mono hbs)⟩, by simp [intOf]; omega⟩
        · have he' : (refErr l k o != 0) = true := by simpa using he
          go_wp2_with (go_at_call 105; refine (refEntry_any b off cap l k o _ hlt hx hl hs (by omega) (hc.below hbw hb)).mono ?_; rintro e w2 ⟨rfl, hb2⟩)
          go_ret2
          refine ⟨?_, hbw.trans (hb2.mono hbs)⟩
          rw [HD.out, HS.out, if_neg he]; rfl
      · go_wp2
        go_ret2
        refine ⟨?_, hbw⟩
        rw [HD.out, List.drop_of_length_le (by omega), refGo]; rfl

set_option maxHeartbeats 1000000 in
theorem refcheck_nil (w : World) :
    Calls Tryz.prog 60 #[.slice none 0 0, .bool false, .int .i64 60, .bool false] w fun e w' => e = .returned (.tuple #[.int .i64 0, .int .i64 0]) ∧ w' = w := by
  go_enter Tryz.func60, Tryz.ntmps60
  go_wp2
  refine wp_loop_rounds 1 ?_
  rw [rounds_succ]
  go_wp2
  go_ret2
  exact ⟨rfl, rfl⟩

set_option maxHeartbeats 1000000 in
theorem refCheck_any (b off cap : Nat) (l : List EntD) (w : World) (hl : l.length ≤ 2000000) (hs : ∀ o ∈ l, o.small) (hb : b < w.heap.size) (hc : EntsAt w b off l) :
    Calls Tryz.prog 37 #[.slice (some ⟨b, off, none⟩) l.length cap, .bool false] w fun e w' => e = .returned (.tuple #[.int .i64 (refP l).1, .int .i64 (refP l).2]) ∧ Below w.heap.size w w' := by
  go_enter Tryz.func37, Tryz.ntmps37
  go_wp2_with (go_at_call 60; refine (refcheck_any b off cap l _ hl hs hb hc).mono ?_; rintro e w1 ⟨rfl, hb1⟩)
  go_ret2
  exact ⟨rfl, hb1⟩
set_option maxHeartbeats 1000000 in
theorem refCheck_nil (w : World) :
    Calls Tryz.prog 37 #[.slice none 0 0, .bool false] w fun e w' => e = .returned (.tuple #[.int .i64 0, .int .i64 0]) ∧ w' = w := by
  go_enter Tryz.func37, Tryz.ntmps37
  go_wp2_with (go_at_call 60; refine (refcheck_nil _).mono ?_; rintro e w1 ⟨rfl, rfl⟩)
  go_ret2
  exact ⟨rfl, rfl⟩

/-! Plain: both tell an error of the same lists. -/
theorem chkGo_zero (l : List EntD) : ∀ (t : List EntD) (i : Nat), ((chkGo l t i).1 = 0 ↔ ∀ (k : Nat) (h : k < t.length), chkAt l (i + k) t[k] = 0) := by
  intro t
  induction t with
  | nil => intro i; simp [chkGo]
  | cons e t ih =>
    intro i
    rw [chkGo]
    split
    · next h0 =>
      rw [ih]
      constructor
      · intro h k hk
        cases k with
        | zero => exact h0
        | succ k => have := h k (by simpa using hk); rw [show i + (k + 1) = i + 1 + k by omega]; exact this
      · intro h k hk
        have := h (k + 1) (by simpa using hk)
        rw [show i + 1 + k = i + (k + 1) by omega]; exact this
    · next h0 =>
      constructor
      · intro h; exact absurd h h0
      · intro h; exact absurd (h 0 (by simp)) h0
theorem refGo_zero (l : List EntD) : ∀ (t : List EntD) (i : Nat), ((refGo l t i).1 = 0 ↔ ∀ (k : Nat) (h : k < t.length), refErr l (i + k) t[k] = 0) := by
  intro t
  induction t with
  | nil => intro i; simp [refGo]
  | cons e t ih =>
    intro i
    rw [refGo]
    split
    · next h0 =>
      rw [ih]
      constructor
      · intro h k hk
        cases k with
        | zero => exact h0
        | succ k => have := h k (by simpa using hk); rw [show i + (k + 1) = i + 1 + k by omega]; exact this
      · intro h k hk
        have := h (k + 1) (by simpa using hk)
        rw [show i + 1 + k = i + (k + 1) by omega]; exact this
    · next h0 =>
      constructor
      · intro h; exact absurd h h0
      · intro h; exact absurd (h 0 (by simp)) h0

/-- What a tree is, said plainly. -/
structure TreeOk (l : List EntD) : Prop where
  few : l.length ≤ 60
  names : ∀ o ∈ l, pathL o.path.data.toList = true
  fields : ∀ o ∈ l, fieldsB o = true
  order : ∀ (i j : Nat) (hi : i < l.length) (hj : j < l.length), i < j → key l[i].path.data.toList < key l[j].path.data.toList

theorem order_of_steps (l : List EntD) (h : ∀ (i : Nat) (hi : i + 1 < l.length), key l[i].path.data.toList < key l[i + 1].path.data.toList) : ∀ (i j : Nat) (hi : i < l.length) (hj : j < l.length), i < j → key l[i].path.data.toList < key l[j].path.data.toList := by
  intro i j hi
  induction j with
  | zero => intro hj h0; omega
  | succ j ih =>
    intro hj hij
    by_cases he : i = j
    · subst he; exact h i hj
    · exact List.lt_trans (ih (by omega) (by omega)) (h j hj)
end Go.Proofs.YtpjjagalekolaaaGreatDoor

