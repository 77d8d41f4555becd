/- The reference's look at one entry of what a volume holds: spare names. -/
import Derived.Test.YtehkdjdflgknnaaGreatDoorZHG
namespace Go.Proofs.YtehkdjdflgknnaaGreatDoor
open Go.RowKit
set_option linter.unusedVariables false
set_option linter.unusedSimpArgs false

set_option maxRecDepth 4000 in
set_option maxHeartbeats 4000000 in
theorem refEntS_bad (fold : Bool) (b off cap : Nat) (l : List EntD) (i : Nat) (e : EntD) (w : World) (hi : i < l.length) (hx : l[i] = e) (hl : l.length ≤ 2000000) (hs : ∀ o ∈ l, o.small) (hb : b < w.heap.size) (hc : EntsAt w b off l) (h1 : pathL e.path.data.toList = false) (hh : holdB e = true) (hsp : spareL e.path.data.toList = true) (hdir : e.dir = false) (h2 : fieldsB e = false) :
    Calls Tryz.prog 59 #[.slice (some ⟨b, off, none⟩) l.length cap, .int .i64 i, .bool fold, .bool true] w fun r w' => r = .returned (.int .i64 (refErH fold l i e)) ∧ Below w.heap.size w w' := by
  have hcw := hc i hi
  rw [hx] at hcw
  have c0 := hcw 0 _ rfl
  have c1 := hcw 1 _ rfl
  have c2 := hcw 2 _ rfl
  have c3 := hcw 3 _ rfl
  have c4 := hcw 4 _ rfl
  simp only [Nat.add_zero] at c0
  clear hcw
  have hsm : e.small := hx ▸ hs _ (List.getElem_mem hi)
  unfold EntD.small at hsm
  have st := Eb.start w e
  have hv : refErH fold l i e = 4 := by rw [refErH, hh, if_neg (by simp), if_pos h2]
  have HV : Hid (refErH fold l i e = 4) := hv
  have h2' : fieldsB e = true → False := by rw [h2]; simp
  clear h2 st hv
  obtain ⟨p, d, q, z, m⟩ := e
  dsimp only at *
  by_cases m1 : 0 ≤ m
  · by_cases m2 : m ≤ 511
    · cases d
      · by_cases j1 : 1 ≤ q
        · by_cases j2 : q ≤ 9999
          · by_cases j3 : 0 ≤ z
            · have j4 : ¬ z ≤ 100 := fun j4 => h2' (by simp [fieldsB, m1, m2, j1, j2, j3, j4])
              clear h2'
              have st := Eb.start w ⟨p, false, q, z, m⟩
              go_enter Tryz.func59, Tryz.ntmps59
              go_wp2_with (first | (go_at_call 63; refine (refPath_any _ _ hsm).mono ?_; rintro r w1 ⟨rfl, hb1⟩; rw [h1]; have s1 := st.below hb1; have k0 := s1.cell 0; simp [EntD.cells] at k0) | (go_at_call 75; refine (refSpare_any _ _ (by omega)).mono ?_; rintro r w2 ⟨rfl, rfl⟩; rw [hsp]; have k1 := s1.cell 1; have k2 := s1.cell 2; have k3 := s1.cell 3; have k4 := s1.cell 4; simp [EntD.cells] at k1 k2 k3 k4))
              go_ret
              exact ⟨by rw [HV.out]; rfl, s1.bel⟩
            · clear h2'
              have st := Eb.start w ⟨p, false, q, z, m⟩
              go_enter Tryz.func59, Tryz.ntmps59
              go_wp2_with (first | (go_at_call 63; refine (refPath_any _ _ hsm).mono ?_; rintro r w1 ⟨rfl, hb1⟩; rw [h1]; have s1 := st.below hb1; have k0 := s1.cell 0; simp [EntD.cells] at k0) | (go_at_call 75; refine (refSpare_any _ _ (by omega)).mono ?_; rintro r w2 ⟨rfl, rfl⟩; rw [hsp]; have k1 := s1.cell 1; have k2 := s1.cell 2; have k3 := s1.cell 3; have k4 := s1.cell 4; simp [EntD.cells] at k1 k2 k3 k4))
              go_ret
              exact ⟨by rw [HV.out]; rfl, s1.bel⟩
          · clear h2'
            have st := Eb.start w ⟨p, false, q, z, m⟩
            go_enter Tryz.func59, Tryz.ntmps59
            go_wp2_with (first | (go_at_call 63; refine (refPath_any _ _ hsm).mono ?_; rintro r w1 ⟨rfl, hb1⟩; rw [h1]; have s1 := st.below hb1; have k0 := s1.cell 0; simp [EntD.cells] at k0) | (go_at_call 75; refine (refSpare_any _ _ (by omega)).mono ?_; rintro r w2 ⟨rfl, rfl⟩; rw [hsp]; have k1 := s1.cell 1; have k2 := s1.cell 2; have k3 := s1.cell 3; have k4 := s1.cell 4; simp [EntD.cells] at k1 k2 k3 k4))
            go_ret
            exact ⟨by rw [HV.out]; rfl, s1.bel⟩
        · clear h2'
          have st := Eb.start w ⟨p, false, q, z, m⟩
          go_enter Tryz.func59, Tryz.ntmps59
          go_wp2_with (first | (go_at_call 63; refine (refPath_any _ _ hsm).mono ?_; rintro r w1 ⟨rfl, hb1⟩; rw [h1]; have s1 := st.below hb1; have k0 := s1.cell 0; simp [EntD.cells] at k0) | (go_at_call 75; refine (refSpare_any _ _ (by omega)).mono ?_; rintro r w2 ⟨rfl, rfl⟩; rw [hsp]; have k1 := s1.cell 1; have k2 := s1.cell 2; have k3 := s1.cell 3; have k4 := s1.cell 4; simp [EntD.cells] at k1 k2 k3 k4))
          go_ret
          exact ⟨by rw [HV.out]; rfl, s1.bel⟩
      · exact absurd hdir (by simp)
    · clear h2'
      subst hdir
      have st := Eb.start w ⟨p, false, q, z, m⟩
      go_enter Tryz.func59, Tryz.ntmps59
      go_wp2_with (first | (go_at_call 63; refine (refPath_any _ _ hsm).mono ?_; rintro r w1 ⟨rfl, hb1⟩; rw [h1]; have s1 := st.below hb1; have k0 := s1.cell 0; simp [EntD.cells] at k0) | (go_at_call 75; refine (refSpare_any _ _ (by omega)).mono ?_; rintro r w2 ⟨rfl, rfl⟩; rw [hsp]; have k1 := s1.cell 1; have k2 := s1.cell 2; have k3 := s1.cell 3; have k4 := s1.cell 4; simp [EntD.cells] at k1 k2 k3 k4))
      go_ret
      exact ⟨by rw [HV.out]; rfl, s1.bel⟩
  · clear h2'
    subst hdir
    have st := Eb.start w ⟨p, false, q, z, m⟩
    go_enter Tryz.func59, Tryz.ntmps59
    go_wp2_with (first | (go_at_call 63; refine (refPath_any _ _ hsm).mono ?_; rintro r w1 ⟨rfl, hb1⟩; rw [h1]; have s1 := st.below hb1; have k0 := s1.cell 0; simp [EntD.cells] at k0) | (go_at_call 75; refine (refSpare_any _ _ (by omega)).mono ?_; rintro r w2 ⟨rfl, rfl⟩; rw [hsp]; have k1 := s1.cell 1; have k2 := s1.cell 2; have k3 := s1.cell 3; have k4 := s1.cell 4; simp [EntD.cells] at k1 k2 k3 k4))
    go_ret
    exact ⟨by rw [HV.out]; rfl, s1.bel⟩
end Go.Proofs.YtehkdjdflgknnaaGreatDoor
