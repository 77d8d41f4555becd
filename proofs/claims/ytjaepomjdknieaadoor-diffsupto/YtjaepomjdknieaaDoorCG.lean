/- The reference's look at one entry, of trees that do not fold. -/
import Derived.Test.YtjaepomjdknieaaDoorCF
namespace Go.Proofs.YtjaepomjdknieaaDoor
open Go.RowKit
set_option linter.unusedVariables false
set_option linter.unusedSimpArgs false

def upB (l : List EntD) (up : ByteArray) : Bool := (up.data.toList == []) || l.any fun o => o.dir && (o.path.data.toList == up.data.toList)
def twiceB (l : List EntD) (e : EntD) : Bool := l.any fun o => o.path.data.toList == e.path.data.toList
def sizeB (l : List EntD) (e : EntD) : Bool := l.any fun o => !e.dir && !o.dir && decide (o.id = e.id) && decide (o.size ≠ e.size)
def refErr (l : List EntD) (i : Nat) (e : EntD) : Int :=
  if pathL e.path.data.toList = false then 1
  else if fieldsB e = false then 4
  else if 0 < i ∧ lessN (spl ((l[i - 1]?.map (·.path.data.toList)).getD [])) (spl e.path.data.toList) = false then 3
  else if upB (l.take i) (parentB e.path) = false then 2
  else if twiceB (l.take i) e = true then 8
  else if sizeB (l.take i) e = true then 6 else 0

set_option maxRecDepth 4000 in
set_option maxHeartbeats 2000000 in
theorem refEntry_name (b off cap : Nat) (l : List EntD) (i : Nat) (e : EntD) (w : World) (hi : i < l.length) (hx : l[i] = e) (hl : l.length ≤ 2000000) (hs : ∀ o ∈ l, o.small) (hb : b < w.heap.size) (hc : EntsAt w b off l) (h1 : pathL e.path.data.toList = false) :
    Calls Tryd.prog 54 #[.slice (some ⟨b, off, none⟩) l.length cap, .int .i64 i, .bool false, .bool false] w fun r w' => r = .returned (.int .i64 (refErr l i e)) ∧ Below w.heap.size w w' := by
  have hcw := hc i hi
  rw [hx] at hcw
  have c0 := hcw 0 _ rfl
  have c1 := hcw 1 _ rfl
  have c2 := hcw 2 _ rfl
  have c3 := hcw 3 _ rfl
  have c4 := hcw 4 _ rfl
  simp only [Nat.add_zero] at c0
  clear hcw
  have hsm : e.small := hx ▸ hs _ (List.getElem_mem hi)
  unfold EntD.small at hsm
  have st := Eb.start w e
  have hv : refErr l i e = 1 := by rw [refErr, if_pos h1]
  go_enter Tryd.func54, Tryd.ntmps54
  go_wp2_with (first | (go_at_call 73; refine (refPath_any _ _ hsm).mono ?_; rintro r w1 ⟨rfl, hb1⟩; rw [h1]; have s1 := st.below hb1; have k0 := s1.cell 0; simp [EntD.cells] at k0) | (go_at_call 74; refine (refSpare_any _ _ (by omega)).mono ?_; rintro r w2 ⟨rfl, rfl⟩))
  go_ret
  exact ⟨by rw [hv]; rfl, s1.bel⟩

set_option maxRecDepth 4000 in
set_option maxHeartbeats 4000000 in
theorem refEntry_bad (b off cap : Nat) (l : List EntD) (i : Nat) (e : EntD) (w : World) (hi : i < l.length) (hx : l[i] = e) (hl : l.length ≤ 2000000) (hs : ∀ o ∈ l, o.small) (hb : b < w.heap.size) (hc : EntsAt w b off l) (h1 : pathL e.path.data.toList = true) (h2 : fieldsB e = false) :
    Calls Tryd.prog 54 #[.slice (some ⟨b, off, none⟩) l.length cap, .int .i64 i, .bool false, .bool false] w fun r w' => r = .returned (.int .i64 (refErr l i e)) ∧ Below w.heap.size w w' := by
  have hcw := hc i hi
  rw [hx] at hcw
  have c0 := hcw 0 _ rfl
  have c1 := hcw 1 _ rfl
  have c2 := hcw 2 _ rfl
  have c3 := hcw 3 _ rfl
  have c4 := hcw 4 _ rfl
  simp only [Nat.add_zero] at c0
  clear hcw
  have hsm : e.small := hx ▸ hs _ (List.getElem_mem hi)
  unfold EntD.small at hsm
  have st := Eb.start w e
  have hv : refErr l i e = 4 := by rw [refErr, h1, if_neg (by simp), if_pos h2]
  have HV : Hid (refErr l i e = 4) := hv
  have h2' : fieldsB e = true → False := by rw [h2]; simp
  clear h2 st hv
  obtain ⟨p, d, q, z, m⟩ := e
  dsimp only at *
  by_cases m1 : 0 ≤ m
  · by_cases m2 : m ≤ 511
    · cases d
      · by_cases j1 : 1 ≤ q
        · by_cases j2 : q ≤ 9999
          · by_cases j3 : 0 ≤ z
            · have j4 : ¬ z ≤ 100 := fun j4 => h2' (by simp [fieldsB, m1, m2, j1, j2, j3, j4])
              clear h2'
              have st := Eb.start w ⟨p, false, q, z, m⟩
              go_enter Tryd.func54, Tryd.ntmps54
              go_wp2_with (first | (go_at_call 73; refine (refPath_any _ _ hsm).mono ?_; rintro r w1 ⟨rfl, hb1⟩; rw [h1]; have s1 := st.below hb1; have k0 := s1.cell 0; simp [EntD.cells] at k0) | (go_at_call 74; refine (refSpare_any _ _ (by omega)).mono ?_; rintro r w2 ⟨rfl, rfl⟩; have k1 := s1.cell 1; have k2 := s1.cell 2; have k3 := s1.cell 3; have k4 := s1.cell 4; simp [EntD.cells] at k1 k2 k3 k4))
              go_ret
              exact ⟨by rw [HV.out]; rfl, s1.bel⟩
            · clear h2'
              have st := Eb.start w ⟨p, false, q, z, m⟩
              go_enter Tryd.func54, Tryd.ntmps54
              go_wp2_with (first | (go_at_call 73; refine (refPath_any _ _ hsm).mono ?_; rintro r w1 ⟨rfl, hb1⟩; rw [h1]; have s1 := st.below hb1; have k0 := s1.cell 0; simp [EntD.cells] at k0) | (go_at_call 74; refine (refSpare_any _ _ (by omega)).mono ?_; rintro r w2 ⟨rfl, rfl⟩; have k1 := s1.cell 1; have k2 := s1.cell 2; have k3 := s1.cell 3; have k4 := s1.cell 4; simp [EntD.cells] at k1 k2 k3 k4))
              go_ret
              exact ⟨by rw [HV.out]; rfl, s1.bel⟩
          · clear h2'
            have st := Eb.start w ⟨p, false, q, z, m⟩
            go_enter Tryd.func54, Tryd.ntmps54
            go_wp2_with (first | (go_at_call 73; refine (refPath_any _ _ hsm).mono ?_; rintro r w1 ⟨rfl, hb1⟩; rw [h1]; have s1 := st.below hb1; have k0 := s1.cell 0; simp [EntD.cells] at k0) | (go_at_call 74; refine (refSpare_any _ _ (by omega)).mono ?_; rintro r w2 ⟨rfl, rfl⟩; have k1 := s1.cell 1; have k2 := s1.cell 2; have k3 := s1.cell 3; have k4 := s1.cell 4; simp [EntD.cells] at k1 k2 k3 k4))
            go_ret
            exact ⟨by rw [HV.out]; rfl, s1.bel⟩
        · clear h2'
          have st := Eb.start w ⟨p, false, q, z, m⟩
          go_enter Tryd.func54, Tryd.ntmps54
          go_wp2_with (first | (go_at_call 73; refine (refPath_any _ _ hsm).mono ?_; rintro r w1 ⟨rfl, hb1⟩; rw [h1]; have s1 := st.below hb1; have k0 := s1.cell 0; simp [EntD.cells] at k0) | (go_at_call 74; refine (refSpare_any _ _ (by omega)).mono ?_; rintro r w2 ⟨rfl, rfl⟩; have k1 := s1.cell 1; have k2 := s1.cell 2; have k3 := s1.cell 3; have k4 := s1.cell 4; simp [EntD.cells] at k1 k2 k3 k4))
          go_ret
          exact ⟨by rw [HV.out]; rfl, s1.bel⟩
      · by_cases j1 : q = 0
        · have j2 : ¬ z = 0 := fun j2 => h2' (by simp [fieldsB, m1, m2, j1, j2])
          subst j1
          clear h2'
          have st := Eb.start w ⟨p, true, 0, z, m⟩
          go_enter Tryd.func54, Tryd.ntmps54
          go_wp2_with (first | (go_at_call 73; refine (refPath_any _ _ hsm).mono ?_; rintro r w1 ⟨rfl, hb1⟩; rw [h1]; have s1 := st.below hb1; have k0 := s1.cell 0; simp [EntD.cells] at k0) | (go_at_call 74; refine (refSpare_any _ _ (by omega)).mono ?_; rintro r w2 ⟨rfl, rfl⟩; have k1 := s1.cell 1; have k2 := s1.cell 2; have k3 := s1.cell 3; have k4 := s1.cell 4; simp [EntD.cells] at k1 k2 k3 k4))
          go_ret
          exact ⟨by rw [HV.out]; rfl, s1.bel⟩
        · clear h2'
          have st := Eb.start w ⟨p, true, q, z, m⟩
          go_enter Tryd.func54, Tryd.ntmps54
          go_wp2_with (first | (go_at_call 73; refine (refPath_any _ _ hsm).mono ?_; rintro r w1 ⟨rfl, hb1⟩; rw [h1]; have s1 := st.below hb1; have k0 := s1.cell 0; simp [EntD.cells] at k0) | (go_at_call 74; refine (refSpare_any _ _ (by omega)).mono ?_; rintro r w2 ⟨rfl, rfl⟩; have k1 := s1.cell 1; have k2 := s1.cell 2; have k3 := s1.cell 3; have k4 := s1.cell 4; simp [EntD.cells] at k1 k2 k3 k4))
          go_ret
          exact ⟨by rw [HV.out]; rfl, s1.bel⟩
    · clear h2'
      have st := Eb.start w ⟨p, d, q, z, m⟩
      go_enter Tryd.func54, Tryd.ntmps54
      go_wp2_with (first | (go_at_call 73; refine (refPath_any _ _ hsm).mono ?_; rintro r w1 ⟨rfl, hb1⟩; rw [h1]; have s1 := st.below hb1; have k0 := s1.cell 0; simp [EntD.cells] at k0) | (go_at_call 74; refine (refSpare_any _ _ (by omega)).mono ?_; rintro r w2 ⟨rfl, rfl⟩; have k1 := s1.cell 1; have k2 := s1.cell 2; have k3 := s1.cell 3; have k4 := s1.cell 4; simp [EntD.cells] at k1 k2 k3 k4))
      go_ret
      exact ⟨by rw [HV.out]; rfl, s1.bel⟩
  · clear h2'
    have st := Eb.start w ⟨p, d, q, z, m⟩
    go_enter Tryd.func54, Tryd.ntmps54
    go_wp2_with (first | (go_at_call 73; refine (refPath_any _ _ hsm).mono ?_; rintro r w1 ⟨rfl, hb1⟩; rw [h1]; have s1 := st.below hb1; have k0 := s1.cell 0; simp [EntD.cells] at k0) | (go_at_call 74; refine (refSpare_any _ _ (by omega)).mono ?_; rintro r w2 ⟨rfl, rfl⟩; have k1 := s1.cell 1; have k2 := s1.cell 2; have k3 := s1.cell 3; have k4 := s1.cell 4; simp [EntD.cells] at k1 k2 k3 k4))
    go_ret
    exact ⟨by rw [HV.out]; rfl, s1.bel⟩
end Go.Proofs.YtjaepomjdknieaaDoor
