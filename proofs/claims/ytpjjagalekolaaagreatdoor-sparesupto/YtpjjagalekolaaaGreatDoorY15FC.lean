/- The program's look at one entry, and its Check, of trees that fold. -/
import Derived.Test.YtpjjagalekolaaaGreatDoorY07
namespace Go.Proofs.YtpjjagalekolaaaGreatDoor
open Go.RowKit
set_option linter.unusedVariables false
set_option linter.unusedSimpArgs false

theorem find_n (b off cap n : Nat) (l : List EntD) (p : ByteArray) (w : World) (hn : n ≤ l.length) (hl : l.length ≤ 2000000) (hs : ∀ o ∈ l, o.small) (hp : p.size ≤ 1500000) (hb : b < w.heap.size) (hc : EntsAt w b off l) :
    Calls Tryz.prog 155 #[.slice (some ⟨b, off, none⟩) n cap, .string p, .bool true] w fun r w' => r = .returned (.int .i64 (fstI (fun o => sameB true o.path.data.toList p.data.toList) (l.take n))) ∧ Below w.heap.size w w' := by
  have h := find_any b off cap (l.take n) p true w (by simp; omega) (fun o ho => hs o (List.mem_of_mem_take ho)) hp hb (hc.take n)
  rw [show (l.take n).length = n by simp; omega] at h
  exact h

set_option maxHeartbeats 4000000 in
theorem entErrT_0 (b off cap : Nat) (l : List EntD) (e : EntD) (w : World) (hi : 0 < l.length) (hx : l[0] = e) (hl : l.length ≤ 2000000) (hcap : l.length ≤ cap) (hs : ∀ o ∈ l, o.small) (hb : b < w.heap.size) (hc : EntsAt w b off l) (h1 : fieldsB e = true) :
    Calls Tryz.prog 137 #[.slice (some ⟨b, off, none⟩) l.length cap, .int .i64 (0 : Nat), .bool true] w fun r w' => r = .returned (.int .i64 (entErr l 0 e true)) ∧ Below w.heap.size w w' := by
  have hcw := hc 0 hi
  rw [hx] at hcw
  have c0 := hcw 0 _ rfl
  have c1 := hcw 1 _ rfl
  have c2 := hcw 2 _ rfl
  have c3 := hcw 3 _ rfl
  have c4 := hcw 4 _ rfl
  simp only [Nat.add_zero, Nat.zero_mul] at c0 c1 c2 c3 c4
  clear hcw
  have hsm : e.small := hx ▸ hs _ (List.getElem_mem hi)
  unfold EntD.small at hsm
  have st := Eb.start w e
  have HFD : Hid (fstI (fun o : EntD => sameB true o.path.data.toList e.path.data.toList) (l.take 0) = -1) := rfl
  by_cases h2 : hasParB l e.path = true
  · have h3 : otherB (l.take 0) e = false := rfl
    have hv : entErr l 0 e true = 0 := by rw [entErr, h1, if_neg (by simp), if_neg (by simp), h2, if_neg (by simp), HFD.out, if_neg (by simp), h3, if_neg (by simp)]
    go_enter Tryz.func137, Tryz.ntmps137
    go_wp2_with (go_at_call 176; refine (fieldsFit_any e _).mono ?_; rintro r w1 ⟨rfl, hb1⟩; rw [h1]; have s1 := st.below hb1; have k0 := s1.cell 0; have k1 := s1.cell 1; have k2 := s1.cell 2; have k3 := s1.cell 3; have k4 := s1.cell 4; simp [EntD.cells] at k0 k1 k2 k3 k4)
    go_quiet (fail)
    have s1' := s1.drewN nq
    clear k0 k1 k2 k3 k4
    generalize w1.drewN nq = u1 at *
    have k0 := s1'.cell 0
    simp [EntD.cells] at k0
    go_wp2_with (go_at_call 178; refine (hasParent_any b off cap l _ _ hl hs hsm (by have := s1'.lt; omega) (hc.below s1'.bel hb)).mono ?_; rintro r w2 ⟨rfl, hb2⟩; rw [h2]; have s2 := s1'.below hb2)
    have e0 := s2.cell 0
    simp [EntD.cells] at e0
    go_region_held (fun u => u.cell? ⟨w.heap.size, 0, none⟩ = some (.string e.path)) (go_keep) (first | (go_at_call 155; refine (find_n b off cap 0 l e.path _ (by omega) hl hs hsm (by have := (s2.drewN 1).lt; omega) (hc.below (s2.drewN 1).bel hb)).mono ?_; rintro r u2 ⟨rfl, hb2'⟩; rw [HFD.out]; have s2' := (s2.drewN 1).below hb2'; have e1 := s2'.cell 0; simp [EntD.cells] at e1))
    all_goals (have k0 := s2'.cell 0; have k1 := s2'.cell 1; have k2 := s2'.cell 2; have k3 := s2'.cell 3; have k4 := s2'.cell 4; simp [EntD.cells] at k0 k1 k2 k3 k4)
    all_goals go_wp2
    all_goals go_region_held (fun u => u.cell? ⟨w.heap.size, 0, none⟩ = some (.string e.path) ∧ u.cell? ⟨w.heap.size, 1, none⟩ = some (.bool e.dir) ∧ u.cell? ⟨w.heap.size, 2, none⟩ = some (.int .i64 e.id) ∧ u.cell? ⟨w.heap.size, 3, none⟩ = some (.int .i64 e.size) ∧ u.cell? ⟨w.heap.size, 4, none⟩ = some (.int .i64 e.mode)) (go_keep) (first | (go_at_call 91; refine (hasOther_n b off cap 0 l e _ (by omega) hl (by have := s2'.drew.lt; omega) (hc.below s2'.drew.bel hb)).mono ?_; rintro r w' ⟨rfl, hb3⟩; rw [h3]; have s4 := s2'.drew.below hb3; have m0 := s4.cell 0; have m1 := s4.cell 1; have m2 := s4.cell 2; have m3 := s4.cell 3; have m4 := s4.cell 4; simp [EntD.cells] at m0 m1 m2 m3 m4))
    all_goals go_wp2
    all_goals go_ret
    all_goals exact ⟨by rw [hv]; rfl, s4.bel⟩
  · simp only [Bool.not_eq_true] at h2
    have hv : entErr l 0 e true = 2 := by rw [entErr, h1, if_neg (by simp), if_neg (by simp), if_pos h2]
    go_enter Tryz.func137, Tryz.ntmps137
    go_wp2_with (go_at_call 176; refine (fieldsFit_any e _).mono ?_; rintro r w1 ⟨rfl, hb1⟩; rw [h1]; have s1 := st.below hb1; have k0 := s1.cell 0; have k1 := s1.cell 1; have k2 := s1.cell 2; have k3 := s1.cell 3; have k4 := s1.cell 4; simp [EntD.cells] at k0 k1 k2 k3 k4)
    go_quiet (fail)
    have s1' := s1.drewN nq
    clear k0 k1 k2 k3 k4
    generalize w1.drewN nq = u1 at *
    have k0 := s1'.cell 0
    simp [EntD.cells] at k0
    go_wp2_with (go_at_call 178; refine (hasParent_any b off cap l _ _ hl hs hsm (by have := s1'.lt; omega) (hc.below s1'.bel hb)).mono ?_; rintro r w2 ⟨rfl, hb2⟩; rw [h2]; have s2 := s1'.below hb2)
    go_ret
    exact ⟨by rw [hv]; rfl, s2.bel⟩

set_option maxHeartbeats 8000000 in
theorem entErrT_pos (b off cap m : Nat) (l : List EntD) (o e : EntD) (w : World) (hi : m + 1 < l.length) (hy : l[m] = o) (hx : l[m + 1] = e) (hl : l.length ≤ 2000000) (hcap : l.length ≤ cap) (hs : ∀ o ∈ l, o.small) (hb : b < w.heap.size) (hc : EntsAt w b off l) (h1 : fieldsB e = true) :
    Calls Tryz.prog 137 #[.slice (some ⟨b, off, none⟩) l.length cap, .int .i64 (m + 1 : Nat), .bool true] w fun r w' => r = .returned (.int .i64 (entErr l (m + 1) e true)) ∧ Below w.heap.size w w' := by
  have hcw := hc (m + 1) hi
  rw [hx] at hcw
  have c0 := hcw 0 _ rfl
  have c1 := hcw 1 _ rfl
  have c2 := hcw 2 _ rfl
  have c3 := hcw 3 _ rfl
  have c4 := hcw 4 _ rfl
  simp only [Nat.add_zero] at c0
  clear hcw
  have hsm : e.small := hx ▸ hs _ (List.getElem_mem hi)
  have hso : o.small := hy ▸ hs _ (List.getElem_mem (by omega))
  unfold EntD.small at hsm hso
  have hpv : (l[m + 1 - 1]?.map (·.path.data.toList)).getD [] = o.path.data.toList := by
    rw [show m + 1 - 1 = m by omega, List.getElem?_eq_getElem (by omega : m < l.length), hy]; rfl
  have st := Eb.start w e
  by_cases hcm : 0 ≤ cmpL o.path.data.toList e.path.data.toList
  · have hv : entErr l (m + 1) e true = 3 := by rw [entErr, h1, if_neg (by simp), hpv, if_pos ⟨by omega, hcm⟩]
    go_enter Tryz.func137, Tryz.ntmps137
    go_wp2_with (go_at_call 176; refine (fieldsFit_any e _).mono ?_; rintro r w1 ⟨rfl, hb1⟩; rw [h1]; have s1 := st.below hb1; have k0 := s1.cell 0; simp [EntD.cells] at k0; have p0 := (hc.below s1.bel hb) m (by omega) 0 _ rfl; simp only [Nat.add_zero] at p0; rw [hy] at p0)
    go_quiet (first | (go_at_call 177; exact Calls.quiet_of (compare_any _ _ _ (by omega) (by omega))))
    have s1' := s1.drewN nq
    clear k0 p0
    generalize w1.drewN nq = u1 at *
    have k0 := s1'.cell 0
    simp [EntD.cells] at k0
    go_wp2
    go_ret
    exact ⟨by rw [hv]; rfl, s1'.bel⟩
  · by_cases h2 : hasParB l e.path = true
    · rcases fstI_find (fun o : EntD => sameB true o.path.data.toList e.path.data.toList) (l.take (m + 1)) with ⟨hf, _⟩ | ⟨j, hj, hf, _⟩
      · have HFD := hidD hf
        clear hf
        cases h3 : otherB (l.take (m + 1)) e
        · have hv : entErr l (m + 1) e true = 0 := by rw [entErr, h1, if_neg (by simp), hpv, if_neg (by omega), h2, if_neg (by simp), HFD.out, if_neg (by simp), h3, if_neg (by simp)]
          go_enter Tryz.func137, Tryz.ntmps137
          go_wp2_with (go_at_call 176; refine (fieldsFit_any e _).mono ?_; rintro r w1 ⟨rfl, hb1⟩; rw [h1]; have s1 := st.below hb1; have k0 := s1.cell 0; simp [EntD.cells] at k0; have p0 := (hc.below s1.bel hb) m (by omega) 0 _ rfl; simp only [Nat.add_zero] at p0; rw [hy] at p0)
          go_quiet (first | (go_at_call 177; exact Calls.quiet_of (compare_any _ _ _ (by omega) (by omega))))
          have s1' := s1.drewN nq
          clear k0 p0
          generalize w1.drewN nq = u1 at *
          have k0 := s1'.cell 0
          simp [EntD.cells] at k0
          go_wp2_with (go_at_call 178; refine (hasParent_any b off cap l _ _ hl hs hsm (by have := s1'.lt; omega) (hc.below s1'.bel hb)).mono ?_; rintro r w2 ⟨rfl, hb2⟩; rw [h2]; have s2 := s1'.below hb2)
          have e0 := s2.cell 0
          simp [EntD.cells] at e0
          go_region_held (fun u => u.cell? ⟨w.heap.size, 0, none⟩ = some (.string e.path)) (go_keep) (first | (go_at_call 155; refine (find_n b off cap (m + 1) l e.path _ (by omega) hl hs hsm (by have := (s2.drewN 1).lt; omega) (hc.below (s2.drewN 1).bel hb)).mono ?_; rintro r u2 ⟨rfl, hb2'⟩; rw [HFD.out]; have s2' := (s2.drewN 1).below hb2'; have e1 := s2'.cell 0; simp [EntD.cells] at e1))
          all_goals (have k0 := s2'.cell 0; have k1 := s2'.cell 1; have k2 := s2'.cell 2; have k3 := s2'.cell 3; have k4 := s2'.cell 4; simp [EntD.cells] at k0 k1 k2 k3 k4)
          all_goals go_wp2
          all_goals go_region_held (fun u => u.cell? ⟨w.heap.size, 0, none⟩ = some (.string e.path) ∧ u.cell? ⟨w.heap.size, 1, none⟩ = some (.bool e.dir) ∧ u.cell? ⟨w.heap.size, 2, none⟩ = some (.int .i64 e.id) ∧ u.cell? ⟨w.heap.size, 3, none⟩ = some (.int .i64 e.size) ∧ u.cell? ⟨w.heap.size, 4, none⟩ = some (.int .i64 e.mode)) (go_keep) (first | (go_at_call 91; refine (hasOther_n b off cap (m + 1) l e _ (by omega) hl (by have := s2'.drew.lt; omega) (hc.below s2'.drew.bel hb)).mono ?_; rintro r w' ⟨rfl, hb3⟩; rw [h3]; have s4 := s2'.drew.below hb3; have m0 := s4.cell 0; have m1 := s4.cell 1; have m2 := s4.cell 2; have m3 := s4.cell 3; have m4 := s4.cell 4; simp [EntD.cells] at m0 m1 m2 m3 m4))
          all_goals go_wp2
          all_goals go_ret
          all_goals exact ⟨by rw [hv]; rfl, s4.bel⟩
        · have hv : entErr l (m + 1) e true = 6 := by rw [entErr, h1, if_neg (by simp), hpv, if_neg (by omega), h2, if_neg (by simp), HFD.out, if_neg (by simp), if_pos h3]
          go_enter Tryz.func137, Tryz.ntmps137
          go_wp2_with (go_at_call 176; refine (fieldsFit_any e _).mono ?_; rintro r w1 ⟨rfl, hb1⟩; rw [h1]; have s1 := st.below hb1; have k0 := s1.cell 0; simp [EntD.cells] at k0; have p0 := (hc.below s1.bel hb) m (by omega) 0 _ rfl; simp only [Nat.add_zero] at p0; rw [hy] at p0)
          go_quiet (first | (go_at_call 177; exact Calls.quiet_of (compare_any _ _ _ (by omega) (by omega))))
          have s1' := s1.drewN nq
          clear k0 p0
          generalize w1.drewN nq = u1 at *
          have k0 := s1'.cell 0
          simp [EntD.cells] at k0
          go_wp2_with (go_at_call 178; refine (hasParent_any b off cap l _ _ hl hs hsm (by have := s1'.lt; omega) (hc.below s1'.bel hb)).mono ?_; rintro r w2 ⟨rfl, hb2⟩; rw [h2]; have s2 := s1'.below hb2)
          have e0 := s2.cell 0
          simp [EntD.cells] at e0
          go_region_held (fun u => u.cell? ⟨w.heap.size, 0, none⟩ = some (.string e.path)) (go_keep) (first | (go_at_call 155; refine (find_n b off cap (m + 1) l e.path _ (by omega) hl hs hsm (by have := (s2.drewN 1).lt; omega) (hc.below (s2.drewN 1).bel hb)).mono ?_; rintro r u2 ⟨rfl, hb2'⟩; rw [HFD.out]; have s2' := (s2.drewN 1).below hb2'; have e1 := s2'.cell 0; simp [EntD.cells] at e1))
          all_goals (have k0 := s2'.cell 0; have k1 := s2'.cell 1; have k2 := s2'.cell 2; have k3 := s2'.cell 3; have k4 := s2'.cell 4; simp [EntD.cells] at k0 k1 k2 k3 k4)
          all_goals go_wp2
          all_goals go_region_held (fun u => u.cell? ⟨w.heap.size, 0, none⟩ = some (.string e.path) ∧ u.cell? ⟨w.heap.size, 1, none⟩ = some (.bool e.dir) ∧ u.cell? ⟨w.heap.size, 2, none⟩ = some (.int .i64 e.id) ∧ u.cell? ⟨w.heap.size, 3, none⟩ = some (.int .i64 e.size) ∧ u.cell? ⟨w.heap.size, 4, none⟩ = some (.int .i64 e.mode)) (go_keep) (first | (go_at_call 91; refine (hasOther_n b off cap (m + 1) l e _ (by omega) hl (by have := s2'.drew.lt; omega) (hc.below s2'.drew.bel hb)).mono ?_; rintro r w' ⟨rfl, hb3⟩; rw [h3]; have s4 := s2'.drew.below hb3; have m0 := s4.cell 0; have m1 := s4.cell 1; have m2 := s4.cell 2; have m3 := s4.cell 3; have m4 := s4.cell 4; simp [EntD.cells] at m0 m1 m2 m3 m4))
          all_goals go_wp2
          all_goals go_ret
          all_goals exact ⟨by rw [hv]; rfl, s4.bel⟩
      · have HFD := hidD hf
        have hv : entErr l (m + 1) e true = 8 := by rw [entErr, h1, if_neg (by simp), hpv, if_neg (by omega), h2, if_neg (by simp), hf, if_pos ⟨rfl, by omega⟩]
        clear hf
        go_enter Tryz.func137, Tryz.ntmps137
        go_wp2_with (go_at_call 176; refine (fieldsFit_any e _).mono ?_; rintro r w1 ⟨rfl, hb1⟩; rw [h1]; have s1 := st.below hb1; have k0 := s1.cell 0; simp [EntD.cells] at k0; have p0 := (hc.below s1.bel hb) m (by omega) 0 _ rfl; simp only [Nat.add_zero] at p0; rw [hy] at p0)
        go_quiet (first | (go_at_call 177; exact Calls.quiet_of (compare_any _ _ _ (by omega) (by omega))))
        have s1' := s1.drewN nq
        clear k0 p0
        generalize w1.drewN nq = u1 at *
        have k0 := s1'.cell 0
        simp [EntD.cells] at k0
        go_wp2_with (go_at_call 178; refine (hasParent_any b off cap l _ _ hl hs hsm (by have := s1'.lt; omega) (hc.below s1'.bel hb)).mono ?_; rintro r w2 ⟨rfl, hb2⟩; rw [h2]; have s2 := s1'.below hb2)
        have e0 := s2.cell 0
        simp [EntD.cells] at e0
        go_region_held (fun u => u.cell? ⟨w.heap.size, 0, none⟩ = some (.string e.path)) (go_keep) (first | (go_at_call 155; refine (find_n b off cap (m + 1) l e.path _ (by omega) hl hs hsm (by have := (s2.drewN 1).lt; omega) (hc.below (s2.drewN 1).bel hb)).mono ?_; rintro r u2 ⟨rfl, hb2'⟩; rw [HFD.out]; have s2' := (s2.drewN 1).below hb2'; have e1 := s2'.cell 0; simp [EntD.cells] at e1))
        all_goals (have k0 := s2'.cell 0; have k1 := s2'.cell 1; have k2 := s2'.cell 2; have k3 := s2'.cell 3; have k4 := s2'.cell 4; simp [EntD.cells] at k0 k1 k2 k3 k4)
        all_goals go_wp2
        all_goals go_ret
        all_goals exact ⟨by rw [hv]; rfl, s2'.bel⟩
    · simp only [Bool.not_eq_true] at h2
      have hv : entErr l (m + 1) e true = 2 := by rw [entErr, h1, if_neg (by simp), hpv, if_neg (by omega), if_pos h2]
      go_enter Tryz.func137, Tryz.ntmps137
      go_wp2_with (go_at_call 176; refine (fieldsFit_any e _).mono ?_; rintro r w1 ⟨rfl, hb1⟩; rw [h1]; have s1 := st.below hb1; have k0 := s1.cell 0; simp [EntD.cells] at k0; have p0 := (hc.below s1.bel hb) m (by omega) 0 _ rfl; simp only [Nat.add_zero] at p0; rw [hy] at p0)
      go_quiet (first | (go_at_call 177; exact Calls.quiet_of (compare_any _ _ _ (by omega) (by omega))))
      have s1' := s1.drewN nq
      clear k0 p0
      generalize w1.drewN nq = u1 at *
      have k0 := s1'.cell 0
      simp [EntD.cells] at k0
      go_wp2_with (go_at_call 178; refine (hasParent_any b off cap l _ _ hl hs hsm (by have := s1'.lt; omega) (hc.below s1'.bel hb)).mono ?_; rintro r w2 ⟨rfl, hb2⟩; rw [h2]; have s2 := s1'.below hb2)
      go_ret
      exact ⟨by rw [hv]; rfl, s2.bel⟩

theorem entErrT_any (b off cap : Nat) (l : List EntD) (i : Nat) (e : EntD) (w : World) (hi : i < l.length) (hx : l[i] = e) (hl : l.length ≤ 2000000) (hcap : l.length ≤ cap) (hs : ∀ o ∈ l, o.small) (hb : b < w.heap.size) (hc : EntsAt w b off l) :
    Calls Tryz.prog 137 #[.slice (some ⟨b, off, none⟩) l.length cap, .int .i64 i, .bool true] w fun r w' => r = .returned (.int .i64 (entErr l i e true)) ∧ Below w.heap.size w w' := by
  by_cases h1 : fieldsB e = true
  · cases i with
    | zero => exact entErrT_0 b off cap l e w hi hx hl hcap hs hb hc h1
    | succ m => exact entErrT_pos b off cap m l _ e w hi rfl hx hl hcap hs hb hc h1
  · exact entryError_bad b off cap l i e true w hi hx hl hb hc (by simpa using h1)

def chkAtT (l : List EntD) (i : Nat) (e : EntD) : Int := if pathL e.path.data.toList = false then 1 else entErr l i e true
def chkGoT (l : List EntD) : List EntD → Nat → Int × Int
  | [], _ => (0, 0)
  | e :: t, i => if chkAtT l i e = 0 then chkGoT l t (i + 1) else (chkAtT l i e, i)
def chkPT (l : List EntD) : Int × Int := if 60 < l.length then (5, 0) else chkGoT l l 0
theorem chkGoT_at (l : List EntD) (k : Nat) (h : k < l.length) : chkGoT l (l.drop k) k = if chkAtT l k l[k] = 0 then chkGoT l (l.drop (k + 1)) (k + 1) else (chkAtT l k l[k], (k : Int)) := by
  rw [List.drop_eq_getElem_cons h, chkGoT]

set_option maxHeartbeats 2000000 in
theorem checkT_any (b off cap : Nat) (l : List EntD) (w : World) (hl : l.length ≤ 2000000) (hcap : l.length ≤ cap) (hs : ∀ o ∈ l, o.small) (hb : b < w.heap.size) (hc : EntsAt w b off l) :
    Calls Tryz.prog 89 #[.slice (some ⟨b, off, none⟩) l.length cap, .bool true, .int .i64 60, .func (.func 90) #[] #[]] w fun e w' => e = .returned (.tuple #[.int .i64 (chkPT l).1, .int .i64 (chkPT l).2]) ∧ Below w.heap.size w w' := by
  by_cases h6 : (60 : Int) < l.length
  · have hv : chkPT l = (5, 0) := by rw [chkPT, if_pos (by omega)]
    rw [hv]
    go_enter Tryz.func89, Tryz.ntmps89
    go_wp2
    go_ret2
    exact ⟨rfl, Below.refl _ _⟩
  · have hv : chkPT l = chkGoT l l 0 := by rw [chkPT, if_neg (by omega)]
    rw [hv]
    go_enter Tryz.func89, Tryz.ntmps89
    go_wp2
    go_loopw [18] (fun i wr => ∃ k : Nat, k ≤ l.length ∧ i = .int .i64 k ∧ chkGoT l l 0 = chkGoT l (l.drop k) k ∧ Below w.heap.size w wr) (fun i _ => l.length - (intOf i).toNat)
    case atStart => exact ⟨0, Nat.zero_le _, rfl, rfl, Below.refl _ _⟩
    case round =>
      obtain ⟨k, hk, rfl, hd, hbw⟩ := hrel
      have HD : Hid (chkGoT l l 0 = chkGoT l (l.drop k) k) := hd
      clear hd
      have hbs := hbw.size
      by_cases hlt : k < l.length
      · have HSN := chkGoT_at l k hlt
        have hcw := (hc.below hbw hb) k hlt
        have hsm := hs _ (List.getElem_mem hlt)
        generalize hx : l[k] = o at *
        have HS : Hid (chkGoT l (l.drop k) k = if chkAtT l k o = 0 then chkGoT l (l.drop (k + 1)) (k + 1) else (chkAtT l k o, (k : Int))) := HSN
        clear HSN
        have c0 := hcw 0 _ rfl
        have c1 := hcw 1 _ rfl
        have c2 := hcw 2 _ rfl
        have c3 := hcw 3 _ rfl
        have c4 := hcw 4 _ rfl
        simp only [Nat.add_zero] at c0
        clear hcw
        by_cases hn : pathL o.path.data.toList = true
        · have hA : chkAtT l k o = entErr l k o true := by rw [chkAtT, hn, if_neg (by simp)]
          by_cases he : entErr l k o true = 0
          · go_wp2_with (first | (go_at_call 90; refine (isNamed_any o _ hsm).mono ?_; rintro e w1 ⟨rfl, hb1⟩; rw [hn]) | (go_at_call 137; refine (entErrT_any b off cap l k o _ hlt hx hl hcap hs (by have := hb1.size; omega) (hc.below (hbw.trans (hb1.mono hbs)) hb)).mono ?_; rintro e w2 ⟨rfl, hb2⟩; rw [he]))
            have hb3 := (hbw.trans (hb1.mono hbs)).trans (hb2.mono (by have := hb1.size; omega))
            exact ⟨⟨k + 1, by omega, by go_num, by rw [HD.out, HS.out, hA, if_pos he], hb3⟩, by simp [intOf]; omega⟩
          · have he' : (entErr l k o true != 0) = true := by simpa using he
            go_wp2_with (first | (go_at_call 90; refine (isNamed_any o _ hsm).mono ?_; rintro e w1 ⟨rfl, hb1⟩; rw [hn]) | (go_at_call 137; refine (entErrT_any b off cap l k o _ hlt hx hl hcap hs (by have := hb1.size; omega) (hc.below (hbw.trans (hb1.mono hbs)) hb)).mono ?_; rintro e w2 ⟨rfl, hb2⟩))
            go_ret2
            have hb3 := (hbw.trans (hb1.mono hbs)).trans (hb2.mono (by have := hb1.size; omega))
            refine ⟨?_, hb3⟩
            rw [HD.out, HS.out, hA, if_neg he]; rfl
        · simp only [Bool.not_eq_true] at hn
          have hA : chkAtT l k o = 1 := by rw [chkAtT, if_pos hn]
          go_wp2_with (go_at_call 90; refine (isNamed_any o _ hsm).mono ?_; rintro e w1 ⟨rfl, hb1⟩; rw [hn])
          go_ret2
          refine ⟨?_, hbw.trans (hb1.mono hbs)⟩
          rw [HD.out, HS.out, hA, if_neg (by omega)]; rfl
      · go_wp2
        go_ret2
        refine ⟨?_, hbw⟩
        rw [HD.out, List.drop_of_length_le (by omega), chkGoT]; rfl

set_option maxHeartbeats 1000000 in
theorem checkT_nil (w : World) :
    Calls Tryz.prog 89 #[.slice none 0 0, .bool true, .int .i64 60, .func (.func 90) #[] #[]] w fun e w' => e = .returned (.tuple #[.int .i64 0, .int .i64 0]) ∧ w' = w := by
  go_enter Tryz.func89, Tryz.ntmps89
  go_wp2
  refine wp_loop_rounds 1 ?_
  rw [rounds_succ]
  go_wp2
  go_ret2
  exact ⟨rfl, rfl⟩

set_option maxHeartbeats 1000000 in
theorem treesCheckT_any (b off cap : Nat) (l : List EntD) (w : World) (hl : l.length ≤ 2000000) (hcap : l.length ≤ cap) (hs : ∀ o ∈ l, o.small) (hb : b < w.heap.size) (hc : EntsAt w b off l) :
    Calls Tryz.prog 56 #[.slice (some ⟨b, off, none⟩) l.length cap, .bool true] w fun e w' => e = .returned (.tuple #[.int .i64 (chkPT l).1, .int .i64 (chkPT l).2]) ∧ Below w.heap.size w w' := by
  go_enter Tryz.func56, Tryz.ntmps56
  go_wp2_with (go_at_call 89; refine (checkT_any b off cap l _ hl hcap hs hb hc).mono ?_; rintro e w1 ⟨rfl, hb1⟩)
  go_ret2
  exact ⟨rfl, hb1⟩
set_option maxHeartbeats 1000000 in
theorem treesCheckT_nil (w : World) :
    Calls Tryz.prog 56 #[.slice none 0 0, .bool true] w fun e w' => e = .returned (.tuple #[.int .i64 0, .int .i64 0]) ∧ w' = w := by
  go_enter Tryz.func56, Tryz.ntmps56
  go_wp2_with (go_at_call 89; refine (checkT_nil _).mono ?_; rintro e w1 ⟨rfl, rfl⟩)
  go_ret2
  exact ⟨rfl, rfl⟩

def treeBT (l : List EntD) : Bool := (chkPT l).1 == 0
end Go.Proofs.YtpjjagalekolaaaGreatDoor

