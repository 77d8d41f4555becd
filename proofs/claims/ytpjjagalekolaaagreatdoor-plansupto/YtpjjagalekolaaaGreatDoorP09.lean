/- CC, CD, CE: in one text. -/
import Derived.Test.YtpjjagalekolaaaGreatDoorP08
import Derived.Deep.RegionHeld
import Derived.Deep.Cut
/- One entry behind others: the program's look at it. -/
namespace Go.Proofs.YtpjjagalekolaaaGreatDoor
open Go.RowKit
set_option linter.unusedVariables false
set_option linter.unusedSimpArgs false

def hasParB (l : List EntD) (p : ByteArray) : Bool :=
  if (parentB p).toList == [] then true
  else match l.find? (fun o => sameB false o.path.data.toList (parentB p).data.toList) with
    | some o => o.dir
    | none => false

theorem fstI_find (pr : EntD → Bool) (l : List EntD) : (fstI pr l = -1 ∧ l.find? pr = none) ∨ ∃ (i : Nat) (h : i < l.length), fstI pr l = i ∧ l.find? pr = some l[i] := by
  by_cases ha : l.any pr = true
  · right
    have hlt : l.findIdx pr < l.length := by rw [List.findIdx_lt_length]; simpa using ha
    refine ⟨l.findIdx pr, hlt, by rw [fstI, if_pos ha], ?_⟩
    rw [List.find?_eq_some_iff_getElem]
    exact ⟨List.findIdx_getElem (w := hlt), l.findIdx pr, hlt, rfl, fun j hj => by simpa using List.not_of_lt_findIdx hj⟩
  · left
    have ha' : l.any pr = false := by simpa using ha
    refine ⟨fstI_none pr l ha', ?_⟩
    rw [List.find?_eq_none]
    intro x hx
    rw [List.any_eq_false] at ha'
    simpa using ha' x hx

theorem lastIdx_le (s : ByteArray) : Lib.lastIndexByte s 47 ≤ s.size := by
  rcases Lib.lastIndexByte_spec s 47 with h | ⟨i, hi, h, _⟩
  · rw [h.1]; omega
  · rw [h]; omega
theorem parentB_small (s : ByteArray) : (parentB s).size ≤ s.size := by
  unfold parentB
  split
  · exact Nat.zero_le _
  · simp; omega

set_option maxHeartbeats 1000000 in
theorem hasParent_any (b off cap : Nat) (l : List EntD) (p : ByteArray) (w : World) (hl : l.length ≤ 2000000) (hs : ∀ o ∈ l, o.small) (hp : p.size ≤ 1500000) (hb : b < w.heap.size) (hc : EntsAt w b off l) :
    Calls Tryz.prog 178 #[.slice (some ⟨b, off, none⟩) l.length cap, .string p] w fun e w' => e = .returned (.bool (hasParB l p)) ∧ Below w.heap.size w w' := by
  by_cases h0 : ((parentB p).toList == []) = true
  · have hv : hasParB l p = true := by rw [hasParB, if_pos h0]
    go_enter Tryz.func178, Tryz.ntmps178
    go_wp2_with (go_at_call 156; refine (parent_any _ _ (by omega) (lastIdx_le _)).mono ?_; rintro e w1 ⟨rfl, rfl⟩)
    go_ret
    exact ⟨ret_bool hv.symm, Below.refl _ _⟩
  · simp only [Bool.not_eq_true] at h0
    have hps : (parentB p).size ≤ 1500000 := by have := parentB_small p; omega
    rcases fstI_find (fun o => sameB false o.path.data.toList (parentB p).data.toList) l with ⟨hi, hf⟩ | ⟨i, hlt, hi, hf⟩
    · have hv : hasParB l p = false := by rw [hasParB, h0, if_neg (by simp), hf]
      go_enter Tryz.func178, Tryz.ntmps178
      go_wp2_with (first | (go_at_call 156; refine (parent_any _ _ (by omega) (lastIdx_le _)).mono ?_; rintro e w1 ⟨rfl, rfl⟩) | (go_at_call 155; refine (find_any b off cap l _ _ _ hl hs hps hb hc).mono ?_; rintro e w2 ⟨rfl, hb2⟩; rw [hi]))
      go_ret
      exact ⟨ret_bool hv.symm, hb2⟩
    · have hv : hasParB l p = l[i].dir := by rw [hasParB, h0, if_neg (by simp), hf]
      have hcell : Hid (∀ u : World, Below w.heap.size w u → u.cell? ⟨b, off + i * 5 + 1, none⟩ = some (.bool l[i].dir)) := fun u hu => (hc.below hu hb) i hlt 1 _ rfl
      go_enter Tryz.func178, Tryz.ntmps178
      go_wp2_with (first | (go_at_call 156; refine (parent_any _ _ (by omega) (lastIdx_le _)).mono ?_; rintro e w1 ⟨rfl, rfl⟩) | (go_at_call 155; refine (find_any b off cap l _ _ _ hl hs hps hb hc).mono ?_; rintro e w2 ⟨rfl, hb2⟩; rw [hi]; have k1 := hcell.out w2 hb2))
      go_ret
      exact ⟨ret_bool hv.symm, hb2⟩

set_option maxHeartbeats 1000000 in
theorem isNamed_any (o : EntD) (w : World) (ho : o.small) :
    Calls Tryz.prog 90 #[.agg #[.string o.path, .bool o.dir, .int .i64 o.id, .int .i64 o.size, .int .i64 o.mode]] w fun e w' => e = .returned (.bool (pathL o.path.data.toList)) ∧ Below w.heap.size w w' := by
  have hb : ∀ ob, Below w.heap.size w (w.alloc ob) := fun ob => (Below.refl _ _).alloc (Nat.le_refl _) ob
  go_enter Tryz.func90, Tryz.ntmps90
  go_wp2_with (go_at_call 138; refine (isPath_in _ _ ho).mono ?_; rintro e w1 ⟨rfl, hb1⟩)
  go_ret
  exact ⟨rfl, (hb _).trans (hb1.mono (by simp))⟩

/-- What is wrong with entry i: the first thing; 0: nothing. -/
def entErr (l : List EntD) (i : Nat) (e : EntD) (fold : Bool) : Int :=
  if fieldsB e = false then 4
  else if 0 < i ∧ 0 ≤ cmpL ((l[i - 1]?.map (·.path.data.toList)).getD []) e.path.data.toList then 3
  else if hasParB l e.path = false then 2
  else if fold = true ∧ 0 ≤ fstI (fun o => sameB true o.path.data.toList e.path.data.toList) (l.take i) then 8
  else if otherB (l.take i) e = true then 6 else 0

/-- The entry's own box, and what was there ahead of the call. -/
structure Eb (w : World) (e : EntD) (u : World) : Prop where
  bel : Below w.heap.size w u
  box : u.heap[w.heap.size]? = some (.cells e.cells.toArray 56 (0, 0))
theorem Eb.start (w : World) (e : EntD) : Eb w e (w.alloc (.cells e.cells.toArray 56)) := ⟨(Below.refl _ _).alloc (Nat.le_refl _) _, heap_alloc_new w _⟩
theorem Eb.below {w u u' : World} {e : EntD} (h : Eb w e u) (hb : Below u.heap.size u u') : Eb w e u' :=
  ⟨h.bel.trans (hb.mono h.bel.size), (hb.block _ (Array.getElem?_eq_some_iff.1 h.box).1).trans h.box⟩
theorem Eb.cell {w u : World} {e : EntD} (h : Eb w e u) (j : Nat) : u.cell? ⟨w.heap.size, j, none⟩ = e.cells[j]? := by
  rw [Lib.cell_of_heap h.box]; simp
theorem Eb.lt {w u : World} {e : EntD} (h : Eb w e u) : w.heap.size < u.heap.size := (Array.getElem?_eq_some_iff.1 h.box).1

theorem hasOther_n (b off cap n : Nat) (l : List EntD) (e : EntD) (w : World) (hn : n ≤ l.length) (hl : l.length ≤ 2000000) (hb : b < w.heap.size) (hc : EntsAt w b off l) :
    Calls Tryz.prog 91 #[.slice (some ⟨b, off, none⟩) n cap, .agg #[.string e.path, .bool e.dir, .int .i64 e.id, .int .i64 e.size, .int .i64 e.mode]] w fun r w' => r = .returned (.bool (otherB (l.take n) e)) ∧ Below w.heap.size w w' := by
  have h := hasOther_any b off cap (l.take n) e w (by simp; omega) hb (hc.take n)
  rw [show (l.take n).length = n by simp; omega] at h
  exact h
theorem Eb.drewN {w u : World} {e : EntD} (h : Eb w e u) (n : Nat) : Eb w e (u.drewN n) := ⟨h.bel.trans ⟨rfl, rfl, rfl, Nat.le_refl _, fun _ _ => rfl⟩, h.box⟩
theorem Eb.drew {w u : World} {e : EntD} (h : Eb w e u) : Eb w e u.drew := ⟨h.bel.trans ⟨rfl, rfl, rfl, Nat.le_refl _, fun _ _ => rfl⟩, h.box⟩

set_option maxHeartbeats 2000000 in
theorem entryError_bad (b off cap : Nat) (l : List EntD) (i : Nat) (e : EntD) (fold : Bool) (w : World) (hi : i < l.length) (hx : l[i] = e) (hl : l.length ≤ 2000000) (hb : b < w.heap.size) (hc : EntsAt w b off l) (h1 : fieldsB e = false) :
    Calls Tryz.prog 137 #[.slice (some ⟨b, off, none⟩) l.length cap, .int .i64 i, .bool fold] w fun r w' => r = .returned (.int .i64 (entErr l i e fold)) ∧ Below w.heap.size w w' := by
  have hcw := hc i hi
  rw [hx] at hcw
  have c0 := hcw 0 _ rfl
  have c1 := hcw 1 _ rfl
  have c2 := hcw 2 _ rfl
  have c3 := hcw 3 _ rfl
  have c4 := hcw 4 _ rfl
  simp only [Nat.add_zero] at c0
  clear hcw
  have st := Eb.start w e
  have hv : entErr l i e fold = 4 := by rw [entErr, if_pos h1]
  go_enter Tryz.func137, Tryz.ntmps137
  go_wp2_with (go_at_call 176; refine (fieldsFit_any e _).mono ?_; rintro r w1 ⟨rfl, hb1⟩; rw [h1])
  go_ret
  exact ⟨by rw [hv]; rfl, (st.below hb1).bel⟩

set_option maxHeartbeats 2000000 in
theorem entryError_0 (b off cap : Nat) (l : List EntD) (e : EntD) (w : World) (hi : 0 < l.length) (hx : l[0] = e) (hl : l.length ≤ 2000000) (hcap : l.length ≤ cap) (hs : ∀ o ∈ l, o.small) (hb : b < w.heap.size) (hc : EntsAt w b off l) (h1 : fieldsB e = true) :
    Calls Tryz.prog 137 #[.slice (some ⟨b, off, none⟩) l.length cap, .int .i64 (0 : Nat), .bool false] w fun r w' => r = .returned (.int .i64 (entErr l 0 e false)) ∧ Below w.heap.size w w' := by
  have hcw := hc 0 hi
  rw [hx] at hcw
  have c0 := hcw 0 _ rfl
  have c1 := hcw 1 _ rfl
  have c2 := hcw 2 _ rfl
  have c3 := hcw 3 _ rfl
  have c4 := hcw 4 _ rfl
  simp only [Nat.add_zero, Nat.zero_mul] at c0 c1 c2 c3 c4
  clear hcw
  have hsm : e.small := hx ▸ hs _ (List.getElem_mem hi)
  have st := Eb.start w e
  by_cases h2 : hasParB l e.path = true
  · have h3 : otherB (l.take 0) e = false := rfl
    have hv : entErr l 0 e false = 0 := by rw [entErr, h1, if_neg (by simp), if_neg (by simp), h2, if_neg (by simp), if_neg (by simp), h3, if_neg (by simp)]
    go_enter Tryz.func137, Tryz.ntmps137
    go_wp2_with (go_at_call 176; refine (fieldsFit_any e _).mono ?_; rintro r w1 ⟨rfl, hb1⟩; rw [h1]; have s1 := st.below hb1; have k0 := s1.cell 0; have k1 := s1.cell 1; have k2 := s1.cell 2; have k3 := s1.cell 3; have k4 := s1.cell 4; simp [EntD.cells] at k0 k1 k2 k3 k4)
    go_quiet (fail)
    have s1' := s1.drewN nq
    clear k0 k1 k2 k3 k4
    generalize w1.drewN nq = u1 at *
    have k0 := s1'.cell 0
    simp [EntD.cells] at k0
    go_wp2_with (go_at_call 178; refine (hasParent_any b off cap l _ _ hl hs hsm (by have := s1'.lt; omega) (hc.below s1'.bel hb)).mono ?_; rintro r w2 ⟨rfl, hb2⟩; rw [h2]; have s2 := s1'.below hb2)
    go_quiet (fail)
    have s2' := s2.drewN nq
    generalize w2.drewN nq = u2 at *
    have k0 := s2'.cell 0
    have k1 := s2'.cell 1
    have k2 := s2'.cell 2
    have k3 := s2'.cell 3
    have k4 := s2'.cell 4
    simp [EntD.cells] at k0 k1 k2 k3 k4
    go_wp2
    go_region_held (fun u => u.cell? ⟨w.heap.size, 0, none⟩ = some (.string e.path) ∧ u.cell? ⟨w.heap.size, 1, none⟩ = some (.bool e.dir) ∧ u.cell? ⟨w.heap.size, 2, none⟩ = some (.int .i64 e.id) ∧ u.cell? ⟨w.heap.size, 3, none⟩ = some (.int .i64 e.size) ∧ u.cell? ⟨w.heap.size, 4, none⟩ = some (.int .i64 e.mode)) (go_keep) (first | (go_at_call 91; refine (hasOther_n b off cap 0 l e _ (by omega) hl (by have := s2'.drew.lt; omega) (hc.below s2'.drew.bel hb)).mono ?_; rintro r w' ⟨rfl, hb3⟩; rw [h3]; have s4 := s2'.drew.below hb3; have m0 := s4.cell 0; have m1 := s4.cell 1; have m2 := s4.cell 2; have m3 := s4.cell 3; have m4 := s4.cell 4; simp [EntD.cells] at m0 m1 m2 m3 m4))
    all_goals
      go_wp2
      go_ret
      exact ⟨by rw [hv]; rfl, s4.bel⟩
  · simp only [Bool.not_eq_true] at h2
    have hv : entErr l 0 e false = 2 := by rw [entErr, h1, if_neg (by simp), if_neg (by simp), if_pos h2]
    go_enter Tryz.func137, Tryz.ntmps137
    go_wp2_with (go_at_call 176; refine (fieldsFit_any e _).mono ?_; rintro r w1 ⟨rfl, hb1⟩; rw [h1]; have s1 := st.below hb1; have k0 := s1.cell 0; have k1 := s1.cell 1; have k2 := s1.cell 2; have k3 := s1.cell 3; have k4 := s1.cell 4; simp [EntD.cells] at k0 k1 k2 k3 k4)
    go_quiet (fail)
    have s1' := s1.drewN nq
    clear k0 k1 k2 k3 k4
    generalize w1.drewN nq = u1 at *
    have k0 := s1'.cell 0
    simp [EntD.cells] at k0
    go_wp2_with (go_at_call 178; refine (hasParent_any b off cap l _ _ hl hs hsm (by have := s1'.lt; omega) (hc.below s1'.bel hb)).mono ?_; rintro r w2 ⟨rfl, hb2⟩; rw [h2]; have s2 := s1'.below hb2)
    go_ret
    exact ⟨by rw [hv]; rfl, s2.bel⟩

set_option maxHeartbeats 4000000 in
theorem entryError_pos (b off cap m : Nat) (l : List EntD) (o e : EntD) (w : World) (hi : m + 1 < l.length) (hy : l[m] = o) (hx : l[m + 1] = e) (hl : l.length ≤ 2000000) (hcap : l.length ≤ cap) (hs : ∀ o ∈ l, o.small) (hb : b < w.heap.size) (hc : EntsAt w b off l) (h1 : fieldsB e = true) :
    Calls Tryz.prog 137 #[.slice (some ⟨b, off, none⟩) l.length cap, .int .i64 (m + 1 : Nat), .bool false] w fun r w' => r = .returned (.int .i64 (entErr l (m + 1) e false)) ∧ Below w.heap.size w w' := by
  have hcw := hc (m + 1) hi
  rw [hx] at hcw
  have c0 := hcw 0 _ rfl
  have c1 := hcw 1 _ rfl
  have c2 := hcw 2 _ rfl
  have c3 := hcw 3 _ rfl
  have c4 := hcw 4 _ rfl
  simp only [Nat.add_zero] at c0
  clear hcw
  have hsm : e.small := hx ▸ hs _ (List.getElem_mem hi)
  have hso : o.small := hy ▸ hs _ (List.getElem_mem (by omega))
  unfold EntD.small at hsm hso
  have hpv : (l[m + 1 - 1]?.map (·.path.data.toList)).getD [] = o.path.data.toList := by
    rw [show m + 1 - 1 = m by omega, List.getElem?_eq_getElem (by omega : m < l.length), hy]; rfl
  have st := Eb.start w e
  by_cases hcm : 0 ≤ cmpL o.path.data.toList e.path.data.toList
  · have hv : entErr l (m + 1) e false = 3 := by rw [entErr, h1, if_neg (by simp), hpv, if_pos ⟨by omega, hcm⟩]
    go_enter Tryz.func137, Tryz.ntmps137
    go_wp2_with (go_at_call 176; refine (fieldsFit_any e _).mono ?_; rintro r w1 ⟨rfl, hb1⟩; rw [h1]; have s1 := st.below hb1; have k0 := s1.cell 0; simp [EntD.cells] at k0; have p0 := (hc.below s1.bel hb) m (by omega) 0 _ rfl; simp only [Nat.add_zero] at p0; rw [hy] at p0)
    go_quiet (first | (go_at_call 177; exact Calls.quiet_of (compare_any _ _ _ (by omega) (by omega))))
    have s1' := s1.drewN nq
    clear k0 p0
    generalize w1.drewN nq = u1 at *
    have k0 := s1'.cell 0
    simp [EntD.cells] at k0
    go_wp2
    go_ret
    exact ⟨by rw [hv]; rfl, s1'.bel⟩
  · by_cases h2 : hasParB l e.path = true
    · by_cases h3 : otherB (l.take (m + 1)) e = true
      · have hv : entErr l (m + 1) e false = 6 := by rw [entErr, h1, if_neg (by simp), hpv, if_neg (by omega), h2, if_neg (by simp), if_neg (by simp), if_pos h3]
        go_enter Tryz.func137, Tryz.ntmps137
        go_wp2_with (go_at_call 176; refine (fieldsFit_any e _).mono ?_; rintro r w1 ⟨rfl, hb1⟩; rw [h1]; have s1 := st.below hb1; have k0 := s1.cell 0; simp [EntD.cells] at k0; have p0 := (hc.below s1.bel hb) m (by omega) 0 _ rfl; simp only [Nat.add_zero] at p0; rw [hy] at p0)
        go_quiet (first | (go_at_call 177; exact Calls.quiet_of (compare_any _ _ _ (by omega) (by omega))))
        have s1' := s1.drewN nq
        clear k0 p0
        generalize w1.drewN nq = u1 at *
        have k0 := s1'.cell 0
        simp [EntD.cells] at k0
        go_wp2_with (go_at_call 178; refine (hasParent_any b off cap l _ _ hl hs hsm (by have := s1'.lt; omega) (hc.below s1'.bel hb)).mono ?_; rintro r w2 ⟨rfl, hb2⟩; rw [h2]; have s2 := s1'.below hb2)
        go_quiet (fail)
        have s2' := s2.drewN nq
        generalize w2.drewN nq = u2 at *
        have k0 := s2'.cell 0
        have k1 := s2'.cell 1
        have k2 := s2'.cell 2
        have k3 := s2'.cell 3
        have k4 := s2'.cell 4
        simp [EntD.cells] at k0 k1 k2 k3 k4
        go_wp2
        go_region_held (fun u => u.cell? ⟨w.heap.size, 0, none⟩ = some (.string e.path) ∧ u.cell? ⟨w.heap.size, 1, none⟩ = some (.bool e.dir) ∧ u.cell? ⟨w.heap.size, 2, none⟩ = some (.int .i64 e.id) ∧ u.cell? ⟨w.heap.size, 3, none⟩ = some (.int .i64 e.size) ∧ u.cell? ⟨w.heap.size, 4, none⟩ = some (.int .i64 e.mode)) (go_keep) (first | (go_at_call 91; refine (hasOther_n b off cap (m + 1) l e _ (by omega) hl (by have := s2'.drew.lt; omega) (hc.below s2'.drew.bel hb)).mono ?_; rintro r w' ⟨rfl, hb3⟩; rw [h3]; have s4 := s2'.drew.below hb3; have m0 := s4.cell 0; have m1 := s4.cell 1; have m2 := s4.cell 2; have m3 := s4.cell 3; have m4 := s4.cell 4; simp [EntD.cells] at m0 m1 m2 m3 m4))
        all_goals
          go_wp2
          go_ret
          exact ⟨by rw [hv]; rfl, s4.bel⟩
      · have hv : entErr l (m + 1) e false = 0 := by rw [entErr, h1, if_neg (by simp), hpv, if_neg (by omega), h2, if_neg (by simp), if_neg (by simp), if_neg h3]
        simp only [Bool.not_eq_true] at h3
        go_enter Tryz.func137, Tryz.ntmps137
        go_wp2_with (go_at_call 176; refine (fieldsFit_any e _).mono ?_; rintro r w1 ⟨rfl, hb1⟩; rw [h1]; have s1 := st.below hb1; have k0 := s1.cell 0; simp [EntD.cells] at k0; have p0 := (hc.below s1.bel hb) m (by omega) 0 _ rfl; simp only [Nat.add_zero] at p0; rw [hy] at p0)
        go_quiet (first | (go_at_call 177; exact Calls.quiet_of (compare_any _ _ _ (by omega) (by omega))))
        have s1' := s1.drewN nq
        clear k0 p0
        generalize w1.drewN nq = u1 at *
        have k0 := s1'.cell 0
        simp [EntD.cells] at k0
        go_wp2_with (go_at_call 178; refine (hasParent_any b off cap l _ _ hl hs hsm (by have := s1'.lt; omega) (hc.below s1'.bel hb)).mono ?_; rintro r w2 ⟨rfl, hb2⟩; rw [h2]; have s2 := s1'.below hb2)
        go_quiet (fail)
        have s2' := s2.drewN nq
        generalize w2.drewN nq = u2 at *
        have k0 := s2'.cell 0
        have k1 := s2'.cell 1
        have k2 := s2'.cell 2
        have k3 := s2'.cell 3
        have k4 := s2'.cell 4
        simp [EntD.cells] at k0 k1 k2 k3 k4
        go_wp2
        go_region_held (fun u => u.cell? ⟨w.heap.size, 0, none⟩ = some (.string e.path) ∧ u.cell? ⟨w.heap.size, 1, none⟩ = some (.bool e.dir) ∧ u.cell? ⟨w.heap.size, 2, none⟩ = some (.int .i64 e.id) ∧ u.cell? ⟨w.heap.size, 3, none⟩ = some (.int .i64 e.size) ∧ u.cell? ⟨w.heap.size, 4, none⟩ = some (.int .i64 e.mode)) (go_keep) (first | (go_at_call 91; refine (hasOther_n b off cap (m + 1) l e _ (by omega) hl (by have := s2'.drew.lt; omega) (hc.below s2'.drew.bel hb)).mono ?_; rintro r w' ⟨rfl, hb3⟩; rw [h3]; have s4 := s2'.drew.below hb3; have m0 := s4.cell 0; have m1 := s4.cell 1; have m2 := s4.cell 2; have m3 := s4.cell 3; have m4 := s4.cell 4; simp [EntD.cells] at m0 m1 m2 m3 m4))
        all_goals
          go_wp2
          go_ret
          exact ⟨by rw [hv]; rfl, s4.bel⟩
    · simp only [Bool.not_eq_true] at h2
      have hv : entErr l (m + 1) e false = 2 := by rw [entErr, h1, if_neg (by simp), hpv, if_neg (by omega), if_pos h2]
      go_enter Tryz.func137, Tryz.ntmps137
      go_wp2_with (go_at_call 176; refine (fieldsFit_any e _).mono ?_; rintro r w1 ⟨rfl, hb1⟩; rw [h1]; have s1 := st.below hb1; have k0 := s1.cell 0; simp [EntD.cells] at k0; have p0 := (hc.below s1.bel hb) m (by omega) 0 _ rfl; simp only [Nat.add_zero] at p0; rw [hy] at p0)
      go_quiet (first | (go_at_call 177; exact Calls.quiet_of (compare_any _ _ _ (by omega) (by omega))))
      have s1' := s1.drewN nq
      clear k0 p0
      generalize w1.drewN nq = u1 at *
      have k0 := s1'.cell 0
      simp [EntD.cells] at k0
      go_wp2_with (go_at_call 178; refine (hasParent_any b off cap l _ _ hl hs hsm (by have := s1'.lt; omega) (hc.below s1'.bel hb)).mono ?_; rintro r w2 ⟨rfl, hb2⟩; rw [h2]; have s2 := s1'.below hb2)
      go_ret
      exact ⟨by rw [hv]; rfl, s2.bel⟩

theorem entryError_any (b off cap : Nat) (l : List EntD) (i : Nat) (e : EntD) (w : World) (hi : i < l.length) (hx : l[i] = e) (hl : l.length ≤ 2000000) (hcap : l.length ≤ cap) (hs : ∀ o ∈ l, o.small) (hb : b < w.heap.size) (hc : EntsAt w b off l) :
    Calls Tryz.prog 137 #[.slice (some ⟨b, off, none⟩) l.length cap, .int .i64 i, .bool false] w fun r w' => r = .returned (.int .i64 (entErr l i e false)) ∧ Below w.heap.size w w' := by
  by_cases h1 : fieldsB e = true
  · cases i with
    | zero => exact entryError_0 b off cap l e w hi hx hl hcap hs hb hc h1
    | succ m => exact entryError_pos b off cap m l _ e w hi rfl hx hl hcap hs hb hc h1
  · exact entryError_bad b off cap l i e false w hi hx hl hb hc (by simpa using h1)
end Go.Proofs.YtpjjagalekolaaaGreatDoor

/- The program's Check, of trees that do not fold. -/
namespace Go.Proofs.YtpjjagalekolaaaGreatDoor
open Go.RowKit
set_option linter.unusedVariables false
set_option linter.unusedSimpArgs false

def chkAt (l : List EntD) (i : Nat) (e : EntD) : Int := if pathL e.path.data.toList = false then 1 else entErr l i e false
def chkGo (l : List EntD) : List EntD → Nat → Int × Int
  | [], _ => (0, 0)
  | e :: t, i => if chkAt l i e = 0 then chkGo l t (i + 1) else (chkAt l i e, i)
def chkP (l : List EntD) : Int × Int := if 60 < l.length then (5, 0) else chkGo l l 0
theorem chkGo_at (l : List EntD) (k : Nat) (h : k < l.length) : chkGo l (l.drop k) k = if chkAt l k l[k] = 0 then chkGo l (l.drop (k + 1)) (k + 1) else (chkAt l k l[k], (k : Int)) := by
  rw [List.drop_eq_getElem_cons h, chkGo]

set_option maxHeartbeats 2000000 in
theorem check_any (b off cap : Nat) (l : List EntD) (w : World) (hl : l.length ≤ 2000000) (hcap : l.length ≤ cap) (hs : ∀ o ∈ l, o.small) (hb : b < w.heap.size) (hc : EntsAt w b off l) :
    Calls Tryz.prog 89 #[.slice (some ⟨b, off, none⟩) l.length cap, .bool false, .int .i64 60, .func (.func 90) #[] #[]] w fun e w' => e = .returned (.tuple #[.int .i64 (chkP l).1, .int .i64 (chkP l).2]) ∧ Below w.heap.size w w' := by
  by_cases h6 : (60 : Int) < l.length
  · have hv : chkP l = (5, 0) := by rw [chkP, if_pos (by omega)]
    rw [hv]
    go_enter Tryz.func89, Tryz.ntmps89
    go_wp2
    go_ret2
    exact ⟨rfl, Below.refl _ _⟩
  · have hv : chkP l = chkGo l l 0 := by rw [chkP, if_neg (by omega)]
    rw [hv]
    go_enter Tryz.func89, Tryz.ntmps89
    go_wp2
    go_loopw [18] (fun i wr => ∃ k : Nat, k ≤ l.length ∧ i = .int .i64 k ∧ chkGo l l 0 = chkGo l (l.drop k) k ∧ Below w.heap.size w wr) (fun i _ => l.length - (intOf i).toNat)
    case atStart => exact ⟨0, Nat.zero_le _, rfl, rfl, Below.refl _ _⟩
    case round =>
      obtain ⟨k, hk, rfl, hd, hbw⟩ := hrel
      have HD : Hid (chkGo l l 0 = chkGo l (l.drop k) k) := hd
      clear hd
      have hbs := hbw.size
      by_cases hlt : k < l.length
      · have HSN := chkGo_at l k hlt
        have hcw := (hc.below hbw hb) k hlt
        have hsm := hs _ (List.getElem_mem hlt)
        generalize hx : l[k] = o at *
        have HS : Hid (chkGo l (l.drop k) k = if chkAt l k o = 0 then chkGo l (l.drop (k + 1)) (k + 1) else (chkAt l k o, (k : Int))) := HSN
        clear HSN
        have c0 := hcw 0 _ rfl
        have c1 := hcw 1 _ rfl
        have c2 := hcw 2 _ rfl
        have c3 := hcw 3 _ rfl
        have c4 := hcw 4 _ rfl
        simp only [Nat.add_zero] at c0
        clear hcw
        by_cases hn : pathL o.path.data.toList = true
        · have hA : chkAt l k o = entErr l k o false := by rw [chkAt, hn, if_neg (by simp)]
          by_cases he : entErr l k o false = 0
          · go_wp2_with (first | (go_at_call 90; refine (isNamed_any o _ hsm).mono ?_; rintro e w1 ⟨rfl, hb1⟩; rw [hn]) | (go_at_call 137; refine (entryError_any b off cap l k o _ hlt hx hl hcap hs (by have := hb1.size; omega) (hc.below (hbw.trans (hb1.mono hbs)) hb)).mono ?_; rintro e w2 ⟨rfl, hb2⟩; rw [he]))
            have hb3 := (hbw.trans (hb1.mono hbs)).trans (hb2.mono (by have := hb1.size; omega))
            exact ⟨⟨k + 1, by omega, by go_num, by rw [HD.out, HS.out, hA, if_pos he], hb3⟩, by simp [intOf]; omega⟩
          · have he' : (entErr l k o false != 0) = true := by simpa using he
            go_wp2_with (first | (go_at_call 90; refine (isNamed_any o _ hsm).mono ?_; rintro e w1 ⟨rfl, hb1⟩; rw [hn]) | (go_at_call 137; refine (entryError_any b off cap l k o _ hlt hx hl hcap hs (by have := hb1.size; omega) (hc.below (hbw.trans (hb1.mono hbs)) hb)).mono ?_; rintro e w2 ⟨rfl, hb2⟩))
            go_ret2
            have hb3 := (hbw.trans (hb1.mono hbs)).trans (hb2.mono (by have := hb1.size; omega))
            refine ⟨?_, hb3⟩
            rw [HD.out, HS.out, hA, if_neg he]; rfl
        · simp only [Bool.not_eq_true] at hn
          have hA : chkAt l k o = 1 := by rw [chkAt, if_pos hn]
          go_wp2_with (go_at_call 90; refine (isNamed_any o _ hsm).mono ?_; rintro e w1 ⟨rfl, hb1⟩; rw [hn])
          go_ret2
          refine ⟨?_, hbw.trans (hb1.mono hbs)⟩
          rw [HD.out, HS.out, hA, if_neg (by omega)]; rfl
      · go_wp2
        go_ret2
        refine ⟨?_, hbw⟩
        rw [HD.out, List.drop_of_length_le (by omega), chkGo]; rfl

set_option maxHeartbeats 1000000 in
theorem check_nil (w : World) :
    Calls Tryz.prog 89 #[.slice none 0 0, .bool false, .int .i64 60, .func (.func 90) #[] #[]] w fun e w' => e = .returned (.tuple #[.int .i64 0, .int .i64 0]) ∧ w' = w := by
  go_enter Tryz.func89, Tryz.ntmps89
  go_wp2
  refine wp_loop_rounds 1 ?_
  rw [rounds_succ]
  go_wp2
  go_ret2
  exact ⟨rfl, rfl⟩

set_option maxHeartbeats 1000000 in
theorem treesCheck_any (b off cap : Nat) (l : List EntD) (w : World) (hl : l.length ≤ 2000000) (hcap : l.length ≤ cap) (hs : ∀ o ∈ l, o.small) (hb : b < w.heap.size) (hc : EntsAt w b off l) :
    Calls Tryz.prog 56 #[.slice (some ⟨b, off, none⟩) l.length cap, .bool false] w fun e w' => e = .returned (.tuple #[.int .i64 (chkP l).1, .int .i64 (chkP l).2]) ∧ Below w.heap.size w w' := by
  go_enter Tryz.func56, Tryz.ntmps56
  go_wp2_with (go_at_call 89; refine (check_any b off cap l _ hl hcap hs hb hc).mono ?_; rintro e w1 ⟨rfl, hb1⟩)
  go_ret2
  exact ⟨rfl, hb1⟩
set_option maxHeartbeats 1000000 in
theorem treesCheck_nil (w : World) :
    Calls Tryz.prog 56 #[.slice none 0 0, .bool false] w fun e w' => e = .returned (.tuple #[.int .i64 0, .int .i64 0]) ∧ w' = w := by
  go_enter Tryz.func56, Tryz.ntmps56
  go_wp2_with (go_at_call 89; refine (check_nil _).mono ?_; rintro e w1 ⟨rfl, rfl⟩)
  go_ret2
  exact ⟨rfl, rfl⟩

def treeB (l : List EntD) : Bool := (chkP l).1 == 0
set_option maxHeartbeats 1000000 in
theorem convoyCheck_any (b off cap : Nat) (l : List EntD) (w : World) (hl : l.length ≤ 2000000) (hcap : l.length ≤ cap) (hs : ∀ o ∈ l, o.small) (hb : b < w.heap.size) (hc : EntsAt w b off l) :
    Calls Tryz.prog 35 #[.slice (some ⟨b, off, none⟩) l.length cap, .bool false] w fun e w' => e = .returned (.tuple #[.int .i64 (chkP l).1, .int .i64 (chkP l).2]) ∧ Below w.heap.size w w' := by
  go_enter Tryz.func35, Tryz.ntmps35
  go_wp2_with (go_at_call 56; refine (treesCheck_any b off cap l _ hl hcap hs hb hc).mono ?_; rintro e w1 ⟨rfl, hb1⟩)
  go_ret2
  exact ⟨rfl, hb1⟩
end Go.Proofs.YtpjjagalekolaaaGreatDoor

/- The reference's order of paths, its parent, and whether two texts are one. -/
namespace Go.Proofs.YtpjjagalekolaaaGreatDoor
open Go.RowKit
set_option linter.unusedVariables false
set_option linter.unusedSimpArgs false

/-- The order of lists of names. -/
def lessN : List (List UInt8) → List (List UInt8) → Bool
  | [], [] => false
  | [], _ :: _ => true
  | _ :: _, [] => false
  | a :: xs, b :: ys => if a = b then lessN xs ys else Op.bytesLess a b

theorem lessN_step (x y : List ByteArray) (k : Nat) (ha : k < x.length) (hb : k < y.length) : lessN ((x.drop k).map (·.data.toList)) ((y.drop k).map (·.data.toList)) =
    if x[k].data.toList = y[k].data.toList then lessN ((x.drop (k + 1)).map (·.data.toList)) ((y.drop (k + 1)).map (·.data.toList)) else Op.bytesLess x[k].data.toList y[k].data.toList := by
  rw [List.drop_eq_getElem_cons ha, List.drop_eq_getElem_cons hb, List.map_cons, List.map_cons, lessN]

set_option maxHeartbeats 1000000 in
theorem less_any (a b : ByteArray) (w : World) (ha : a.size ≤ 1500000) (hb : b.size ≤ 1500000) :
    Calls Tryz.prog 111 #[.string a, .string b] w fun e w' => e = .returned (.bool (lessN (spl a.data.toList) (spl b.data.toList))) ∧ Below w.heap.size w w' := by
  have hA1 : (1 : Nat) = 1 := rfl
  go_enter Tryz.func111, Tryz.ntmps111
  go_wp2_with (first | (go_at_call 114; clear hA1; refine (names_row _ _ (by omega)).mono ?_; rintro e w1 ⟨g1, cap1, x, rfl, hrow1, hmap1, hb1⟩) | (go_at_call 114; refine (names_row _ _ (by omega)).mono ?_; rintro e w2 ⟨g2, cap2, y, rfl, hrow2, hmap2, hb2⟩))
  have hx1 : x.length ≤ 1500001 := by
    have h1 := spl_length_le a.data.toList
    rw [← hmap1, List.length_map, lenD] at h1
    omega
  have hy1 : y.length ≤ 1500001 := by
    have h1 := spl_length_le b.data.toList
    rw [← hmap2, List.length_map, lenD] at h1
    omega
  have HX : Hid (x.map (·.data.toList) = spl a.data.toList) := hmap1
  have HY : Hid (y.map (·.data.toList) = spl b.data.toList) := hmap2
  have HRX : Hid (∀ (j : Nat) (h : j < x.length), w2.cell? ⟨g1, j, none⟩ = some (.string x[j])) := fun j h => cell_kept hb2 hrow1.2.1 (hrow1.2.2 j h)
  have HRY : Hid (∀ (j : Nat) (h : j < y.length), w2.cell? ⟨g2, j, none⟩ = some (.string y[j])) := fun j h => hrow2.2.2 j h
  have hbb : Below w.heap.size w w2 := hb1.trans (hb2.mono hb1.size)
  clear hmap1 hmap2 hrow1 hrow2
  go_loopw [7] (fun i wr => ∃ (k n : Nat), k ≤ x.length ∧ k ≤ y.length ∧ i = .int .i64 k ∧ wr = w2.drewN n ∧ lessN (spl a.data.toList) (spl b.data.toList) = lessN ((x.drop k).map (·.data.toList)) ((y.drop k).map (·.data.toList))) (fun i _ => x.length - (intOf i).toNat)
  case atStart => exact ⟨0, 0, Nat.zero_le _, Nat.zero_le _, rfl, rfl, by rw [← HX.out, ← HY.out]; rfl⟩
  case round =>
    obtain ⟨k, n, hkx, hky, rfl, rfl, hd⟩ := hrel
    have HD : Hid (lessN (spl a.data.toList) (spl b.data.toList) = lessN ((x.drop k).map (·.data.toList)) ((y.drop k).map (·.data.toList))) := hd
    clear hd
    have hbn : Below w.heap.size w (w2.drewN n) := hbb.trans ⟨rfl, rfl, rfl, Nat.le_refl _, fun _ _ => rfl⟩
    by_cases hlt : k < x.length
    · by_cases hlt2 : k < y.length
      · have HS := lessN_step x y k hlt hlt2
        have cx : (w2.drewN n).cell? ⟨g1, k, none⟩ = some (.string x[k]) := HRX.out k hlt
        have cy : (w2.drewN n).cell? ⟨g2, k, none⟩ = some (.string y[k]) := HRY.out k hlt2
        generalize x[k] = p at *
        generalize y[k] = q at *
        have HSS : Hid (lessN ((x.drop k).map (·.data.toList)) ((y.drop k).map (·.data.toList)) = if p.data.toList = q.data.toList then lessN ((x.drop (k + 1)).map (·.data.toList)) ((y.drop (k + 1)).map (·.data.toList)) else Op.bytesLess p.data.toList q.data.toList) := HS
        clear HS
        generalize hW : w2.drewN n = W at *
        by_cases he : p = q
        · subst he
          go_wp2
          go_quiet (fail)
          go_wp2
          exact ⟨⟨k + 1, n + nq, by omega, by omega, by go_num, by rw [← hW, World.drewN_drewN], by rw [HD.out, HSS.out, if_pos (by trivial)]⟩, by simp [intOf]; omega⟩
        · have he' : (!p.toList == q.toList) = true := by
            have h2 : p.data.toList ≠ q.data.toList := fun e => he (by rw [← eta p, ← eta q, e])
            simpa [ba_toList] using h2
          go_wp2
          go_quiet (fail)
          go_wp2
          rename Nat => n1
          go_quiet (fail)
          go_wp2
          go_ret
          refine ⟨ret_bool ?_, hbn.trans ⟨rfl, rfl, rfl, Nat.le_refl _, fun _ _ => rfl⟩⟩
          rw [HD.out, HSS.out, if_neg (fun e => he (by rw [← eta p, ← eta q, e]))]
          rw [ba_toList, ba_toList]
      · go_wp2
        go_ret
        refine ⟨ret_bool ?_, hbn⟩
        rw [HD.out, List.drop_of_length_le (by omega : y.length ≤ k), List.drop_eq_getElem_cons hlt, List.map_cons, List.map_nil, lessN]
        simp; omega
    · go_wp2
      go_ret
      refine ⟨ret_bool ?_, hbn⟩
      rw [HD.out, List.drop_of_length_le (by omega : x.length ≤ k), List.map_nil]
      by_cases hlt2 : k < y.length
      · rw [List.drop_eq_getElem_cons hlt2, List.map_cons, lessN]; simp; omega
      · rw [List.drop_of_length_le (by omega : y.length ≤ k), List.map_nil, lessN]; simp; omega

/-- Names, as a path. -/
def joinL : List (List UInt8) → List UInt8
  | [] => []
  | [x] => x
  | x :: y :: t => x ++ 47 :: joinL (y :: t)
theorem joinL_snoc (l : List (List UInt8)) (x : List UInt8) (h : l ≠ []) : joinL (l ++ [x]) = joinL l ++ 47 :: x := by
  induction l with
  | nil => exact absurd rfl h
  | cons a t ih =>
    cases t with
    | nil => rfl
    | cons b t => 
      have := ih (by simp)
      simp only [List.cons_append] at this ⊢
      rw [joinL, this, joinL]; simp
theorem joinL_take (l : List (List UInt8)) (k : Nat) (h : k < l.length) : joinL (l.take (k + 1)) = joinL (l.take k) ++ ((if 0 < k then [47] else []) ++ l[k]) := by
  rw [List.take_succ_eq_append_getElem h]
  cases k with
  | zero => simp [joinL]
  | succ k => rw [joinL_snoc _ _ (by intro e; have := congrArg List.length e; rw [List.length_take] at this; simp only [List.length_nil] at this; omega), if_pos (by omega)]; simp
theorem joinL_le (l : List (List UInt8)) (k : Nat) : (joinL (l.take k)).length ≤ (joinL l).length := by
  by_cases h : k < l.length
  · have key : ∀ n, k + n ≤ l.length → (joinL (l.take k)).length ≤ (joinL (l.take (k + n))).length := by
      intro n
      induction n with
      | zero => intro _; exact Nat.le_refl _
      | succ n ih =>
        intro hn
        have := ih (by omega)
        rw [← Nat.add_assoc, joinL_take l (k + n) (by omega)]
        simp only [List.length_append]
        omega
    have := key (l.length - k) (by omega)
    rwa [show k + (l.length - k) = l.length by omega, List.take_length] at this
  · rw [List.take_of_length_le (by omega)]; exact Nat.le_refl _
theorem joinL_spl (l : List UInt8) : joinL (spl l) = l := by
  suffices h : ∀ n (l : List UInt8), l.length = n → joinL (spl l) = l from h _ l rfl
  intro n
  induction n with
  | zero => intro l hl; rw [List.length_eq_zero_iff.1 hl]; rfl
  | succ n ih =>
    intro l hl
    have hne : l ≠ [] := by intro e; rw [e] at hl; cases hl
    obtain ⟨p, c, rfl⟩ : ∃ p c, l = p ++ [c] := ⟨l.dropLast, l.getLast hne, (List.dropLast_concat_getLast hne).symm⟩
    have hp := ih p (by simpa using hl)
    unfold spl at hp ⊢
    rw [splSt_snoc, splStep]
    split
    · next hc =>
      rw [joinL_snoc _ _ (by simp), hp, hc]
    · by_cases h0 : (splSt p).1 = []
      · rw [h0] at hp ⊢
        simp only [List.nil_append, joinL] at hp ⊢
        rw [hp]
      · rw [joinL_snoc _ _ h0] at hp ⊢
        show joinL (splSt p).1 ++ 47 :: ((splSt p).2 ++ [c]) = p ++ [c]
        rw [← List.cons_append, ← List.append_assoc, hp]
def parentL (l : List UInt8) : List UInt8 := joinL (splSt l).1
theorem parentL_none (l : List UInt8) (h : ∀ c ∈ l, c ≠ 47) : parentL l = [] := by
  have := fold_none l h []
  simp [parentL, splSt, this, joinL]
theorem parentL_cut (a b : List UInt8) (h : ∀ c ∈ b, c ≠ 47) : parentL (a ++ 47 :: b) = a := by
  have e := fold_none b h []
  have : (splSt (a ++ 47 :: b)).1 = spl a := by
    simp only [splSt, List.foldl_append, List.foldl_cons]
    rw [splStep, if_pos rfl, fold_pre b, e]
    simp [spl, splSt]
  rw [parentL, this, joinL_spl]
theorem u8_not47 (c : UInt8) (h : (c.toNat : Int) ≠ 47) : c ≠ 47 := by rintro rfl; exact h rfl
theorem getB (s : ByteArray) (j : Nat) (h : j < s.size) : s.data[j]! = s.data.toList[j]'(by rw [lenD]; exact h) := by
  rw [Array.getElem_toList, getElem!_pos s.data j h]
theorem parentB_eq (s : ByteArray) : (parentB s).data.toList = parentL s.data.toList := by
  rcases Lib.lastIndexByte_spec s 47 with ⟨h, h1⟩ | ⟨i, hi, h, h1, h2⟩
  · rw [parentL_none, parentB, if_pos (by omega)]
    intro c hc
    obtain ⟨j, hj, rfl⟩ := List.mem_iff_getElem.1 hc
    have := h1 j (by rw [← lenD]; exact hj)
    rw [getB s j (by rw [← lenD]; exact hj)] at this
    exact u8_not47 _ this
  · have hi' : i < s.data.toList.length := by rw [lenD]; exact hi
    have hc : s.data.toList[i] = 47 := by
      rw [getB s i hi] at h1
      apply UInt8.toNat_inj.1
      have : (47 : UInt8).toNat = 47 := rfl
      omega
    have e : s.data.toList = s.data.toList.take i ++ 47 :: s.data.toList.drop (i + 1) := by
      rw [← hc, ← List.drop_eq_getElem_cons hi', List.take_append_drop]
    have hp : parentL s.data.toList = s.data.toList.take i := by
      rw [e, parentL_cut]
      · rw [← e]
      · intro c hc
        obtain ⟨j, hj, rfl⟩ := List.mem_iff_getElem.1 hc
        rw [List.getElem_drop]
        have hj' : i + 1 + j < s.size := by rw [List.length_drop, lenD] at hj; omega
        have := h2 (i + 1 + j) (by omega) hj'
        rw [getB s _ hj'] at this
        exact u8_not47 _ this
    rw [hp, parentB, if_neg (by omega), h]
    simp

set_option maxHeartbeats 1000000 in
theorem joined_any (g cap n : Nat) (out : List ByteArray) (w : World) (hn : n ≤ out.length) (hl : out.length ≤ 2000000) (hj : (joinL (out.map (·.data.toList))).length ≤ 1500000) (hr : ∀ (j : Nat) (h : j < out.length), w.cell? ⟨g, j, none⟩ = some (.string out[j])) :
    Calls Tryz.prog 192 #[.slice (some ⟨g, 0, none⟩) n cap] w fun e w' => ∃ s, e = .returned (.string s) ∧ s.data.toList = joinL ((out.map (·.data.toList)).take n) ∧ ∃ n, w' = w.drewN n := by
  have HJ : Hid (∀ k, (joinL ((out.map (·.data.toList)).take k)).length ≤ 1500000) := fun k => Nat.le_trans (joinL_le _ k) hj
  have HR : Hid (∀ (j : Nat) (h : j < out.length), w.cell? ⟨g, j, none⟩ = some (.string out[j])) := hr
  clear hj hr
  go_enter Tryz.func192, Tryz.ntmps192
  go_wp2
  go_loopw [3, 4] (fun s i wr => ∃ (k m : Nat) (t : ByteArray), k ≤ n ∧ s = .string t ∧ i = .int .i64 k ∧ wr = w.drewN m ∧ t.data.toList = joinL ((out.map (·.data.toList)).take k)) (fun s i _ => n - (intOf i).toNat)
  case atStart => exact ⟨0, 0, _, Nat.zero_le _, rfl, rfl, rfl, rfl⟩
  case round =>
    obtain ⟨k, m, t, hk, rfl, rfl, rfl, hd⟩ := hrel
    have hts : t.size ≤ 1500000 := by rw [← lenD, hd]; exact HJ.out k
    have HD : Hid (t.data.toList = joinL ((out.map (·.data.toList)).take k)) := hd
    clear hd
    by_cases hlt : k < n
    · have cx : (w.drewN m).cell? ⟨g, k, none⟩ = some (.string (out[k]'(by omega))) := HR.out k (by omega)
      have HT : Hid (joinL ((out.map (·.data.toList)).take (k + 1)) = joinL ((out.map (·.data.toList)).take k) ++ ((if 0 < k then [47] else []) ++ (out[k]'(by omega)).data.toList)) := by
        show joinL ((out.map (·.data.toList)).take (k + 1)) = joinL ((out.map (·.data.toList)).take k) ++ ((if 0 < k then [47] else []) ++ (out[k]'(by omega)).data.toList)
        have := joinL_take (out.map (·.data.toList)) k (by simp; omega)
        simpa using this
      generalize out[k]'(by omega) = p at *
      have hps : p.size ≤ 1500000 := by
        have h1 := HJ.out (k + 1)
        rw [HT.out] at h1
        simp only [List.length_append, lenD] at h1
        omega
      generalize hW : w.drewN m = W at *
      by_cases h0 : 0 < k
      · go_wp2
        exact ⟨⟨k + 1, m, _, by omega, rfl, by go_num, hW.symm, by rw [HT.out, if_pos h0]; simp [HD.out]⟩, by simp [intOf]; omega⟩
      · go_wp2
        exact ⟨⟨k + 1, m, _, by omega, rfl, by go_num, hW.symm, by rw [HT.out, if_neg h0]; simp [HD.out]⟩, by simp [intOf]; omega⟩
    · go_wp2
      go_ret
      exact ⟨t, rfl, by rw [HD.out, show k = n by omega], m, rfl⟩

theorem splSt_take (l : List UInt8) : (splSt l).1 = (spl l).take ((spl l).length - 1) := by
  simp [spl]

theorem names_row2 (s : ByteArray) (w : World) (hs : s.size ≤ 2000000) :
    Calls Tryz.prog 114 #[.string s] w fun e w' => ∃ g cap out, e = .returned (.slice (some ⟨g, 0, none⟩) (out : List ByteArray).length cap) ∧ out.length ≤ cap ∧ StrRow w' w.heap.size g out ∧ out.map (·.data.toList) = spl s.data.toList ∧ Below w.heap.size w w' := by
  refine (names_any s w hs).mono ?_
  rintro e w' ⟨v, out, rfl, hown, hmap, hb⟩
  have hpos : 1 ≤ out.length := by have := spl_pos s.data.toList; rw [← hmap] at this; simpa using this
  obtain ⟨hlen, h2⟩ := hown
  rcases h2 with ⟨rfl, h0⟩ | ⟨g, cap, cur, rfl, hbg, hg, hn, hm, hsz, htake⟩
  · omega
  · refine ⟨g, cap, out, rfl, by omega, ⟨hbg, (Array.getElem?_eq_some_iff.1 hg).1, fun j hj => ?_⟩, hmap, hb⟩
    have e1 : (cur.toList.take (out.length * 1))[j]? = some (.string out[j]) := by rw [htake]; simp [hj]
    rw [List.getElem?_take, if_pos (by omega)] at e1
    simp only [World.cell?, hg]
    simpa using e1
set_option maxHeartbeats 1000000 in
theorem refParent_any (s : ByteArray) (w : World) (hs : s.size ≤ 1500000) :
    Calls Tryz.prog 158 #[.string s] w fun e w' => e = .returned (.string (parentB s)) ∧ Below w.heap.size w w' := by
  go_enter Tryz.func158, Tryz.ntmps158
  go_wp2_with (first | (go_at_call 114; refine (names_row2 _ _ (by omega)).mono ?_; rintro e w1 ⟨g, cap, out, rfl, hcap, hrow, hmap, hb⟩; have hpos : 1 ≤ out.length := (by have := spl_pos s.data.toList; rw [← hmap] at this; simpa using this); have hol : out.length ≤ 1500001 := (by have h1 := spl_length_le s.data.toList; rw [← hmap, List.length_map, lenD] at h1; omega)) | (go_at_call 192; refine Calls.mono (joined_any g _ (out.length - 1) out _ (by omega) (by omega) (by rw [hmap, joinL_spl, lenD]; exact hs) hrow.2.2) ?_; rintro e w2 ⟨t, rfl, ht, n, rfl⟩))
  go_ret
  refine ⟨?_, hb.trans ⟨rfl, rfl, rfl, Nat.le_refl _, fun _ _ => rfl⟩⟩
  have : parentB s = t := by
    rw [← eta (parentB s), ← eta t, parentB_eq, ht, hmap, parentL, splSt_take, ← hmap, List.length_map]
  rw [this]; rfl

theorem one_any (a b : ByteArray) (w : World) (ha : a.size ≤ 1500000) (hb : b.size ≤ 1500000) :
    Calls Tryz.prog 110 #[.string a, .string b, .bool false] w fun e w' => e = .returned (.bool (a.data.toList == b.data.toList)) ∧ ∃ n, w' = w.drewN n := by
  by_cases hl : a.size = b.size
  · have hl' : ((a.size : Int) != (b.size : Int)) = false := by simp; omega
    have HL : Hid (a.size = b.size) := hl
    clear hl
    go_enter Tryz.func110, Tryz.ntmps110
    go_wp2
    go_loopw [7] (fun i wr => ∃ (k n : Nat), k ≤ a.size ∧ i = .int .i64 k ∧ wr = w.drewN n ∧ a.data.toList.take k = b.data.toList.take k) (fun i _ => a.size - (intOf i).toNat)
    case atStart => exact ⟨0, 0, Nat.zero_le _, rfl, rfl, rfl⟩
    case round =>
      obtain ⟨k, n, hka, rfl, rfl, hc⟩ := hrel
      have HC : Hid (a.data.toList.take k = b.data.toList.take k) := hc
      clear hc
      by_cases hlt : k < a.size
      · have h2 : k < b.size := by have := HL.out; omega
        have HA : Hid (a.data.toList.take (k + 1) = a.data.toList.take k ++ [a[k]]) := take_snoc a k hlt
        have HB : Hid (b.data.toList.take (k + 1) = b.data.toList.take k ++ [b[k]]) := take_snoc b k h2
        generalize hW : w.drewN n = W
        by_cases he : a[k] = b[k]
        · have he' : (((a[k]).toNat : Int) != ((b[k]).toNat : Int)) = false := by rw [he]; simp
          have HE : Hid (a[k] = b[k]) := he
          clear he
          go_wp2
          exact ⟨⟨k + 1, n, by omega, by go_num, hW.symm, by rw [HA.out, HB.out, HC.out, HE.out]⟩, by simp [intOf]; omega⟩
        · have he' : (((a[k]).toNat : Int) != ((b[k]).toNat : Int)) = true := by
            simp; intro e; exact he (UInt8.toNat_inj.1 (by omega))
          have HV : Hid ((a.data.toList == b.data.toList) = false) := by
            show (a.data.toList == b.data.toList) = false
            cases hs : (a.data.toList == b.data.toList) with
            | false => rfl
            | true =>
              exfalso
              have hs' := eq_of_beq hs
              apply he
              have e1 := congrArg (fun l => l[k]?) hs'
              have e2 : (a.data[k]'hlt) = (b.data[k]'h2) := by simpa [hlt, h2] using e1
              exact e2
          go_wp2
          go_ret
          exact ⟨ret_bool HV.out.symm, n, hW.symm⟩
      · go_wp2
        go_ret
        refine ⟨ret_bool ?_, n, rfl⟩
        have h := HC.out
        rw [List.take_of_length_le (by simp; omega), List.take_of_length_le (by simp; have := HL.out; omega)] at h
        simp [h]
  · have hl' : ((a.size : Int) != (b.size : Int)) = true := by simp; omega
    have HV : Hid ((a.data.toList == b.data.toList) = false) := by
      show (a.data.toList == b.data.toList) = false
      cases hs : (a.data.toList == b.data.toList) with
      | false => rfl
      | true =>
        exfalso
        have := congrArg List.length (eq_of_beq hs)
        rw [lenD, lenD] at this
        omega
    go_enter Tryz.func110, Tryz.ntmps110
    go_wp2
    go_ret
    exact ⟨ret_bool HV.out.symm, 0, rfl⟩
end Go.Proofs.YtpjjagalekolaaaGreatDoor

