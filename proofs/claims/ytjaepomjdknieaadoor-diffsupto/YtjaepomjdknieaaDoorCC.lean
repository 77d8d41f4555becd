/- One entry behind others: the program's look at it. -/
import Derived.Test.YtjaepomjdknieaaDoorCB
import Derived.Deep.RegionHeld
import Derived.Deep.Cut
namespace Go.Proofs.YtjaepomjdknieaaDoor
open Go.RowKit
set_option linter.unusedVariables false
set_option linter.unusedSimpArgs false

set_option maxHeartbeats 1000000 in
theorem findIdC_any (o : EntD) (B : Nat) (id : Int) (w : World) (hB : B < w.heap.size) (c0 : w.cell? ⟨B, 0, none⟩ = some (.int .i64 id)) :
    Calls Tryd.prog 107 #[.agg #[.string o.path, .bool o.dir, .int .i64 o.id, .int .i64 o.size, .int .i64 o.mode], .pointer (some ⟨B, 0, none⟩)] w fun e w' => e = .returned (.bool (o.id == id)) ∧ Below w.heap.size w w' := by
  have d0 := past1 (by omega) c0
  have hb : ∀ ob, Below w.heap.size w (w.alloc ob) := fun ob => (Below.refl _ _).alloc (Nat.le_refl _) ob
  go_enter Tryd.func107, Tryd.ntmps107
  go_wp2
  go_ret
  exact ⟨rfl, hb _⟩

set_option maxHeartbeats 1000000 in
theorem findId_any (b off cap : Nat) (l : List EntD) (id : Int) (w : World) (hl : l.length ≤ 2000000) (hs : ∀ o ∈ l, o.small) (hb : b < w.heap.size) (hc : EntsAt w b off l) :
    Calls Tryd.prog 84 #[.slice (some ⟨b, off, none⟩) l.length cap, .int .i64 id] w fun e w' => e = .returned (.int .i64 (fstI (fun o => o.id == id) l)) ∧ Below w.heap.size w w' := by
  have hmf : ∀ (fn : Fn) (first cap : Array Value) (w : World), (Instr.makeFunc fn first cap).run Tryd.prog w = .ok (.func fn first cap) w := fun _ _ _ _ => rfl
  have hb2 : Below w.heap.size w (w.alloc (.cells #[.int .i64 id] 3)) := (Below.refl _ _).alloc (Nat.le_refl _) _
  have B0 : Boxed (w.alloc (.cells #[.int .i64 id] 3)) w.heap.size 3 (.int .i64 id) := Boxed.new w 3 _
  have HC := indexFunc107 b off cap l (fun o => o.id == id) ⟨w.heap.size, 0, none⟩ _ hl hs (by simp; omega) (hc.below hb2 hb) (fun o wr ho hbw => findIdC_any o w.heap.size id wr (by have := hbw.size; simp at this; omega) ((hbw.block _ B0.lt).trans B0 |> fun h => Boxed.cell (t := 3) h))
  go_enter Tryd.func84, Tryd.ntmps84
  go_wp2_with (go_at_call 106; refine HC.mono ?_; rintro e w1 ⟨rfl, hb1⟩)
  go_ret
  exact ⟨rfl, hb2.trans (hb1.mono (by simp))⟩

def hasParB (l : List EntD) (p : ByteArray) : Bool :=
  if (parentB p).toList == [] then true
  else match l.find? (fun o => sameB false o.path.data.toList (parentB p).data.toList) with
    | some o => o.dir
    | none => false

theorem fstI_find (pr : EntD → Bool) (l : List EntD) : (fstI pr l = -1 ∧ l.find? pr = none) ∨ ∃ (i : Nat) (h : i < l.length), fstI pr l = i ∧ l.find? pr = some l[i] := by
  by_cases ha : l.any pr = true
  · right
    have hlt : l.findIdx pr < l.length := by rw [List.findIdx_lt_length]; simpa using ha
    refine ⟨l.findIdx pr, hlt, by rw [fstI, if_pos ha], ?_⟩
    rw [List.find?_eq_some_iff_getElem]
    exact ⟨List.findIdx_getElem (w := hlt), l.findIdx pr, hlt, rfl, fun j hj => by simpa using List.not_of_lt_findIdx hj⟩
  · left
    have ha' : l.any pr = false := by simpa using ha
    refine ⟨fstI_none pr l ha', ?_⟩
    rw [List.find?_eq_none]
    intro x hx
    rw [List.any_eq_false] at ha'
    simpa using ha' x hx

theorem lastIdx_le (s : ByteArray) : Lib.lastIndexByte s 47 ≤ s.size := by
  rcases Lib.lastIndexByte_spec s 47 with h | ⟨i, hi, h, _⟩
  · rw [h.1]; omega
  · rw [h]; omega
theorem parentB_small (s : ByteArray) : (parentB s).size ≤ s.size := by
  unfold parentB
  split
  · exact Nat.zero_le _
  · simp; omega

set_option maxHeartbeats 1000000 in
theorem hasParent_any (b off cap : Nat) (l : List EntD) (p : ByteArray) (w : World) (hl : l.length ≤ 2000000) (hs : ∀ o ∈ l, o.small) (hp : p.size ≤ 1500000) (hb : b < w.heap.size) (hc : EntsAt w b off l) :
    Calls Tryd.prog 98 #[.slice (some ⟨b, off, none⟩) l.length cap, .string p] w fun e w' => e = .returned (.bool (hasParB l p)) ∧ Below w.heap.size w w' := by
  by_cases h0 : ((parentB p).toList == []) = true
  · have hv : hasParB l p = true := by rw [hasParB, if_pos h0]
    go_enter Tryd.func98, Tryd.ntmps98
    go_wp2_with (go_at_call 113; refine (parent_any _ _ (by omega) (lastIdx_le _)).mono ?_; rintro e w1 ⟨rfl, rfl⟩)
    go_ret
    exact ⟨ret_bool hv.symm, Below.refl _ _⟩
  · simp only [Bool.not_eq_true] at h0
    have hps : (parentB p).size ≤ 1500000 := by have := parentB_small p; omega
    rcases fstI_find (fun o => sameB false o.path.data.toList (parentB p).data.toList) l with ⟨hi, hf⟩ | ⟨i, hlt, hi, hf⟩
    · have hv : hasParB l p = false := by rw [hasParB, h0, if_neg (by simp), hf]
      go_enter Tryd.func98, Tryd.ntmps98
      go_wp2_with (first | (go_at_call 113; refine (parent_any _ _ (by omega) (lastIdx_le _)).mono ?_; rintro e w1 ⟨rfl, rfl⟩) | (go_at_call 99; refine (find_any b off cap l _ _ _ hl hs hps hb hc).mono ?_; rintro e w2 ⟨rfl, hb2⟩; rw [hi]))
      go_ret
      exact ⟨ret_bool hv.symm, hb2⟩
    · have hv : hasParB l p = l[i].dir := by rw [hasParB, h0, if_neg (by simp), hf]
      have hcell : Hid (∀ u : World, Below w.heap.size w u → u.cell? ⟨b, off + i * 5 + 1, none⟩ = some (.bool l[i].dir)) := fun u hu => (hc.below hu hb) i hlt 1 _ rfl
      go_enter Tryd.func98, Tryd.ntmps98
      go_wp2_with (first | (go_at_call 113; refine (parent_any _ _ (by omega) (lastIdx_le _)).mono ?_; rintro e w1 ⟨rfl, rfl⟩) | (go_at_call 99; refine (find_any b off cap l _ _ _ hl hs hps hb hc).mono ?_; rintro e w2 ⟨rfl, hb2⟩; rw [hi]; have k1 := hcell.out w2 hb2))
      go_ret
      exact ⟨ret_bool hv.symm, hb2⟩

set_option maxHeartbeats 1000000 in
theorem isNamed_any (o : EntD) (w : World) (ho : o.small) :
    Calls Tryd.prog 53 #[.agg #[.string o.path, .bool o.dir, .int .i64 o.id, .int .i64 o.size, .int .i64 o.mode]] w fun e w' => e = .returned (.bool (pathL o.path.data.toList)) ∧ Below w.heap.size w w' := by
  have hb : ∀ ob, Below w.heap.size w (w.alloc ob) := fun ob => (Below.refl _ _).alloc (Nat.le_refl _) ob
  go_enter Tryd.func53, Tryd.ntmps53
  go_wp2_with (go_at_call 80; refine (isPath_in _ _ ho).mono ?_; rintro e w1 ⟨rfl, hb1⟩)
  go_ret
  exact ⟨rfl, (hb _).trans (hb1.mono (by simp))⟩

/-- What is wrong with entry i: the first thing; 0: nothing. -/
def entErr (l : List EntD) (i : Nat) (e : EntD) (fold : Bool) : Int :=
  if fieldsB e = false then 4
  else if 0 < i ∧ 0 ≤ cmpL ((l[i - 1]?.map (·.path.data.toList)).getD []) e.path.data.toList then 3
  else if hasParB l e.path = false then 2
  else if fold = true ∧ 0 ≤ fstI (fun o => sameB true o.path.data.toList e.path.data.toList) (l.take i) then 8
  else if otherB (l.take i) e = true then 6 else 0

/-- The entry's own box, and what was there ahead of the call. -/
structure Eb (w : World) (e : EntD) (u : World) : Prop where
  bel : Below w.heap.size w u
  box : u.heap[w.heap.size]? = some (.cells e.cells.toArray 61 (0, 0))
theorem Eb.start (w : World) (e : EntD) : Eb w e (w.alloc (.cells e.cells.toArray 61)) := ⟨(Below.refl _ _).alloc (Nat.le_refl _) _, heap_alloc_new w _⟩
theorem Eb.below {w u u' : World} {e : EntD} (h : Eb w e u) (hb : Below u.heap.size u u') : Eb w e u' :=
  ⟨h.bel.trans (hb.mono h.bel.size), (hb.block _ (Array.getElem?_eq_some_iff.1 h.box).1).trans h.box⟩
theorem Eb.cell {w u : World} {e : EntD} (h : Eb w e u) (j : Nat) : u.cell? ⟨w.heap.size, j, none⟩ = e.cells[j]? := by
  rw [Lib.cell_of_heap h.box]; simp
theorem Eb.lt {w u : World} {e : EntD} (h : Eb w e u) : w.heap.size < u.heap.size := (Array.getElem?_eq_some_iff.1 h.box).1

theorem hasOther_n (b off cap n : Nat) (l : List EntD) (e : EntD) (w : World) (hn : n ≤ l.length) (hl : l.length ≤ 2000000) (hb : b < w.heap.size) (hc : EntsAt w b off l) :
    Calls Tryd.prog 100 #[.slice (some ⟨b, off, none⟩) n cap, .agg #[.string e.path, .bool e.dir, .int .i64 e.id, .int .i64 e.size, .int .i64 e.mode]] w fun r w' => r = .returned (.bool (otherB (l.take n) e)) ∧ Below w.heap.size w w' := by
  have h := hasOther_any b off cap (l.take n) e w (by simp; omega) hb (hc.take n)
  rw [show (l.take n).length = n by simp; omega] at h
  exact h
theorem Eb.drewN {w u : World} {e : EntD} (h : Eb w e u) (n : Nat) : Eb w e (u.drewN n) := ⟨h.bel.trans ⟨rfl, rfl, rfl, Nat.le_refl _, fun _ _ => rfl⟩, h.box⟩
theorem Eb.drew {w u : World} {e : EntD} (h : Eb w e u) : Eb w e u.drew := ⟨h.bel.trans ⟨rfl, rfl, rfl, Nat.le_refl _, fun _ _ => rfl⟩, h.box⟩

set_option maxHeartbeats 2000000 in
theorem entryError_bad (b off cap : Nat) (l : List EntD) (i : Nat) (e : EntD) (fold : Bool) (w : World) (hi : i < l.length) (hx : l[i] = e) (hl : l.length ≤ 2000000) (hb : b < w.heap.size) (hc : EntsAt w b off l) (h1 : fieldsB e = false) :
    Calls Tryd.prog 79 #[.slice (some ⟨b, off, none⟩) l.length cap, .int .i64 i, .bool fold] w fun r w' => r = .returned (.int .i64 (entErr l i e fold)) ∧ Below w.heap.size w w' := by
  have hcw := hc i hi
  rw [hx] at hcw
  have c0 := hcw 0 _ rfl
  have c1 := hcw 1 _ rfl
  have c2 := hcw 2 _ rfl
  have c3 := hcw 3 _ rfl
  have c4 := hcw 4 _ rfl
  simp only [Nat.add_zero] at c0
  clear hcw
  have st := Eb.start w e
  have hv : entErr l i e fold = 4 := by rw [entErr, if_pos h1]
  go_enter Tryd.func79, Tryd.ntmps79
  go_wp2_with (go_at_call 97; refine (fieldsFit_any e _).mono ?_; rintro r w1 ⟨rfl, hb1⟩; rw [h1])
  go_ret
  exact ⟨by rw [hv]; rfl, (st.below hb1).bel⟩

set_option maxHeartbeats 2000000 in
theorem entryError_0 (b off cap : Nat) (l : List EntD) (e : EntD) (w : World) (hi : 0 < l.length) (hx : l[0] = e) (hl : l.length ≤ 2000000) (hcap : l.length ≤ cap) (hs : ∀ o ∈ l, o.small) (hb : b < w.heap.size) (hc : EntsAt w b off l) (h1 : fieldsB e = true) :
    Calls Tryd.prog 79 #[.slice (some ⟨b, off, none⟩) l.length cap, .int .i64 (0 : Nat), .bool false] w fun r w' => r = .returned (.int .i64 (entErr l 0 e false)) ∧ Below w.heap.size w w' := by
  have hcw := hc 0 hi
  rw [hx] at hcw
  have c0 := hcw 0 _ rfl
  have c1 := hcw 1 _ rfl
  have c2 := hcw 2 _ rfl
  have c3 := hcw 3 _ rfl
  have c4 := hcw 4 _ rfl
  simp only [Nat.add_zero, Nat.zero_mul] at c0 c1 c2 c3 c4
  clear hcw
  have hsm : e.small := hx ▸ hs _ (List.getElem_mem hi)
  have st := Eb.start w e
  by_cases h2 : hasParB l e.path = true
  · have h3 : otherB (l.take 0) e = false := rfl
    have hv : entErr l 0 e false = 0 := by rw [entErr, h1, if_neg (by simp), if_neg (by simp), h2, if_neg (by simp), if_neg (by simp), h3, if_neg (by simp)]
    go_enter Tryd.func79, Tryd.ntmps79
    go_wp2_with (go_at_call 97; refine (fieldsFit_any e _).mono ?_; rintro r w1 ⟨rfl, hb1⟩; rw [h1]; have s1 := st.below hb1; have k0 := s1.cell 0; have k1 := s1.cell 1; have k2 := s1.cell 2; have k3 := s1.cell 3; have k4 := s1.cell 4; simp [EntD.cells] at k0 k1 k2 k3 k4)
    go_quiet (fail)
    have s1' := s1.drewN nq
    clear k0 k1 k2 k3 k4
    generalize w1.drewN nq = u1 at *
    have k0 := s1'.cell 0
    simp [EntD.cells] at k0
    go_wp2_with (go_at_call 98; refine (hasParent_any b off cap l _ _ hl hs hsm (by have := s1'.lt; omega) (hc.below s1'.bel hb)).mono ?_; rintro r w2 ⟨rfl, hb2⟩; rw [h2]; have s2 := s1'.below hb2)
    go_quiet (fail)
    have s2' := s2.drewN nq
    generalize w2.drewN nq = u2 at *
    have k0 := s2'.cell 0
    have k1 := s2'.cell 1
    have k2 := s2'.cell 2
    have k3 := s2'.cell 3
    have k4 := s2'.cell 4
    simp [EntD.cells] at k0 k1 k2 k3 k4
    go_wp2
    go_region_held (fun u => u.cell? ⟨w.heap.size, 0, none⟩ = some (.string e.path) ∧ u.cell? ⟨w.heap.size, 1, none⟩ = some (.bool e.dir) ∧ u.cell? ⟨w.heap.size, 2, none⟩ = some (.int .i64 e.id) ∧ u.cell? ⟨w.heap.size, 3, none⟩ = some (.int .i64 e.size) ∧ u.cell? ⟨w.heap.size, 4, none⟩ = some (.int .i64 e.mode)) (go_keep) (first | (go_at_call 100; refine (hasOther_n b off cap 0 l e _ (by omega) hl (by have := s2'.drew.lt; omega) (hc.below s2'.drew.bel hb)).mono ?_; rintro r w' ⟨rfl, hb3⟩; rw [h3]; have s4 := s2'.drew.below hb3; have m0 := s4.cell 0; have m1 := s4.cell 1; have m2 := s4.cell 2; have m3 := s4.cell 3; have m4 := s4.cell 4; simp [EntD.cells] at m0 m1 m2 m3 m4))
    all_goals
      go_wp2
      go_ret
      exact ⟨by rw [hv]; rfl, s4.bel⟩
  · simp only [Bool.not_eq_true] at h2
    have hv : entErr l 0 e false = 2 := by rw [entErr, h1, if_neg (by simp), if_neg (by simp), if_pos h2]
    go_enter Tryd.func79, Tryd.ntmps79
    go_wp2_with (go_at_call 97; refine (fieldsFit_any e _).mono ?_; rintro r w1 ⟨rfl, hb1⟩; rw [h1]; have s1 := st.below hb1; have k0 := s1.cell 0; have k1 := s1.cell 1; have k2 := s1.cell 2; have k3 := s1.cell 3; have k4 := s1.cell 4; simp [EntD.cells] at k0 k1 k2 k3 k4)
    go_quiet (fail)
    have s1' := s1.drewN nq
    clear k0 k1 k2 k3 k4
    generalize w1.drewN nq = u1 at *
    have k0 := s1'.cell 0
    simp [EntD.cells] at k0
    go_wp2_with (go_at_call 98; refine (hasParent_any b off cap l _ _ hl hs hsm (by have := s1'.lt; omega) (hc.below s1'.bel hb)).mono ?_; rintro r w2 ⟨rfl, hb2⟩; rw [h2]; have s2 := s1'.below hb2)
    go_ret
    exact ⟨by rw [hv]; rfl, s2.bel⟩

set_option maxHeartbeats 4000000 in
theorem entryError_pos (b off cap m : Nat) (l : List EntD) (o e : EntD) (w : World) (hi : m + 1 < l.length) (hy : l[m] = o) (hx : l[m + 1] = e) (hl : l.length ≤ 2000000) (hcap : l.length ≤ cap) (hs : ∀ o ∈ l, o.small) (hb : b < w.heap.size) (hc : EntsAt w b off l) (h1 : fieldsB e = true) :
    Calls Tryd.prog 79 #[.slice (some ⟨b, off, none⟩) l.length cap, .int .i64 (m + 1 : Nat), .bool false] w fun r w' => r = .returned (.int .i64 (entErr l (m + 1) e false)) ∧ Below w.heap.size w w' := by
  have hcw := hc (m + 1) hi
  rw [hx] at hcw
  have c0 := hcw 0 _ rfl
  have c1 := hcw 1 _ rfl
  have c2 := hcw 2 _ rfl
  have c3 := hcw 3 _ rfl
  have c4 := hcw 4 _ rfl
  simp only [Nat.add_zero] at c0
  clear hcw
  have hsm : e.small := hx ▸ hs _ (List.getElem_mem hi)
  have hso : o.small := hy ▸ hs _ (List.getElem_mem (by omega))
  unfold EntD.small at hsm hso
  have hpv : (l[m + 1 - 1]?.map (·.path.data.toList)).getD [] = o.path.data.toList := by
    rw [show m + 1 - 1 = m by omega, List.getElem?_eq_getElem (by omega : m < l.length), hy]; rfl
  have st := Eb.start w e
  by_cases hcm : 0 ≤ cmpL o.path.data.toList e.path.data.toList
  · have hv : entErr l (m + 1) e false = 3 := by rw [entErr, h1, if_neg (by simp), hpv, if_pos ⟨by omega, hcm⟩]
    go_enter Tryd.func79, Tryd.ntmps79
    go_wp2_with (go_at_call 97; refine (fieldsFit_any e _).mono ?_; rintro r w1 ⟨rfl, hb1⟩; rw [h1]; have s1 := st.below hb1; have k0 := s1.cell 0; simp [EntD.cells] at k0; have p0 := (hc.below s1.bel hb) m (by omega) 0 _ rfl; simp only [Nat.add_zero] at p0; rw [hy] at p0)
    go_quiet (first | (go_at_call 83; exact Calls.quiet_of (compare_any _ _ _ (by omega) (by omega))))
    have s1' := s1.drewN nq
    clear k0 p0
    generalize w1.drewN nq = u1 at *
    have k0 := s1'.cell 0
    simp [EntD.cells] at k0
    go_wp2
    go_ret
    exact ⟨by rw [hv]; rfl, s1'.bel⟩
  · by_cases h2 : hasParB l e.path = true
    · by_cases h3 : otherB (l.take (m + 1)) e = true
      · have hv : entErr l (m + 1) e false = 6 := by rw [entErr, h1, if_neg (by simp), hpv, if_neg (by omega), h2, if_neg (by simp), if_neg (by simp), if_pos h3]
        go_enter Tryd.func79, Tryd.ntmps79
        go_wp2_with (go_at_call 97; refine (fieldsFit_any e _).mono ?_; rintro r w1 ⟨rfl, hb1⟩; rw [h1]; have s1 := st.below hb1; have k0 := s1.cell 0; simp [EntD.cells] at k0; have p0 := (hc.below s1.bel hb) m (by omega) 0 _ rfl; simp only [Nat.add_zero] at p0; rw [hy] at p0)
        go_quiet (first | (go_at_call 83; exact Calls.quiet_of (compare_any _ _ _ (by omega) (by omega))))
        have s1' := s1.drewN nq
        clear k0 p0
        generalize w1.drewN nq = u1 at *
        have k0 := s1'.cell 0
        simp [EntD.cells] at k0
        go_wp2_with (go_at_call 98; refine (hasParent_any b off cap l _ _ hl hs hsm (by have := s1'.lt; omega) (hc.below s1'.bel hb)).mono ?_; rintro r w2 ⟨rfl, hb2⟩; rw [h2]; have s2 := s1'.below hb2)
        go_quiet (fail)
        have s2' := s2.drewN nq
        generalize w2.drewN nq = u2 at *
        have k0 := s2'.cell 0
        have k1 := s2'.cell 1
        have k2 := s2'.cell 2
        have k3 := s2'.cell 3
        have k4 := s2'.cell 4
        simp [EntD.cells] at k0 k1 k2 k3 k4
        go_wp2
        go_region_held (fun u => u.cell? ⟨w.heap.size, 0, none⟩ = some (.string e.path) ∧ u.cell? ⟨w.heap.size, 1, none⟩ = some (.bool e.dir) ∧ u.cell? ⟨w.heap.size, 2, none⟩ = some (.int .i64 e.id) ∧ u.cell? ⟨w.heap.size, 3, none⟩ = some (.int .i64 e.size) ∧ u.cell? ⟨w.heap.size, 4, none⟩ = some (.int .i64 e.mode)) (go_keep) (first | (go_at_call 100; refine (hasOther_n b off cap (m + 1) l e _ (by omega) hl (by have := s2'.drew.lt; omega) (hc.below s2'.drew.bel hb)).mono ?_; rintro r w' ⟨rfl, hb3⟩; rw [h3]; have s4 := s2'.drew.below hb3; have m0 := s4.cell 0; have m1 := s4.cell 1; have m2 := s4.cell 2; have m3 := s4.cell 3; have m4 := s4.cell 4; simp [EntD.cells] at m0 m1 m2 m3 m4))
        all_goals
          go_wp2
          go_ret
          exact ⟨by rw [hv]; rfl, s4.bel⟩
      · have hv : entErr l (m + 1) e false = 0 := by rw [entErr, h1, if_neg (by simp), hpv, if_neg (by omega), h2, if_neg (by simp), if_neg (by simp), if_neg h3]
        simp only [Bool.not_eq_true] at h3
        go_enter Tryd.func79, Tryd.ntmps79
        go_wp2_with (go_at_call 97; refine (fieldsFit_any e _).mono ?_; rintro r w1 ⟨rfl, hb1⟩; rw [h1]; have s1 := st.below hb1; have k0 := s1.cell 0; simp [EntD.cells] at k0; have p0 := (hc.below s1.bel hb) m (by omega) 0 _ rfl; simp only [Nat.add_zero] at p0; rw [hy] at p0)
        go_quiet (first | (go_at_call 83; exact Calls.quiet_of (compare_any _ _ _ (by omega) (by omega))))
        have s1' := s1.drewN nq
        clear k0 p0
        generalize w1.drewN nq = u1 at *
        have k0 := s1'.cell 0
        simp [EntD.cells] at k0
        go_wp2_with (go_at_call 98; refine (hasParent_any b off cap l _ _ hl hs hsm (by have := s1'.lt; omega) (hc.below s1'.bel hb)).mono ?_; rintro r w2 ⟨rfl, hb2⟩; rw [h2]; have s2 := s1'.below hb2)
        go_quiet (fail)
        have s2' := s2.drewN nq
        generalize w2.drewN nq = u2 at *
        have k0 := s2'.cell 0
        have k1 := s2'.cell 1
        have k2 := s2'.cell 2
        have k3 := s2'.cell 3
        have k4 := s2'.cell 4
        simp [EntD.cells] at k0 k1 k2 k3 k4
        go_wp2
        go_region_held (fun u => u.cell? ⟨w.heap.size, 0, none⟩ = some (.string e.path) ∧ u.cell? ⟨w.heap.size, 1, none⟩ = some (.bool e.dir) ∧ u.cell? ⟨w.heap.size, 2, none⟩ = some (.int .i64 e.id) ∧ u.cell? ⟨w.heap.size, 3, none⟩ = some (.int .i64 e.size) ∧ u.cell? ⟨w.heap.size, 4, none⟩ = some (.int .i64 e.mode)) (go_keep) (first | (go_at_call 100; refine (hasOther_n b off cap (m + 1) l e _ (by omega) hl (by have := s2'.drew.lt; omega) (hc.below s2'.drew.bel hb)).mono ?_; rintro r w' ⟨rfl, hb3⟩; rw [h3]; have s4 := s2'.drew.below hb3; have m0 := s4.cell 0; have m1 := s4.cell 1; have m2 := s4.cell 2; have m3 := s4.cell 3; have m4 := s4.cell 4; simp [EntD.cells] at m0 m1 m2 m3 m4))
        all_goals
          go_wp2
          go_ret
          exact ⟨by rw [hv]; rfl, s4.bel⟩
    · simp only [Bool.not_eq_true] at h2
      have hv : entErr l (m + 1) e false = 2 := by rw [entErr, h1, if_neg (by simp), hpv, if_neg (by omega), if_pos h2]
      go_enter Tryd.func79, Tryd.ntmps79
      go_wp2_with (go_at_call 97; refine (fieldsFit_any e _).mono ?_; rintro r w1 ⟨rfl, hb1⟩; rw [h1]; have s1 := st.below hb1; have k0 := s1.cell 0; simp [EntD.cells] at k0; have p0 := (hc.below s1.bel hb) m (by omega) 0 _ rfl; simp only [Nat.add_zero] at p0; rw [hy] at p0)
      go_quiet (first | (go_at_call 83; exact Calls.quiet_of (compare_any _ _ _ (by omega) (by omega))))
      have s1' := s1.drewN nq
      clear k0 p0
      generalize w1.drewN nq = u1 at *
      have k0 := s1'.cell 0
      simp [EntD.cells] at k0
      go_wp2_with (go_at_call 98; refine (hasParent_any b off cap l _ _ hl hs hsm (by have := s1'.lt; omega) (hc.below s1'.bel hb)).mono ?_; rintro r w2 ⟨rfl, hb2⟩; rw [h2]; have s2 := s1'.below hb2)
      go_ret
      exact ⟨by rw [hv]; rfl, s2.bel⟩

theorem entryError_any (b off cap : Nat) (l : List EntD) (i : Nat) (e : EntD) (w : World) (hi : i < l.length) (hx : l[i] = e) (hl : l.length ≤ 2000000) (hcap : l.length ≤ cap) (hs : ∀ o ∈ l, o.small) (hb : b < w.heap.size) (hc : EntsAt w b off l) :
    Calls Tryd.prog 79 #[.slice (some ⟨b, off, none⟩) l.length cap, .int .i64 i, .bool false] w fun r w' => r = .returned (.int .i64 (entErr l i e false)) ∧ Below w.heap.size w w' := by
  by_cases h1 : fieldsB e = true
  · cases i with
    | zero => exact entryError_0 b off cap l e w hi hx hl hcap hs hb hc h1
    | succ m => exact entryError_pos b off cap m l _ e w hi rfl hx hl hcap hs hb hc h1
  · exact entryError_bad b off cap l i e false w hi hx hl hb hc (by simpa using h1)
end Go.Proofs.YtjaepomjdknieaaDoor
