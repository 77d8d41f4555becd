/- XC, VM, VS, VT: in one text. -/
import Derived.Test.YtpjjagalekolaaaGreatDoorP17
/- The document's volume: a path's last name; where a path would lie. -/
namespace Go.Proofs.YtpjjagalekolaaaGreatDoor
open Go.RowKit
set_option linter.unusedVariables false
set_option linter.unusedSimpArgs false

theorem last_row (out : List ByteArray) (s : BL) (h : out.map (·.data.toList) = spl s) (hp : out.length - 1 < out.length) : out[out.length - 1] = ofL (lastL s) := by
  have h1 : (out.map (·.data.toList))[out.length - 1]? = some (lastL s) := by
    rw [h, spl_last]
    have : out.length = (splSt s).1.length + 1 := by
      have := congrArg List.length h
      rw [spl_last] at this
      simpa using this
    rw [this]
    simp
  rw [List.getElem?_map, List.getElem?_eq_getElem hp] at h1
  have h2 : out[out.length - 1].data.toList = lastL s := by simpa using h1
  rw [← h2, ofL_toList]

set_option maxHeartbeats 1000000 in
theorem refLast (s : ByteArray) (w : World) (hs : s.size ≤ 1500000) :
    Calls Tryz.prog 160 #[.string s] w fun e w' => e = .returned (.string (ofL (lastL s.data.toList))) ∧ Below w.heap.size w w' := by
  go_enter Tryz.func160, Tryz.ntmps160
  go_wp2_with (go_at_call 114; refine (names_row2 _ _ (by omega)).mono ?_; rintro e w1 ⟨g, cap, out, rfl, hcap, hrow, hmap, hb⟩; have hpos : 1 ≤ out.length := (by have := spl_pos s.data.toList; rw [← hmap] at this; simpa using this); have hol : out.length ≤ 1500001 := (by have h1 := spl_length_le s.data.toList; rw [← hmap, List.length_map, lenD] at h1; omega); have hcell := hrow.2.2 (out.length - 1) (by omega); have hl := last_row out s.data.toList hmap (by omega); rw [hl] at hcell; clear hl hmap hrow; obtain ⟨n, hn⟩ : ∃ n, out.length = n + 1 := ⟨out.length - 1, by omega⟩; rw [hn] at hcell hcap hol ⊢; simp only [Nat.add_sub_cancel] at hcell)
  go_ret
  exact ⟨rfl, hb⟩

theorem ofL_join (x : ByteArray) (r : BL) : (x ++ ⟨#[47]⟩) ++ ofL r = ofL (x.data.toList ++ 47 :: r) := by
  apply ByteArray.ext
  apply Array.toList_inj.1
  simp [ofL]
theorem plAns_dir {fold : Bool} {L : List EntD} {p : ByteArray} {o : EntD} (h : (parentB p).toList ≠ []) (hf : L.find? (isAt fold (parentB p).data.toList) = some o) : plAns fold L p = if o.dir then (ofL (o.path.data.toList ++ 47 :: lastL p.data.toList), 0) else (⟨#[]⟩, 2) := by
  rw [par_toList] at h
  rw [parentB_eq] at hf
  have : atP fold L (parentL p.data.toList) = some o := hf
  simp only [plAns, placeL, h, if_false, this]
  cases o.dir <;> rfl
theorem lastL_le (l : BL) : (lastL l).length ≤ l.length := by
  rcases last_cut l with h | ⟨a, b, rfl, hb⟩
  · rw [lastL_none l h]; omega
  · rw [lastL_cut a b hb]; simp; omega

set_option maxHeartbeats 2000000 in
theorem refPlace {w : World} {vb : Nat} {v : Value} {L : List EntD} {fold : Bool} {space : Int} (hv : VolAt w vb v fold space) (hr : RowAt w v L) (hs : SmallL L) (p : ByteArray) (hp : p.size ≤ 1000000) :
    Calls Tryz.prog 109 #[.pointer (some ⟨vb, 0, none⟩), .string p] w fun e w' => e = .returned (.tuple #[.string (plAns fold L p).1, .int .i64 (plAns fold L p).2]) ∧ Below w.heap.size w w' := by
  have hps : (parentB p).size ≤ 1500000 := by have := parentB_small p; omega
  have HPA := hidD (fun u => refParent_any p u (by omega))
  by_cases h0 : ((parentB p).toList == []) = true
  · have hA := plAns_top (fold := fold) (L := L) (beq_iff_eq.1 h0)
    rw [hA]
    clear hA
    go_enter Tryz.func109, Tryz.ntmps109
    go_wp2_with (first | (go_at_call 158; refine (HPA.out _).mono ?_; rintro e w1 ⟨rfl, hb1⟩))
    go_ret2
    exact ⟨rfl, hb1⟩
  · have h0' : (parentB p).toList ≠ [] := fun h => h0 (beq_iff_eq.2 h)
    simp only [Bool.not_eq_true] at h0
    have HF := hidD (fun (u : World) (hu : Below w.heap.size w u) => refAt (hv.below hu hv.lt) (hr.below hu (Nat.le_refl _)) hs (parentB p) hps)
    rcases fstI_find (isAt fold (parentB p).data.toList) L with ⟨hi, hf⟩ | ⟨i, hlt, hi, hf⟩
    · have hA := plAns_none h0' hf
      rw [hA]
      clear hA hf
      rw [hi] at HF
      go_enter Tryz.func109, Tryz.ntmps109
      go_wp2_with (first | (go_at_call 158; refine (HPA.out _).mono ?_; rintro e w1 ⟨rfl, hb1⟩) | (go_at_call 63; refine (HF.out _ hb1).mono ?_; rintro e w2 ⟨rfl, hb2⟩))
      go_ret2
      exact ⟨rfl, hb1.trans (hb2.mono hb1.size)⟩
    · have hA := plAns_dir h0' hf
      rw [hA]
      clear hA hf
      rw [hi] at HF
      cases hr with
      | nil => simp at hlt
      | row b off cap l hlb hc hm h =>
        have hcell : Hid (∀ u : World, Below w.heap.size w u → u.cell? ⟨b, off + i * 5 + 1, none⟩ = some (.bool L[i].dir) ∧ u.cell? ⟨b, off + i * 5, none⟩ = some (.string L[i].path)) := fun u hu => ⟨(h.below hu hlb) i hlt 1 _ rfl, (h.below hu hlb) i hlt 0 _ rfl⟩
        have hll := hs.1
        have hsm : L[i].path.size ≤ 1500000 := hs.2 _ (List.getElem_mem hlt)
        generalize L[i] = o at *
        have HV := hidD hv
        have hvlt := hv.lt
        clear h hs hi
        cases hd : o.dir
        · rw [hd] at hcell
          go_enter Tryz.func109, Tryz.ntmps109
          go_wp2_with (first | (go_at_call 158; refine (HPA.out _).mono ?_; rintro e w1 ⟨rfl, hb1⟩) | (go_at_call 63; refine (HF.out _ hb1).mono ?_; rintro e w2 ⟨rfl, hb2⟩; have u2 := hb1.trans (hb2.mono hb1.size); have c0 := (HV.out.below u2 hvlt).c0; obtain ⟨c1, c2⟩ := hcell.out _ u2))
          go_ret2
          exact ⟨rfl, u2⟩
        · rw [hd] at hcell
          have HLA := hidD (fun u => refLast p u (by omega))
          have hll2 : (ofL (lastL p.data.toList)).size ≤ 1000000 := by
            have h1 := lastL_le p.data.toList
            rw [lenD] at h1
            have : (ofL (lastL p.data.toList)).size = (lastL p.data.toList).length := by simp [ofL, ByteArray.size]
            omega
          have HJ := hidD (ofL_join o.path (lastL p.data.toList))
          generalize ofL (lastL p.data.toList) = la at *
          have hz1 : (o.path ++ ⟨#[47]⟩ : ByteArray).size = o.path.size + 1 := by simp [ByteArray.size_append]; rfl
          go_enter Tryz.func109, Tryz.ntmps109
          go_wp2_with (first | (go_at_call 158; refine (HPA.out _).mono ?_; rintro e w1 ⟨rfl, hb1⟩) | (go_at_call 63; refine (HF.out _ hb1).mono ?_; rintro e w2 ⟨rfl, hb2⟩; have u2 := hb1.trans (hb2.mono hb1.size); have c0 := (HV.out.below u2 hvlt).c0; obtain ⟨c1, c2⟩ := hcell.out _ u2))
          go_region_held (fun u => u.cell? ⟨vb, 0, none⟩ = some (.slice (some ⟨b, off, none⟩) L.length cap) ∧ u.cell? ⟨b, off + i * 5, none⟩ = some (.string o.path)) (go_keep) (first | (go_at_call 160; refine (HLA.out _).mono ?_; rintro e w3 ⟨rfl, hb3⟩; have u3 : Below w.heap.size w w3 := (u2.trans (below_drewE w2 1)).trans (hb3.mono u2.size); have g0 := (HV.out.below u3 hvlt).c0; obtain ⟨g1, g2⟩ := hcell.out _ u3))
          all_goals go_wp2
          all_goals go_ret2
          all_goals exact ⟨by rw [← HJ.out]; rfl, u3⟩
end Go.Proofs.YtpjjagalekolaaaGreatDoor

/- A volume in memory: write. -/
namespace Go.Proofs.YtpjjagalekolaaaGreatDoor
open Go.RowKit
set_option linter.unusedVariables false
set_option linter.unusedSimpArgs false

set_option maxHeartbeats 1000000 in
theorem hasOther_nil (e : EntD) (w : World) :
    Calls Tryz.prog 91 #[.slice none 0 0, .agg #[.string e.path, .bool e.dir, .int .i64 e.id, .int .i64 e.size, .int .i64 e.mode]] w fun r w' => r = .returned (.bool false) ∧ Below w.heap.size w w' := by
  have hb1 : Below w.heap.size w (w.alloc (.cells #[.string e.path, .bool e.dir, .int .i64 e.id, .int .i64 e.size, .int .i64 e.mode] 56)) := (Below.refl _ _).alloc (Nat.le_refl _) _
  go_enter Tryz.func91, Tryz.ntmps91
  go_wp2
  refine wp_loop_rounds 1 ?_
  rw [rounds_succ]
  go_wp2
  go_ret
  exact ⟨rfl, hb1⟩
theorem vother {w : World} {v : Value} {L : List EntD} (hr : RowAt w v L) (hl : L.length ≤ 120) (e : EntD) : ∀ u : World, Below w.heap.size w u → Calls Tryz.prog 91 #[v, .agg #[.string e.path, .bool e.dir, .int .i64 e.id, .int .i64 e.size, .int .i64 e.mode]] u fun r u' => r = .returned (.bool (otherB L e)) ∧ Below u.heap.size u u' := by
  intro u hu
  cases hr with
  | nil => exact hasOther_nil e u
  | row b off cap l hlt hc hm h => exact hasOther_any b off cap L e u (by omega) (by have := hu.size; omega) (h.below hu hlt)

end Go.Proofs.YtpjjagalekolaaaGreatDoor

/- A volume in memory: copy, whole; the operations but rename against the plain one. -/
namespace Go.Proofs.YtpjjagalekolaaaGreatDoor
open Go.RowKit
set_option linter.unusedVariables false
set_option linter.unusedSimpArgs false

end Go.Proofs.YtpjjagalekolaaaGreatDoor

/- A volume in memory: the entries behind an operation; rename's own function is handed in. -/
namespace Go.Proofs.YtpjjagalekolaaaGreatDoor
open Go.RowKit
set_option linter.unusedVariables false
set_option linter.unusedSimpArgs false

end Go.Proofs.YtpjjagalekolaaaGreatDoor

