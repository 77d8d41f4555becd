/- XC, VR, VO, VP, VM, VN, VS, VT: in one text. -/
import Derived.Test.YtehkdjdflgknnaaGreatDoorY14
import Derived.Laws.OwnMore
/- The document's volume: a path's last name; where a path would lie. -/
namespace Go.Proofs.YtehkdjdflgknnaaGreatDoor
open Go.RowKit
set_option linter.unusedVariables false
set_option linter.unusedSimpArgs false

theorem last_row (out : List ByteArray) (s : BL) (h : out.map (·.data.toList) = spl s) (hp : out.length - 1 < out.length) : out[out.length - 1] = ofL (lastL s) := by
  have h1 : (out.map (·.data.toList))[out.length - 1]? = some (lastL s) := by
    rw [h, spl_last]
    have : out.length = (splSt s).1.length + 1 := by
      have := congrArg List.length h
      rw [spl_last] at this
      simpa using this
    rw [this]
    simp
  rw [List.getElem?_map, List.getElem?_eq_getElem hp] at h1
  have h2 : out[out.length - 1].data.toList = lastL s := by simpa using h1
  rw [← h2, ofL_toList]

set_option maxHeartbeats 1000000 in
theorem refLast (s : ByteArray) (w : World) (hs : s.size ≤ 1500000) :
    Calls Tryz.prog 96 #[.string s] w fun e w' => e = .returned (.string (ofL (lastL s.data.toList))) ∧ Below w.heap.size w w' := by
  go_enter Tryz.func96, Tryz.ntmps96
  go_wp2_with (go_at_call 76; refine (names_row2 _ _ (by omega)).mono ?_; rintro e w1 ⟨g, cap, out, rfl, hcap, hrow, hmap, hb⟩; have hpos : 1 ≤ out.length := (by have := spl_pos s.data.toList; rw [← hmap] at this; simpa using this); have hol : out.length ≤ 1500001 := (by have h1 := spl_length_le s.data.toList; rw [← hmap, List.length_map, lenD] at h1; omega); have hcell := hrow.2.2 (out.length - 1) (by omega); have hl := last_row out s.data.toList hmap (by omega); rw [hl] at hcell; clear hl hmap hrow; obtain ⟨n, hn⟩ : ∃ n, out.length = n + 1 := ⟨out.length - 1, by omega⟩; rw [hn] at hcell hcap hol ⊢; simp only [Nat.add_sub_cancel] at hcell)
  go_ret
  exact ⟨rfl, hb⟩

theorem ofL_join (x : ByteArray) (r : BL) : (x ++ ⟨#[47]⟩) ++ ofL r = ofL (x.data.toList ++ 47 :: r) := by
  apply ByteArray.ext
  apply Array.toList_inj.1
  simp [ofL]
theorem plAns_dir {fold : Bool} {L : List EntD} {p : ByteArray} {o : EntD} (h : (parentB p).toList ≠ []) (hf : L.find? (isAt fold (parentB p).data.toList) = some o) : plAns fold L p = if o.dir then (ofL (o.path.data.toList ++ 47 :: lastL p.data.toList), 0) else (⟨#[]⟩, 2) := by
  rw [par_toList] at h
  rw [parentB_eq] at hf
  have : atP fold L (parentL p.data.toList) = some o := hf
  simp only [plAns, placeL, h, if_false, this]
  cases o.dir <;> rfl
theorem lastL_le (l : BL) : (lastL l).length ≤ l.length := by
  rcases last_cut l with h | ⟨a, b, rfl, hb⟩
  · rw [lastL_none l h]; omega
  · rw [lastL_cut a b hb]; simp; omega

set_option maxHeartbeats 2000000 in
theorem refPlace {w : World} {vb : Nat} {v : Value} {L : List EntD} {fold : Bool} {space : Int} (hv : VolAt w vb v fold space) (hr : RowAt w v L) (hs : SmallL L) (p : ByteArray) (hp : p.size ≤ 1000000) :
    Calls Tryz.prog 71 #[.pointer (some ⟨vb, 0, none⟩), .string p] w fun e w' => e = .returned (.tuple #[.string (plAns fold L p).1, .int .i64 (plAns fold L p).2]) ∧ Below w.heap.size w w' := by
  have hps : (parentB p).size ≤ 1500000 := by have := parentB_small p; omega
  have HPA := hidD (fun u => refParent_any p u (by omega))
  by_cases h0 : ((parentB p).toList == []) = true
  · have hA := plAns_top (fold := fold) (L := L) (beq_iff_eq.1 h0)
    rw [hA]
    clear hA
    go_enter Tryz.func71, Tryz.ntmps71
    go_wp2_with (first | (go_at_call 79; refine (HPA.out _).mono ?_; rintro e w1 ⟨rfl, hb1⟩))
    go_ret2
    exact ⟨rfl, hb1⟩
  · have h0' : (parentB p).toList ≠ [] := fun h => h0 (beq_iff_eq.2 h)
    simp only [Bool.not_eq_true] at h0
    have HF := hidD (fun (u : World) (hu : Below w.heap.size w u) => refAt (hv.below hu hv.lt) (hr.below hu (Nat.le_refl _)) hs (parentB p) hps)
    rcases fstI_find (isAt fold (parentB p).data.toList) L with ⟨hi, hf⟩ | ⟨i, hlt, hi, hf⟩
    · have hA := plAns_none h0' hf
      rw [hA]
      clear hA hf
      rw [hi] at HF
      go_enter Tryz.func71, Tryz.ntmps71
      go_wp2_with (first | (go_at_call 79; refine (HPA.out _).mono ?_; rintro e w1 ⟨rfl, hb1⟩) | (go_at_call 51; refine (HF.out _ hb1).mono ?_; rintro e w2 ⟨rfl, hb2⟩))
      go_ret2
      exact ⟨rfl, hb1.trans (hb2.mono hb1.size)⟩
    · have hA := plAns_dir h0' hf
      rw [hA]
      clear hA hf
      rw [hi] at HF
      cases hr with
      | nil => simp at hlt
      | row b off cap l hlb hc hm h =>
        have hcell : Hid (∀ u : World, Below w.heap.size w u → u.cell? ⟨b, off + i * 5 + 1, none⟩ = some (.bool L[i].dir) ∧ u.cell? ⟨b, off + i * 5, none⟩ = some (.string L[i].path)) := fun u hu => ⟨(h.below hu hlb) i hlt 1 _ rfl, (h.below hu hlb) i hlt 0 _ rfl⟩
        have hll := hs.1
        have hsm : L[i].path.size ≤ 1500000 := hs.2 _ (List.getElem_mem hlt)
        generalize L[i] = o at *
        have HV := hidD hv
        have hvlt := hv.lt
        clear h hs hi
        cases hd : o.dir
        · rw [hd] at hcell
          go_enter Tryz.func71, Tryz.ntmps71
          go_wp2_with (first | (go_at_call 79; refine (HPA.out _).mono ?_; rintro e w1 ⟨rfl, hb1⟩) | (go_at_call 51; refine (HF.out _ hb1).mono ?_; rintro e w2 ⟨rfl, hb2⟩; have u2 := hb1.trans (hb2.mono hb1.size); have c0 := (HV.out.below u2 hvlt).c0; obtain ⟨c1, c2⟩ := hcell.out _ u2))
          go_ret2
          exact ⟨rfl, u2⟩
        · rw [hd] at hcell
          have HLA := hidD (fun u => refLast p u (by omega))
          have hll2 : (ofL (lastL p.data.toList)).size ≤ 1000000 := by
            have h1 := lastL_le p.data.toList
            rw [lenD] at h1
            have : (ofL (lastL p.data.toList)).size = (lastL p.data.toList).length := by simp [ofL, ByteArray.size]
            omega
          have HJ := hidD (ofL_join o.path (lastL p.data.toList))
          generalize ofL (lastL p.data.toList) = la at *
          have hz1 : (o.path ++ ⟨#[47]⟩ : ByteArray).size = o.path.size + 1 := by simp [ByteArray.size_append]; rfl
          go_enter Tryz.func71, Tryz.ntmps71
          go_wp2_with (first | (go_at_call 79; refine (HPA.out _).mono ?_; rintro e w1 ⟨rfl, hb1⟩) | (go_at_call 51; refine (HF.out _ hb1).mono ?_; rintro e w2 ⟨rfl, hb2⟩; have u2 := hb1.trans (hb2.mono hb1.size); have c0 := (HV.out.below u2 hvlt).c0; obtain ⟨c1, c2⟩ := hcell.out _ u2))
          go_region_held (fun u => u.cell? ⟨vb, 0, none⟩ = some (.slice (some ⟨b, off, none⟩) L.length cap) ∧ u.cell? ⟨b, off + i * 5, none⟩ = some (.string o.path)) (go_keep) (first | (go_at_call 96; refine (HLA.out _).mono ?_; rintro e w3 ⟨rfl, hb3⟩; have u3 : Below w.heap.size w w3 := (u2.trans (below_drewE w2 1)).trans (hb3.mono u2.size); have g0 := (HV.out.below u3 hvlt).c0; obtain ⟨g1, g2⟩ := hcell.out _ u3))
          all_goals go_wp2
          all_goals go_ret2
          all_goals exact ⟨by rw [← HJ.out]; rfl, u3⟩
end Go.Proofs.YtehkdjdflgknnaaGreatDoor

/- A volume in memory: chmod. -/
namespace Go.Proofs.YtehkdjdflgknnaaGreatDoor
open Go.RowKit
set_option linter.unusedVariables false
set_option linter.unusedSimpArgs false

theorem flatE_set (L : List EntD) (m : Int) : ∀ (i : Nat) (h : i < L.length), flatE (L.set i { L[i] with mode := m }) = (flatE L).set (i * 5 + 4) (.int .i64 m) := by
  induction L with
  | nil => intro i h; simp at h
  | cons o L ih =>
    intro i h
    cases i with
    | zero => simp [flatE, EntD.cells]
    | succ i =>
      have h' : i < L.length := by simpa using h
      have := ih i h'
      simp only [List.set_cons_succ, List.getElem_cons_succ]
      simp only [flatE, List.map_cons, List.flatten_cons] at *
      rw [this, List.set_append_right _ _ (by simp [EntD.cells]; omega)]
      congr 2
      simp [EntD.cells]; omega

theorem own_some {w : World} {B : Nat} {v : Value} {n : Nat} {xs : List Value} (h : w.ownsRow B 75 5 v n xs) (hn : 0 < n) : ∃ g c, v = .slice (some ⟨g, 0, none⟩) n c := by
  rcases h.2 with ⟨rfl, rfl⟩ | ⟨g, cap, cur, rfl, _⟩
  · omega
  · exact ⟨_, _, rfl⟩

set_option maxHeartbeats 2000000 in
theorem vchmod {w : World} {vb : Nat} {v : Value} {L : List EntD} {fold : Bool} {space : Int} (V : Vm w vb v L fold space) (o : OpD) (ho : o.small) :
    Calls Tryz.prog 90 #[.pointer (some ⟨vb, 0, none⟩), o.val] w fun r w' => Ans w.heap.size (match L[atI fold L o.pl]? with | none => .error 9 | some e => .ok (L.set (atI fold L o.pl) { e with mode := o.mode })) r w' ∧ Below w.heap.size w w' := by
  have ST := hidD (Ob.start w o)
  have HF := hidD (fun (u : World) (hu : Below w.heap.size w u) => vfind (V.below hu).vol (V.below hu).row V.smallL o.path ho.1)
  have k1 := ST.out.cell 1
  simp [OpD.cells] at k1
  rw [show o.path.data.toList = o.pl from rfl] at HF
  rcases fstI_at fold L o.pl with ⟨hi, hf⟩ | ⟨hlt, hi, hf⟩
  · rw [hi] at HF
    rw [hf]
    unfold OpD.val Ans
    go_enter Tryz.func90, Tryz.ntmps90
    go_wp2_with (go_at_call 101; refine (HF.out _ ST.out.bel).mono ?_; rintro r w1 ⟨rfl, hb1⟩)
    go_ret2
    exact ⟨rfl, (ST.out.below hb1).bel⟩
  · rw [hi] at HF
    rw [hf]
    have HV := hidD V.vol
    have hvlt := V.vol.lt
    have hll := V.len
    have hrow := V.row
    clear V hi hf
    generalize atI fold L o.pl = i at *
    have HFS := hidD (flatE_set L o.mode i hlt)
    have hls : (L.set i { L[i] with mode := o.mode }).length = L.length := by simp
    cases hrow with
    | nil => simp at hlt
    | row b off cap l hlb hc hm h =>
      have HC := hidD (fun (u : World) (hu : Below w.heap.size w u) => clone_row b off cap L u (by omega) (by have := hu.size; omega) (h.below hu hlb))
      clear h
      unfold OpD.val Ans
      go_enter Tryz.func90, Tryz.ntmps90
      go_wp2_with (first | (go_at_call 101; refine (HF.out _ ST.out.bel).mono ?_; rintro r w1 ⟨rfl, hb1⟩; have s1 := ST.out.below hb1; have c0 := (HV.out.below s1.bel hvlt).c0) | (go_at_call 49; refine (HC.out _ s1.bel).mono ?_; rintro r w2 ⟨v2, rfl, hown2, hb2⟩; have s2 := s1.below hb2; have d5 := s2.cell 5; simp [OpD.cells] at d5; obtain ⟨g, c2, hv2⟩ := own_some hown2 (by omega); subst hv2; have hf4 := hown2.frozenAt (i * 5 + 4); have hc4 : w2.cell? ⟨g, i * 5 + 4, none⟩ = some (.int .i64 L[i].mode) := (hown2.cellAt (i * 5 + 4) (by omega)).trans (flatE_get L i hlt 4 (by omega))))
      go_ret2
      obtain ⟨h1, h2⟩ := hown2.stored (i * 5 + 4) (.int .i64 o.mode)
      refine ⟨⟨_, rfl, ?_⟩, s2.bel.grown h2 s2.bel.size (fun q hq => ?_)⟩
      · rw [List.length_set, HFS.out]
        exact own_mono h1 s1.bel.size
      · have := (hown2.lt q hq).1
        have := s1.bel.size
        omega
end Go.Proofs.YtehkdjdflgknnaaGreatDoor

/- A volume in memory: rmdir. -/
namespace Go.Proofs.YtehkdjdflgknnaaGreatDoor
open Go.RowKit
set_option linter.unusedVariables false
set_option linter.unusedSimpArgs false

set_option maxHeartbeats 1000000 in
theorem isBelow_any (s a : ByteArray) (fold : Bool) (w : World) (hs : s.size ≤ 1500000) (ha : a.size ≤ 1500000) :
    Calls Tryz.prog 102 #[.string s, .string a, .bool fold] w fun e w' => e = .returned (.bool (belowL fold s.data.toList a.data.toList)) ∧ ∃ n, w' = w.drewN n := by
  have hA : a.data.toList.length = a.size := by simp
  have hS : s.data.toList.length = s.size := by simp
  by_cases hlt : a.size < s.size
  · by_cases hc : ((s[a.size].toNat : Int) == 47) = true
    · have h47 : s[a.size] = 47 := by rw [u8_47] at hc; simpa using hc
      have hg : s.data.toList[a.size]? = some 47 := by
        rw [List.getElem?_eq_getElem (by simpa using hlt)]
        congr 1
      have hv : belowL fold s.data.toList a.data.toList = sameB fold (s.data.toList.take a.size) a.data.toList := by
        unfold belowL
        rw [hA, hS, hg]
        simp [hlt]
      rw [hv]
      go_enter Tryz.func102, Tryz.ntmps102
      go_wp2_with (go_at_call 119; refine (same_any _ _ _ _ (by simp; omega) (by omega)).mono ?_; rintro e w1 ⟨rfl, nq, rfl⟩)
      go_ret
      exact ⟨rfl, nq, rfl⟩
    · simp only [Bool.not_eq_true] at hc
      have h47 : s[a.size] ≠ 47 := by rw [u8_47] at hc; simpa using hc
      have hv : belowL fold s.data.toList a.data.toList = false := by
        unfold belowL
        rw [hA, hS, List.getElem?_eq_getElem (by simpa using hlt)]
        have : (some s.data.toList[a.size] == some (47 : UInt8)) = false := by
          simp only [beq_eq_false_iff_ne, ne_eq, Option.some.injEq]
          exact h47
        rw [this]; simp
      rw [hv]
      go_enter Tryz.func102, Tryz.ntmps102
      go_wp2
      go_ret
      exact ⟨rfl, 0, rfl⟩
  · have hv : belowL fold s.data.toList a.data.toList = false := by
      unfold belowL
      rw [hA, hS]; simp [hlt]
    rw [hv]
    go_enter Tryz.func102, Tryz.ntmps102
    go_wp2
    go_ret
    exact ⟨rfl, 0, rfl⟩

theorem isBelow_bel (s a : ByteArray) (fold : Bool) (w : World) (hs : s.size ≤ 1500000) (ha : a.size ≤ 1500000) :
    Calls Tryz.prog 102 #[.string s, .string a, .bool fold] w fun e w' => e = .returned (.bool (belowL fold s.data.toList a.data.toList)) ∧ Below w.heap.size w w' :=
  (isBelow_any s a fold w hs ha).mono (by rintro e w' ⟨rfl, n, rfl⟩; exact ⟨rfl, below_drewE _ n⟩)

set_option maxHeartbeats 4000000 in
theorem vrmdir {w : World} {vb : Nat} {v : Value} {L : List EntD} {fold : Bool} {space : Int} (V : Vm w vb v L fold space) (o : OpD) (ho : o.small) :
    Calls Tryz.prog 85 #[.pointer (some ⟨vb, 0, none⟩), o.val] w fun r w' => Ans w.heap.size (match L[atI fold L o.pl]? with | none => .error 9 | some e => if e.dir then (if (L.any fun x => belowL false x.pl e.pl) = true then .error 13 else .ok (L.eraseIdx (atI fold L o.pl))) else .error 10) r w' ∧ Below w.heap.size w w' := by
  have ST := hidD (Ob.start w o)
  have HF := hidD (fun (u : World) (hu : Below w.heap.size w u) => vfind (V.below hu).vol (V.below hu).row V.smallL o.path ho.1)
  have k1 := ST.out.cell 1
  simp [OpD.cells] at k1
  rw [show o.path.data.toList = o.pl from rfl] at HF
  rcases fstI_at fold L o.pl with ⟨hi, hf⟩ | ⟨hlt, hi, hf⟩
  · rw [hi] at HF
    rw [hf]
    unfold OpD.val Ans
    go_enter Tryz.func85, Tryz.ntmps85
    go_wp2_with (go_at_call 101; refine (HF.out _ ST.out.bel).mono ?_; rintro r w1 ⟨rfl, hb1⟩)
    go_ret2
    exact ⟨rfl, (ST.out.below hb1).bel⟩
  · rw [hi] at HF
    rw [hf]
    have HW := hidD (fun (u : World) (hu : Below w.heap.size w u) => vwithout (V.below hu).vol (V.below hu).row V.len (atI fold L o.pl) hlt)
    have HN := next_below V.srt (atI fold L o.pl) hlt
    have HV := hidD V.vol
    have hvlt := V.vol.lt
    have hll := V.len
    have hsmall := hidD V.small
    have hrow := V.row
    clear V hi hf
    generalize atI fold L o.pl = i at *
    cases hrow with
    | nil => simp at hlt
    | row b off cap l hlb hc hm h =>
      have HE : Hid (∀ u : World, Below w.heap.size w u → u.cell? ⟨b, off + i * 5 + 1, none⟩ = some (.bool L[i].dir) ∧ u.cell? ⟨b, off + i * 5, none⟩ = some (.string L[i].path)) := fun u hu => ⟨(h.below hu hlb) i hlt 1 _ rfl, (h.below hu hlb) i hlt 0 _ rfl⟩
      obtain ⟨i1, hi1⟩ : ∃ i1, i1 = i + 1 := ⟨_, rfl⟩
      have em : (i : Int) + 1 = (i1 : Int) := by omega
      have hw : IntKind.i64.wrap (i1 : Int) = (i1 : Int) := by rw [IntKind.wrap_i64]; omega
      have hso : L[i].path.size ≤ 1500000 := hsmall.out _ (List.getElem_mem hlt)
      cases hd : L[i].dir
      · rw [hd] at HE
        simp only [hd, Bool.false_eq_true, if_false]
        unfold OpD.val Ans
        go_enter Tryz.func85, Tryz.ntmps85
        go_wp2_with (go_at_call 101; refine (HF.out _ ST.out.bel).mono ?_; rintro r w1 ⟨rfl, hb1⟩; have s1 := ST.out.below hb1; have c0 := (HV.out.below s1.bel hvlt).c0; obtain ⟨c1, c2⟩ := HE.out _ s1.bel)
        go_ret2
        exact ⟨rfl, s1.bel⟩
      · rw [hd] at HE
        simp only [hd, if_true]
        by_cases hn : i1 < L.length
        · have hn' : i + 1 < L.length := by omega
          rw [dif_pos hn'] at HN
          have HE2 : Hid (∀ u : World, Below w.heap.size w u → u.cell? ⟨b, off + i1 * 5, none⟩ = some (.string L[i1].path)) := fun u hu => (h.below hu hlb) i1 hn 0 _ rfl
          have hso2 : L[i1].path.size ≤ 1500000 := hsmall.out _ (List.getElem_mem hn)
          have HN2 : (L.any fun x => belowL false x.pl L[i].pl) = belowL false L[i1].path.data.toList L[i].path.data.toList := by
            rw [HN]
            have : L[i + 1] = L[i1] := by congr 1; exact hi1.symm
            rw [this]; rfl
          rw [HN2]
          clear HN HN2 h hsmall hi1
          generalize L[i].path = p at *
          generalize L[i1].path = q at *
          generalize hbl : belowL false q.data.toList p.data.toList = bl at *
          generalize L.eraseIdx i = M at *
          have HBL := hidD hbl
          clear hbl
          cases bl
          all_goals
            simp only [Bool.false_eq_true, if_false, if_true]
            unfold OpD.val Ans
            go_enter Tryz.func85, Tryz.ntmps85
            go_wp2_with (go_at_call 101; refine (HF.out _ ST.out.bel).mono ?_; rintro r w1 ⟨rfl, hb1⟩; have s1 := ST.out.below hb1; have c0 := (HV.out.below s1.bel hvlt).c0; obtain ⟨c1, c2⟩ := HE.out _ s1.bel; have c3 := HE2.out _ s1.bel)
            go_region_held (fun u => u.cell? ⟨vb, 0, none⟩ = some (.slice (some ⟨b, off, none⟩) L.length cap) ∧ u.cell? ⟨b, off + i * 5, none⟩ = some (.string p) ∧ u.cell? ⟨b, off + i1 * 5, none⟩ = some (.string q)) (go_keep) (first | (go_at_call 102; refine (isBelow_bel q p false _ hso2 hso).mono ?_; rintro r w2 ⟨rfl, hb2⟩; rw [HBL.out]; have s2 := (s1.drewN 1).below hb2; have f0 := (HV.out.below s2.bel hvlt).c0; obtain ⟨f1, f2⟩ := HE.out _ s2.bel; have f3 := HE2.out _ s2.bel))
          · all_goals go_wp2_with (go_at_call 103; refine (HW.out _ s2.bel).mono ?_; rintro r w3 ⟨v3, rfl, hown3, hb3⟩; obtain ⟨a3, m3, c3, rfl⟩ := own_shape hown3)
            all_goals go_ret2
            all_goals exact ⟨⟨_, rfl, own_mono hown3 s2.bel.size⟩, (s2.below hb3).bel⟩
          · all_goals go_wp2
            all_goals go_ret2
            all_goals exact ⟨rfl, s2.bel⟩
        · have hn' : ¬ i + 1 < L.length := by omega
          rw [dif_neg hn'] at HN
          rw [HN]
          simp only [Bool.false_eq_true, if_false]
          clear HN h hsmall hi1
          generalize L[i].path = p at *
          generalize L.eraseIdx i = M at *
          unfold OpD.val Ans
          go_enter Tryz.func85, Tryz.ntmps85
          go_wp2_with (go_at_call 101; refine (HF.out _ ST.out.bel).mono ?_; rintro r w1 ⟨rfl, hb1⟩; have s1 := ST.out.below hb1; have c0 := (HV.out.below s1.bel hvlt).c0; obtain ⟨c1, c2⟩ := HE.out _ s1.bel)
          go_quiet (fail)
          have s2 := s1.drewN nq
          generalize w1.drewN nq = u2 at *
          go_wp2_with (go_at_call 103; refine (HW.out _ s2.bel).mono ?_; rintro r w3 ⟨v3, rfl, hown3, hb3⟩; obtain ⟨a3, m3, c3, rfl⟩ := own_shape hown3)
          go_ret2
          exact ⟨⟨_, rfl, own_mono hown3 s2.bel.size⟩, (s2.below hb3).bel⟩
end Go.Proofs.YtehkdjdflgknnaaGreatDoor

/- Plain: what a checked tree gives for the walks: small paths, small sizes, one size for each id. -/
namespace Go.Proofs.YtehkdjdflgknnaaGreatDoor
open Go.RowKit
set_option linter.unusedVariables false
set_option linter.unusedSimpArgs false

theorem used_small (L : List EntD) (h : ∀ o ∈ L, fieldsB o = true) : 0 ≤ usedL L ∧ usedL L ≤ 100 * L.length := by
  induction L with
  | nil => simp [usedL]
  | cons o L ih =>
    have h1 := ih fun x hx => h x (List.mem_cons_of_mem _ hx)
    obtain ⟨_, _, h2⟩ := fieldsB_true o (h o List.mem_cons_self)
    simp only [usedL, List.length_cons]
    rcases h2 with ⟨_, _, h3⟩ | ⟨_, _, _, h3, h4⟩ <;> omega
theorem VolOk.sizesOk {fold : Bool} {L : List EntD} (V : VolOk fold L) : SizesOk L := by
  intro k hk
  have h := used_small (L.take k) fun o ho => V.fields o (List.mem_of_mem_take ho)
  have h1 := V.few
  have h2 : (L.take k).length ≤ 120 := by simp; omega
  omega
theorem VolOk.other {fold : Bool} {L : List EntD} (V : VolOk fold L) (id size : Int) (hid : 1 ≤ id) (e : EntD) (h1 : e.id = id) (h2 : e.size = size) : otherB L e = (L.any fun x => !x.dir && decide (x.id = id) && decide (x.size ≠ size)) := by
  subst h1 h2
  unfold otherB
  have h : ∀ x ∈ L, (decide (x.id = e.id) && decide (x.size ≠ e.size)) = (!x.dir && decide (x.id = e.id) && decide (x.size ≠ e.size)) := by
    intro x hx
    obtain ⟨_, _, h3⟩ := fieldsB_true x (V.fields x hx)
    rcases h3 with ⟨d, i, _⟩ | ⟨d, _⟩
    · have : decide (x.id = e.id) = false := by rw [decide_eq_false_iff_not]; omega
      rw [this, d]; simp
    · rw [d]; simp
  rw [Bool.eq_iff_iff, List.any_eq_true, List.any_eq_true]
  exact ⟨fun ⟨x, hx, hp⟩ => ⟨x, hx, by rw [← h x hx]; exact hp⟩, fun ⟨x, hx, hp⟩ => ⟨x, hx, by rw [h x hx]; exact hp⟩⟩
theorem VolOk.alike {fold : Bool} {L : List EntD} (V : VolOk fold L) (e : EntD) (he : e ∈ L) (hd : e.dir = false) : (L.any fun x => !x.dir && decide (x.id = e.id) && decide (x.size ≠ e.size)) = false := by
  rw [List.any_eq_false]
  intro x hx h
  simp only [Bool.and_eq_true, Bool.not_eq_true', decide_eq_true_eq] at h
  exact h.2 (V.sizes x hx e he h.1.1 hd h.1.2)

theorem spl_len (n : Nat) : ∀ l : BL, l.length ≤ n → l.length + 1 = ((spl l).map (·.length + 1)).sum := by
  induction n with
  | zero =>
    intro l hl
    obtain rfl : l = [] := List.eq_nil_of_length_eq_zero (by omega)
    rfl
  | succ n ih =>
    intro l hl
    rcases last_cut l with h | ⟨a, b, rfl, hb⟩
    · rw [spl_none l h]; simp
    · simp only [List.length_append, List.length_cons] at hl
      rw [spl_split, List.map_append, List.sum_append, ← ih a (by omega), ← ih b (by omega)]
      simp; omega
theorem sum_le (c : Nat) (ps : List BL) (h : ∀ p ∈ ps, p.length ≤ c) : (ps.map (·.length + 1)).sum ≤ ps.length * (c + 1) := by
  induction ps with
  | nil => simp
  | cons p ps ih =>
    have h1 := ih fun x hx => h x (List.mem_cons_of_mem _ hx)
    have h2 := h p List.mem_cons_self
    simp only [List.map_cons, List.sum_cons, List.length_cons, Nat.add_mul, Nat.one_mul]
    simp only [Nat.mul_add, Nat.mul_one] at *
    omega

theorem path_len {l : BL} (h : pathL l = true) : l.length ≤ 60 := by
  unfold pathL at h
  rw [Bool.and_eq_true, decide_eq_true_eq, List.all_eq_true] at h
  have h1 := spl_len l.length l (Nat.le_refl _)
  have h2 := sum_le 8 (spl l) fun p hp => by
    have := h.2 p hp
    simp only [nmL, isNm, Bool.and_eq_true, decide_eq_true_eq] at this
    have h3 := this.1.1.1.2
    simpa [ByteArray.size] using h3
  have h3 : (spl l).length * (8 + 1) ≤ 6 * 9 := Nat.mul_le_mul_right _ h.1
  have h4 : l.length + 1 ≤ (spl l).length * (8 + 1) := h1 ▸ h2
  omega
theorem good_len {l : BL} (h : goodP l) : l.length ≤ 60 := by
  rcases h with h | h
  · exact path_len h
  · simp only [spareL, Bool.and_eq_true, decide_eq_true_eq] at h
    have := h.1.1.2
    omega
theorem VolOk.small {fold : Bool} {L : List EntD} (V : VolOk fold L) : ∀ o ∈ L, o.small := by
  intro o ho
  have h : o.pl.length ≤ 60 := good_len ((V.names o ho).imp id fun h => h.2)
  have h2 : o.path.size = o.pl.length := by simp [EntD.pl]
  show o.path.size ≤ 1500000
  omega
theorem VolOk.place {fold : Bool} {L : List EntD} (V : VolOk fold L) {p : BL} (hp : goodP p) : ∀ t, placeL fold L p = some t → t.length ≤ 1500000 := by
  intro t ht
  obtain ⟨h1, h2⟩ := place_good V ht hp
  have : t.length ≤ 60 := by
    rcases hp with h | h
    · exact path_len (h1 h)
    · rw [h2 h]; exact good_len (.inr h)
  omega
theorem Vm.of {w : World} {vb : Nat} {v : Value} {L : List EntD} {fold : Bool} {space : Int} (V : VolOk fold L) (hv : VolAt w vb v fold space) (hr : RowAt w v L) (h0 : 0 ≤ space) (h1 : space ≤ 9223372036854775807) : Vm w vb v L fold space :=
  ⟨hv, hr, V.few, V.small, V.srt, V.sizesOk, h0, h1⟩
theorem OpGood.small {o : OpD} (h : okOp o = true) (hd : o.dest.size ≤ 1500000) : o.small := by
  have h1 := good_len (okOp_good h).path
  have h2 : o.path.size = o.pl.length := by simp [OpD.pl]
  exact ⟨by omega, hd⟩

theorem doL_mkdir {fold : Bool} {space : Int} {L : List EntD} {o : OpD} (h : o.kind = 1) : doL fold space L o = mkL fold space L ⟨o.path, true, 0, 0, o.mode⟩ := by unfold doL; rw [if_pos h]
theorem doL_write {fold : Bool} {space : Int} {L : List EntD} {o : OpD} (h : o.kind = 4) : doL fold space L o = mkL fold space L ⟨o.path, false, o.id, o.size, o.mode⟩ := by unfold doL; rw [if_neg (by omega), if_pos h]
theorem doL_rmdir {fold : Bool} {space : Int} {L : List EntD} {o : OpD} (h : o.kind = 2) : doL fold space L o = match L[atI fold L o.pl]? with | none => .error 9 | some e => if e.dir then (if (L.any fun x => belowL false x.pl e.pl) = true then .error 13 else .ok (L.eraseIdx (atI fold L o.pl))) else .error 10 := by
  unfold doL
  rw [if_neg (by omega), if_neg (by omega)]
  cases L[atI fold L o.pl]? with
  | none => rfl
  | some e =>
    simp only
    rw [if_neg (by omega), if_neg (by omega)]
    have hk : decide (o.kind = 2) = true := by simpa using h
    have h5 : ¬ o.kind = 5 := by omega
    rw [hk]
    cases e.dir <;> simp [h5]
theorem doL_unlink {fold : Bool} {space : Int} {L : List EntD} (V : VolOk fold L) {o : OpD} (h : o.kind = 3) : doL fold space L o = match L[atI fold L o.pl]? with | none => .error 9 | some e => if e.dir then .error 10 else .ok (L.eraseIdx (atI fold L o.pl)) := by
  unfold doL
  rw [if_neg (by omega), if_neg (by omega)]
  cases he : L[atI fold L o.pl]? with
  | none => rfl
  | some e =>
    simp only
    rw [if_neg (by omega), if_neg (by omega)]
    have hk : decide (o.kind = 2) = false := by rw [decide_eq_false_iff_not]; omega
    have h5 : ¬ o.kind = 5 := by omega
    rw [hk]
    cases hd : e.dir
    · obtain ⟨hi, hx, _⟩ := atI_some he
      have := file_leaf V hi (by rw [hx]; exact hd)
      rw [hx] at this
      simp only [ne_eq, not_true_eq_false, if_false, h5, this, Bool.false_eq_true]
    · simp
theorem doL_copy {fold : Bool} {space : Int} {L : List EntD} {o : OpD} (h : o.kind = 5) : doL fold space L o = match L[atI fold L o.pl]? with | none => .error 9 | some e => if e.dir then .error 10 else mkL fold space L ⟨o.dest, false, e.id, e.size, o.mode⟩ := by
  unfold doL
  rw [if_neg (by omega), if_neg (by omega)]
  cases L[atI fold L o.pl]? with
  | none => rfl
  | some e =>
    simp only
    rw [if_neg (by omega), if_neg (by omega)]
    have hk : decide (o.kind = 2) = false := by rw [decide_eq_false_iff_not]; omega
    rw [hk]
    cases e.dir <;> simp [h]
end Go.Proofs.YtehkdjdflgknnaaGreatDoor

/- A volume in memory: write. -/
namespace Go.Proofs.YtehkdjdflgknnaaGreatDoor
open Go.RowKit
set_option linter.unusedVariables false
set_option linter.unusedSimpArgs false

set_option maxHeartbeats 1000000 in
theorem hasOther_nil (e : EntD) (w : World) :
    Calls Tryz.prog 105 #[.slice none 0 0, .agg #[.string e.path, .bool e.dir, .int .i64 e.id, .int .i64 e.size, .int .i64 e.mode]] w fun r w' => r = .returned (.bool false) ∧ Below w.heap.size w w' := by
  have hb1 : Below w.heap.size w (w.alloc (.cells #[.string e.path, .bool e.dir, .int .i64 e.id, .int .i64 e.size, .int .i64 e.mode] 75)) := (Below.refl _ _).alloc (Nat.le_refl _) _
  go_enter Tryz.func105, Tryz.ntmps105
  go_wp2
  refine wp_loop_rounds 1 ?_
  rw [rounds_succ]
  go_wp2
  go_ret
  exact ⟨rfl, hb1⟩
theorem vother {w : World} {v : Value} {L : List EntD} (hr : RowAt w v L) (hl : L.length ≤ 120) (e : EntD) : ∀ u : World, Below w.heap.size w u → Calls Tryz.prog 105 #[v, .agg #[.string e.path, .bool e.dir, .int .i64 e.id, .int .i64 e.size, .int .i64 e.mode]] u fun r u' => r = .returned (.bool (otherB L e)) ∧ Below u.heap.size u u' := by
  intro u hu
  cases hr with
  | nil => exact hasOther_nil e u
  | row b off cap l hlt hc hm h => exact hasOther_any b off cap L e u (by omega) (by have := hu.size; omega) (h.below hu hlt)

set_option maxHeartbeats 2000000 in
theorem vwrite {w : World} {vb : Nat} {v : Value} {L : List EntD} {fold : Bool} {space : Int} (V : Vm w vb v L fold space) (o : OpD) (ho : o.small) (hp : ∀ t, placeL fold L o.pl = some t → t.length ≤ 1500000)
    (hot : ∀ e : EntD, e.id = o.id → e.size = o.size → otherB L e = (L.any fun x => !x.dir && decide (x.id = o.id) && decide (x.size ≠ o.size))) :
    Calls Tryz.prog 87 #[.pointer (some ⟨vb, 0, none⟩), o.val] w fun r w' => Ans w.heap.size (mkL fold space L ⟨o.path, false, o.id, o.size, o.mode⟩) r w' ∧ Below w.heap.size w w' := by
  have ST := hidD (Ob.start w o)
  have HF : Hid (∀ u : World, Below w.heap.size w u → Calls Tryz.prog 99 #[.pointer (some ⟨vb, 0, none⟩), .string o.path] u fun e w' => e = .returned (.tuple #[.string (freeAns fold L o.path).1, .int .i64 (freeAns fold L o.path).2]) ∧ Below u.heap.size u w') := fun u hu => vfree (V.below hu).vol (V.below hu).row V.smallL o.path ho.1
  have k1 := ST.out.cell 1
  simp [OpD.cells] at k1
  rcases free_cases fold L o.path with ⟨ha, hA⟩ | ⟨ha, hpl, hA⟩ | ⟨ha, ⟨t, hpl⟩, hn, hA⟩ | ⟨ha, hn, t, hpl, hA⟩
  · have hM : mkL fold space L ⟨o.path, false, o.id, o.size, o.mode⟩ = .error 8 := by unfold mkL; exact if_pos ha
    rw [hM]
    rw [hA] at HF
    unfold OpD.val Ans
    go_enter Tryz.func87, Tryz.ntmps87
    go_wp2_with (go_at_call 99; refine (HF.out _ ST.out.bel).mono ?_; rintro r w1 ⟨rfl, hb1⟩)
    go_ret2
    exact ⟨rfl, (ST.out.below hb1).bel⟩
  · have hM : mkL fold space L ⟨o.path, false, o.id, o.size, o.mode⟩ = .error 2 := by
      unfold mkL
      rw [show (EntD.pl ⟨o.path, false, o.id, o.size, o.mode⟩) = o.path.data.toList from rfl, ha, if_neg (by simp), hpl]
    rw [hM]
    rw [hA] at HF
    unfold OpD.val Ans
    go_enter Tryz.func87, Tryz.ntmps87
    go_wp2_with (go_at_call 99; refine (HF.out _ ST.out.bel).mono ?_; rintro r w1 ⟨rfl, hb1⟩)
    go_ret2
    exact ⟨rfl, (ST.out.below hb1).bel⟩
  · have hM : mkL fold space L ⟨o.path, false, o.id, o.size, o.mode⟩ = .error 5 := by
      unfold mkL
      rw [show (EntD.pl ⟨o.path, false, o.id, o.size, o.mode⟩) = o.path.data.toList from rfl, ha, if_neg (by simp), hpl]
      simp only [hn, if_true]
    rw [hM]
    rw [hA] at HF
    unfold OpD.val Ans
    go_enter Tryz.func87, Tryz.ntmps87
    go_wp2_with (go_at_call 99; refine (HF.out _ ST.out.bel).mono ?_; rintro r w1 ⟨rfl, hb1⟩)
    go_ret2
    exact ⟨rfl, (ST.out.below hb1).bel⟩
  · rw [hA] at HF
    have hO := hot ⟨ofL t, false, o.id, o.size, o.mode⟩ rfl rfl
    have hM : mkL fold space L ⟨o.path, false, o.id, o.size, o.mode⟩ = if otherB L ⟨ofL t, false, o.id, o.size, o.mode⟩ = true then .error 6 else if space - usedL L < o.size then .error 11 else .ok (insL ⟨ofL t, false, o.id, o.size, o.mode⟩ L) := by
      unfold mkL
      rw [show (EntD.pl ⟨o.path, false, o.id, o.size, o.mode⟩) = o.path.data.toList from rfl, ha, if_neg (by simp), hpl, hO]
      simp only [hn, if_false, Bool.not_false, Bool.true_and, decide_eq_true_eq]
      congr 1
      by_cases hs : space - usedL L < o.size
      · rw [if_pos hs, if_pos (by omega)]
      · rw [if_neg hs, if_neg (by omega)]; rfl
    rw [hM]
    have hsm : (ofL t).size ≤ 1500000 := ofL_small (hp t hpl)
    have HO := hidD (vother V.row V.len ⟨ofL t, false, o.id, o.size, o.mode⟩)
    have HW := hidD (fun (u : World) (hu : Below w.heap.size w u) => vfilled (V.below hu).vol (V.below hu).row V.len V.small V.srt V.sizes V.sp0 V.sp1 ⟨ofL t, false, o.id, o.size, o.mode⟩ hsm (by have := free_ne ha hpl; simpa [EntD.pl, ofL] using this))
    have HV := hidD V.vol
    have hvlt := V.vol.lt
    obtain ⟨a, c, hv⟩ := V.row.val
    subst hv
    clear hM hO hot hp V ha hpl hA
    generalize insL ⟨ofL t, false, o.id, o.size, o.mode⟩ L = M at *
    generalize otherB L ⟨ofL t, false, o.id, o.size, o.mode⟩ = ot at *
    generalize ofL t = pt at *
    generalize usedL L = us at *
    generalize L.length = n at *
    cases ot
    · simp only [Bool.false_eq_true, if_false]
      by_cases hf : space - us < o.size
      · simp only [hf, if_true, ↓reduceIte] at HW ⊢
        unfold OpD.val Ans
        go_enter Tryz.func87, Tryz.ntmps87
        go_wp2_with (go_at_call 99; refine (HF.out _ ST.out.bel).mono ?_; rintro r w1 ⟨rfl, hb1⟩; have s1 := ST.out.below hb1; have d3 := s1.cell 3; have d4 := s1.cell 4; have d5 := s1.cell 5; simp [OpD.cells] at d3 d4 d5)
        have e1 := Eb.start w1 ⟨pt, false, o.id, o.size, o.mode⟩
        have bv := s1.bel.trans (e1.bel.mono s1.bel.size)
        have c0 := (HV.out.below bv hvlt).c0
        have E1 := hidD e1
        have BV := hidD bv
        have g0 := e1.cell 0
        have g1 := e1.cell 1
        have g2 := e1.cell 2
        have g3 := e1.cell 3
        have g4 := e1.cell 4
        simp [EntD.cells] at g0 g1 g2 g3 g4 c0
        clear e1 bv d3 d4 d5 k1
        go_region_held (fun u => u.cell? ⟨vb, 0, none⟩ = some (.slice a n c) ∧ u.cell? ⟨w1.heap.size, 0, none⟩ = some (.string pt) ∧ u.cell? ⟨w1.heap.size, 1, none⟩ = some (.bool false) ∧ u.cell? ⟨w1.heap.size, 2, none⟩ = some (.int .i64 o.id) ∧ u.cell? ⟨w1.heap.size, 3, none⟩ = some (.int .i64 o.size) ∧ u.cell? ⟨w1.heap.size, 4, none⟩ = some (.int .i64 o.mode)) (go_keep) (first | (go_at_call 105; refine (HO.out _ (BV.out.trans (below_drewE _ 1))).mono ?_; rintro r w2 ⟨rfl, hb2⟩; have e2 := (E1.out.drewN 1).below hb2; have f0 := e2.cell 0; have f1 := e2.cell 1; have f2 := e2.cell 2; have f3 := e2.cell 3; have f4 := e2.cell 4; simp [EntD.cells] at f0 f1 f2 f3 f4; have bw := s1.bel.trans (e2.bel.mono s1.bel.size); have fv := (HV.out.below bw hvlt).c0))
        all_goals go_wp2_with (go_at_call 106; refine (HW.out _ bw).mono ?_; rintro r w3 ⟨hb3, rfl⟩)
        all_goals go_ret2
        all_goals exact ⟨rfl, bw.trans (hb3.mono bw.size)⟩
      · simp only [hf, if_false, ↓reduceIte] at HW ⊢
        unfold OpD.val Ans
        go_enter Tryz.func87, Tryz.ntmps87
        go_wp2_with (go_at_call 99; refine (HF.out _ ST.out.bel).mono ?_; rintro r w1 ⟨rfl, hb1⟩; have s1 := ST.out.below hb1; have d3 := s1.cell 3; have d4 := s1.cell 4; have d5 := s1.cell 5; simp [OpD.cells] at d3 d4 d5)
        have e1 := Eb.start w1 ⟨pt, false, o.id, o.size, o.mode⟩
        have bv := s1.bel.trans (e1.bel.mono s1.bel.size)
        have c0 := (HV.out.below bv hvlt).c0
        have E1 := hidD e1
        have BV := hidD bv
        have g0 := e1.cell 0
        have g1 := e1.cell 1
        have g2 := e1.cell 2
        have g3 := e1.cell 3
        have g4 := e1.cell 4
        simp [EntD.cells] at g0 g1 g2 g3 g4 c0
        clear e1 bv d3 d4 d5 k1
        go_region_held (fun u => u.cell? ⟨vb, 0, none⟩ = some (.slice a n c) ∧ u.cell? ⟨w1.heap.size, 0, none⟩ = some (.string pt) ∧ u.cell? ⟨w1.heap.size, 1, none⟩ = some (.bool false) ∧ u.cell? ⟨w1.heap.size, 2, none⟩ = some (.int .i64 o.id) ∧ u.cell? ⟨w1.heap.size, 3, none⟩ = some (.int .i64 o.size) ∧ u.cell? ⟨w1.heap.size, 4, none⟩ = some (.int .i64 o.mode)) (go_keep) (first | (go_at_call 105; refine (HO.out _ (BV.out.trans (below_drewE _ 1))).mono ?_; rintro r w2 ⟨rfl, hb2⟩; have e2 := (E1.out.drewN 1).below hb2; have f0 := e2.cell 0; have f1 := e2.cell 1; have f2 := e2.cell 2; have f3 := e2.cell 3; have f4 := e2.cell 4; simp [EntD.cells] at f0 f1 f2 f3 f4; have bw := s1.bel.trans (e2.bel.mono s1.bel.size); have fv := (HV.out.below bw hvlt).c0))
        all_goals go_wp2_with (go_at_call 106; refine (HW.out _ bw).mono ?_; rintro r w3 ⟨hb3, v3, rfl, hown3⟩; obtain ⟨a3, m3, c3, rfl⟩ := own_shape hown3)
        all_goals go_ret2
        all_goals exact ⟨⟨_, rfl, own_mono hown3 bw.size⟩, bw.trans (hb3.mono bw.size)⟩
    · simp only [if_true]
      unfold OpD.val Ans
      go_enter Tryz.func87, Tryz.ntmps87
      go_wp2_with (go_at_call 99; refine (HF.out _ ST.out.bel).mono ?_; rintro r w1 ⟨rfl, hb1⟩; have s1 := ST.out.below hb1; have d3 := s1.cell 3; have d4 := s1.cell 4; have d5 := s1.cell 5; simp [OpD.cells] at d3 d4 d5)
      have e1 := Eb.start w1 ⟨pt, false, o.id, o.size, o.mode⟩
      have bv := s1.bel.trans (e1.bel.mono s1.bel.size)
      have c0 := (HV.out.below bv hvlt).c0
      have E1 := hidD e1
      have BV := hidD bv
      have g0 := e1.cell 0
      have g1 := e1.cell 1
      have g2 := e1.cell 2
      have g3 := e1.cell 3
      have g4 := e1.cell 4
      simp [EntD.cells] at g0 g1 g2 g3 g4 c0
      clear e1 bv d3 d4 d5 k1
      go_region_held (fun u => u.cell? ⟨vb, 0, none⟩ = some (.slice a n c) ∧ u.cell? ⟨w1.heap.size, 0, none⟩ = some (.string pt) ∧ u.cell? ⟨w1.heap.size, 1, none⟩ = some (.bool false) ∧ u.cell? ⟨w1.heap.size, 2, none⟩ = some (.int .i64 o.id) ∧ u.cell? ⟨w1.heap.size, 3, none⟩ = some (.int .i64 o.size) ∧ u.cell? ⟨w1.heap.size, 4, none⟩ = some (.int .i64 o.mode)) (go_keep) (first | (go_at_call 105; refine (HO.out _ (BV.out.trans (below_drewE _ 1))).mono ?_; rintro r w2 ⟨rfl, hb2⟩; have e2 := (E1.out.drewN 1).below hb2; have f0 := e2.cell 0; have f1 := e2.cell 1; have f2 := e2.cell 2; have f3 := e2.cell 3; have f4 := e2.cell 4; simp [EntD.cells] at f0 f1 f2 f3 f4; have bw := s1.bel.trans (e2.bel.mono s1.bel.size); have fv := (HV.out.below bw hvlt).c0))
      all_goals go_wp2
      all_goals go_ret2
      all_goals exact ⟨rfl, bw⟩
end Go.Proofs.YtehkdjdflgknnaaGreatDoor

/- A volume in memory: copy. -/
namespace Go.Proofs.YtehkdjdflgknnaaGreatDoor
open Go.RowKit
set_option linter.unusedVariables false
set_option linter.unusedSimpArgs false

set_option maxHeartbeats 2000000 in
/-- Up to the file: an error of it. -/
theorem vcopy_bad {w : World} {vb : Nat} {v : Value} {L : List EntD} {fold : Bool} {space : Int} (V : Vm w vb v L fold space) (o : OpD) (ho : o.small) (n : Int) (hn : n ≠ 0)
    (hf : ∀ u : World, Below w.heap.size w u → Calls Tryz.prog 104 #[.pointer (some ⟨vb, 0, none⟩), .string o.path] u fun e w' => e = .returned (.tuple #[.int .i64 0, .int .i64 n]) ∧ Below u.heap.size u w') :
    Calls Tryz.prog 88 #[.pointer (some ⟨vb, 0, none⟩), o.val] w fun r w' => Ans w.heap.size (.error n) r w' ∧ Below w.heap.size w w' := by
  have ST := hidD (Ob.start w o)
  have HF := hidD hf
  have k1 := ST.out.cell 1
  simp [OpD.cells] at k1
  have hn' : (n != 0) = true := by simpa using hn
  have hn2 : (n == 0) = false := by simpa using hn
  unfold OpD.val Ans
  go_enter Tryz.func88, Tryz.ntmps88
  go_wp2_with (go_at_call 104; refine (HF.out _ ST.out.bel).mono ?_; rintro r w1 ⟨rfl, hb1⟩)
  go_ret2
  exact ⟨rfl, (ST.out.below hb1).bel⟩

set_option maxHeartbeats 4000000 in
/-- Past the file, which is the entry e at number i. -/
theorem vcopy_good {w : World} {vb b off cap : Nat} {L : List EntD} {fold : Bool} {space : Int} (V : Vm w vb (.slice (some ⟨b, off, none⟩) L.length cap) L fold space) (hlb : b < w.heap.size) (hc : EntsAt w b off L) (o : OpD) (ho : o.small) (i : Nat) (hi : i < L.length) (e : EntD) (he : L[i] = e) (hp : ∀ t, placeL fold L o.tl = some t → t.length ≤ 1500000)
    (hot : (L.any fun x => !x.dir && decide (x.id = e.id) && decide (x.size ≠ e.size)) = false)
    (hf : ∀ u : World, Below w.heap.size w u → Calls Tryz.prog 104 #[.pointer (some ⟨vb, 0, none⟩), .string o.path] u fun e w' => e = .returned (.tuple #[.int .i64 i, .int .i64 0]) ∧ Below u.heap.size u w') :
    Calls Tryz.prog 88 #[.pointer (some ⟨vb, 0, none⟩), o.val] w fun r w' => Ans w.heap.size (mkL fold space L ⟨o.dest, false, e.id, e.size, o.mode⟩) r w' ∧ Below w.heap.size w w' := by
  have ST := hidD (Ob.start w o)
  have HF := hidD hf
  have HR : Hid (∀ u : World, Below w.heap.size w u → Calls Tryz.prog 99 #[.pointer (some ⟨vb, 0, none⟩), .string o.dest] u fun e w' => e = .returned (.tuple #[.string (freeAns fold L o.dest).1, .int .i64 (freeAns fold L o.dest).2]) ∧ Below u.heap.size u w') := fun u hu => vfree (V.below hu).vol (V.below hu).row V.smallL o.dest ho.2
  have k1 := ST.out.cell 1
  simp [OpD.cells] at k1
  rcases free_cases fold L o.dest with ⟨ha, hA⟩ | ⟨ha, hpl, hA⟩ | ⟨ha, ⟨t, hpl⟩, hn, hA⟩ | ⟨ha, hn, t, hpl, hA⟩
  · have hM : mkL fold space L ⟨o.dest, false, e.id, e.size, o.mode⟩ = .error 8 := by unfold mkL; exact if_pos ha
    rw [hM]
    rw [hA] at HR
    unfold OpD.val Ans
    go_enter Tryz.func88, Tryz.ntmps88
    go_wp2_with (first | (go_at_call 104; refine (HF.out _ ST.out.bel).mono ?_; rintro r w1 ⟨rfl, hb1⟩; have s1 := ST.out.below hb1; have d2 := s1.cell 2; simp [OpD.cells] at d2) | (go_at_call 99; refine (HR.out _ s1.bel).mono ?_; rintro r w2 ⟨rfl, hb2⟩))
    go_ret2
    exact ⟨rfl, (s1.below hb2).bel⟩
  · have hM : mkL fold space L ⟨o.dest, false, e.id, e.size, o.mode⟩ = .error 2 := by
      unfold mkL
      rw [show (EntD.pl ⟨o.dest, false, e.id, e.size, o.mode⟩) = o.dest.data.toList from rfl, ha, if_neg (by simp), hpl]
    rw [hM]
    rw [hA] at HR
    unfold OpD.val Ans
    go_enter Tryz.func88, Tryz.ntmps88
    go_wp2_with (first | (go_at_call 104; refine (HF.out _ ST.out.bel).mono ?_; rintro r w1 ⟨rfl, hb1⟩; have s1 := ST.out.below hb1; have d2 := s1.cell 2; simp [OpD.cells] at d2) | (go_at_call 99; refine (HR.out _ s1.bel).mono ?_; rintro r w2 ⟨rfl, hb2⟩))
    go_ret2
    exact ⟨rfl, (s1.below hb2).bel⟩
  · have hM : mkL fold space L ⟨o.dest, false, e.id, e.size, o.mode⟩ = .error 5 := by
      unfold mkL
      rw [show (EntD.pl ⟨o.dest, false, e.id, e.size, o.mode⟩) = o.dest.data.toList from rfl, ha, if_neg (by simp), hpl]
      simp only [hn, if_true]
    rw [hM]
    rw [hA] at HR
    unfold OpD.val Ans
    go_enter Tryz.func88, Tryz.ntmps88
    go_wp2_with (first | (go_at_call 104; refine (HF.out _ ST.out.bel).mono ?_; rintro r w1 ⟨rfl, hb1⟩; have s1 := ST.out.below hb1; have d2 := s1.cell 2; simp [OpD.cells] at d2) | (go_at_call 99; refine (HR.out _ s1.bel).mono ?_; rintro r w2 ⟨rfl, hb2⟩))
    go_ret2
    exact ⟨rfl, (s1.below hb2).bel⟩
  · rw [hA] at HR
    have hM : mkL fold space L ⟨o.dest, false, e.id, e.size, o.mode⟩ = if space - usedL L < e.size then .error 11 else .ok (insL ⟨ofL t, false, e.id, e.size, o.mode⟩ L) := by
      unfold mkL
      rw [show (EntD.pl ⟨o.dest, false, e.id, e.size, o.mode⟩) = o.dest.data.toList from rfl, ha, if_neg (by simp), hpl]
      simp only [hn, hot, if_false, Bool.not_false, Bool.true_and, decide_eq_true_eq, Bool.false_eq_true]
      by_cases hs : space - usedL L < e.size
      · rw [if_pos hs, if_pos (by omega)]
      · rw [if_neg hs, if_neg (by omega)]; rfl
    rw [hM]
    have hsm : (ofL t).size ≤ 1500000 := ofL_small (hp t hpl)
    have HW := hidD (fun (u : World) (hu : Below w.heap.size w u) => vfilled (V.below hu).vol (V.below hu).row V.len V.small V.srt V.sizes V.sp0 V.sp1 ⟨ofL t, false, e.id, e.size, o.mode⟩ hsm (by have := free_ne ha hpl; simpa [EntD.pl, ofL] using this))
    have HV := hidD V.vol
    have hvlt := V.vol.lt
    have hll := V.len
    have HE : Hid (∀ u : World, Below w.heap.size w u → u.cell? ⟨b, off + i * 5 + 2, none⟩ = some (.int .i64 e.id) ∧ u.cell? ⟨b, off + i * 5 + 3, none⟩ = some (.int .i64 e.size)) := fun u hu => ⟨by have := (hc.below hu hlb) i hi 2 (.int .i64 e.id) (by rw [he]; rfl); exact this, by have := (hc.below hu hlb) i hi 3 (.int .i64 e.size) (by rw [he]; rfl); exact this⟩
    clear hM hot hp V ha hpl hA he hc hf
    generalize insL ⟨ofL t, false, e.id, e.size, o.mode⟩ L = M at *
    generalize ofL t = pt at *
    generalize usedL L = us at *
    generalize L.length = n at *
    by_cases hfl : space - us < e.size
    · simp only [hfl, if_true, ↓reduceIte] at HW ⊢
      unfold OpD.val Ans
      go_enter Tryz.func88, Tryz.ntmps88
      go_wp2_with (first | (go_at_call 104; refine (HF.out _ ST.out.bel).mono ?_; rintro r w1 ⟨rfl, hb1⟩; have s1 := ST.out.below hb1; have d2 := s1.cell 2; simp [OpD.cells] at d2) | (go_at_call 99; refine (HR.out _ s1.bel).mono ?_; rintro r w2 ⟨rfl, hb2⟩; have s2 := s1.below hb2; have d5 := s2.cell 5; simp [OpD.cells] at d5; have c0 := (HV.out.below s2.bel hvlt).c0; obtain ⟨c2, c3⟩ := HE.out _ s2.bel))
      clear d2 k1
      go_region_held (fun u => u.cell? ⟨vb, 0, none⟩ = some (.slice (some ⟨b, off, none⟩) n cap) ∧ u.cell? ⟨b, off + i * 5 + 2, none⟩ = some (.int .i64 e.id) ∧ u.cell? ⟨b, off + i * 5 + 3, none⟩ = some (.int .i64 e.size) ∧ u.cell? ⟨w.heap.size, 5, none⟩ = some (.int .i64 o.mode)) (go_keep) (first | (go_at_call 106; refine (HW.out _ (s2.bel.trans (below_drewE _ 1))).mono ?_; rintro r w3 ⟨hb3, rfl⟩; have s3 := (s2.drewN 1).below hb3; have f5 := s3.cell 5; simp [OpD.cells] at f5; have fv := (HV.out.below s3.bel hvlt).c0; obtain ⟨f2, f3⟩ := HE.out _ s3.bel))
      all_goals go_wp2
      all_goals go_ret2
      all_goals exact ⟨rfl, s3.bel⟩
    · simp only [hfl, if_false, ↓reduceIte] at HW ⊢
      unfold OpD.val Ans
      go_enter Tryz.func88, Tryz.ntmps88
      go_wp2_with (first | (go_at_call 104; refine (HF.out _ ST.out.bel).mono ?_; rintro r w1 ⟨rfl, hb1⟩; have s1 := ST.out.below hb1; have d2 := s1.cell 2; simp [OpD.cells] at d2) | (go_at_call 99; refine (HR.out _ s1.bel).mono ?_; rintro r w2 ⟨rfl, hb2⟩; have s2 := s1.below hb2; have d5 := s2.cell 5; simp [OpD.cells] at d5; have c0 := (HV.out.below s2.bel hvlt).c0; obtain ⟨c2, c3⟩ := HE.out _ s2.bel))
      clear d2 k1
      go_region_held (fun u => u.cell? ⟨vb, 0, none⟩ = some (.slice (some ⟨b, off, none⟩) n cap) ∧ u.cell? ⟨b, off + i * 5 + 2, none⟩ = some (.int .i64 e.id) ∧ u.cell? ⟨b, off + i * 5 + 3, none⟩ = some (.int .i64 e.size) ∧ u.cell? ⟨w.heap.size, 5, none⟩ = some (.int .i64 o.mode)) (go_keep) (first | (go_at_call 106; refine (HW.out _ (s2.bel.trans (below_drewE _ 1))).mono ?_; rintro r w3 ⟨hb3, v3, rfl, hown3⟩; obtain ⟨a3, m3, c3, rfl⟩ := own_shape hown3; have s3 := (s2.drewN 1).below hb3; have f5 := s3.cell 5; simp [OpD.cells] at f5; have fv := (HV.out.below s3.bel hvlt).c0; obtain ⟨f2, f3⟩ := HE.out _ s3.bel))
      all_goals go_wp2
      all_goals go_ret2
      all_goals exact ⟨⟨_, rfl, own_mono hown3 s2.bel.size⟩, s3.bel⟩
end Go.Proofs.YtehkdjdflgknnaaGreatDoor

/- A volume in memory: copy, whole; the operations but rename against the plain one. -/
namespace Go.Proofs.YtehkdjdflgknnaaGreatDoor
open Go.RowKit
set_option linter.unusedVariables false
set_option linter.unusedSimpArgs false

theorem vcopy {w : World} {vb : Nat} {v : Value} {L : List EntD} {fold : Bool} {space : Int} (V : Vm w vb v L fold space) (K : VolOk fold L) (o : OpD) (ho : o.small) (hg : goodP o.tl) :
    Calls Tryz.prog 88 #[.pointer (some ⟨vb, 0, none⟩), o.val] w fun r w' => Ans w.heap.size (match L[atI fold L o.pl]? with | none => .error 9 | some e => if e.dir then .error 10 else mkL fold space L ⟨o.dest, false, e.id, e.size, o.mode⟩) r w' ∧ Below w.heap.size w w' := by
  have HF := fun (u : World) (hu : Below w.heap.size w u) => vfile (V.below hu).vol (V.below hu).row V.smallL o.path ho.1
  rw [show o.path.data.toList = o.pl from rfl] at HF
  rcases fstI_at fold L o.pl with ⟨hi, hf⟩ | ⟨hlt, hi, hf⟩
  · rw [hf] at HF ⊢
    exact vcopy_bad V o ho 9 (by decide) HF
  · rw [hf] at HF ⊢
    cases hd : L[atI fold L o.pl].dir
    · simp only [hd, Bool.false_eq_true, if_false] at HF ⊢
      have hrow := V.row
      cases hrow with
      | nil => simp at hlt
      | row b off cap l hlb hc hm h =>
        exact vcopy_good V hlb h o ho (atI fold L o.pl) hlt _ rfl (K.place hg) (K.alike _ (List.getElem_mem hlt) hd) HF
    · simp only [hd, if_true] at HF ⊢
      exact vcopy_bad V o ho 10 (by decide) HF
theorem doL_chmod {fold : Bool} {space : Int} {L : List EntD} {o : OpD} (h : o.kind = 7) : doL fold space L o = match L[atI fold L o.pl]? with | none => .error 9 | some e => .ok (L.set (atI fold L o.pl) { e with mode := o.mode }) := by
  unfold doL
  rw [if_neg (by omega), if_neg (by omega)]
  cases L[atI fold L o.pl]? with
  | none => rfl
  | some e => simp only; rw [if_pos h]

/-- Every operation's own function but rename's, against doL. -/
theorem vop {w : World} {vb : Nat} {v : Value} {L : List EntD} {fold : Bool} {space : Int} (V : Vm w vb v L fold space) (K : VolOk fold L) (o : OpD) (ho : o.small) (hg : OpGood o) (n : Nat)
    (hn : (o.kind = 1 ∧ n = 84) ∨ (o.kind = 2 ∧ n = 85) ∨ (o.kind = 3 ∧ n = 86) ∨ (o.kind = 4 ∧ n = 87) ∨ (o.kind = 5 ∧ n = 88) ∨ (o.kind = 7 ∧ n = 90)) :
    Calls Tryz.prog n #[.pointer (some ⟨vb, 0, none⟩), o.val] w fun r w' => Ans w.heap.size (doL fold space L o) r w' ∧ Below w.heap.size w w' := by
  rcases hn with ⟨h, rfl⟩ | ⟨h, rfl⟩ | ⟨h, rfl⟩ | ⟨h, rfl⟩ | ⟨h, rfl⟩ | ⟨h, rfl⟩
  · rw [doL_mkdir h]; exact vmkdir V o ho (K.place hg.path)
  · rw [doL_rmdir h]; exact vrmdir V o ho
  · rw [doL_unlink K h]; exact vunlink V o ho
  · rw [doL_write h]; exact vwrite V o ho (K.place hg.path) (K.other o.id o.size (hg.file h).1)
  · rw [doL_copy h]; exact vcopy V K o ho (hg.dest (.inl h))
  · rw [doL_chmod h]; exact vchmod V o ho
end Go.Proofs.YtehkdjdflgknnaaGreatDoor

/- A volume in memory: the entries behind an operation; rename's own function is handed in. -/
namespace Go.Proofs.YtehkdjdflgknnaaGreatDoor
open Go.RowKit
set_option linter.unusedVariables false
set_option linter.unusedSimpArgs false

def fnOf (k : Int) : Nat := if k = 1 then 84 else if k = 2 then 85 else if k = 3 then 86 else if k = 4 then 87 else if k = 5 then 88 else if k = 6 then 89 else 90

set_option maxHeartbeats 2000000 in
theorem vafter {w : World} {vb : Nat} (kind : Int) (path dest : ByteArray) (id size mode : Int) (hk : 1 ≤ kind ∧ kind ≤ 7) (x : Except Int (List EntD))
    (H : ∀ u : World, Below w.heap.size w u → Calls Tryz.prog (fnOf kind) #[.pointer (some ⟨vb, 0, none⟩), .agg #[.int .i64 kind, .string path, .string dest, .int .i64 id, .int .i64 size, .int .i64 mode]] u fun r w' => Ans u.heap.size x r w' ∧ Below u.heap.size u w') :
    Calls Tryz.prog 61 #[.pointer (some ⟨vb, 0, none⟩), .agg #[.int .i64 kind, .string path, .string dest, .int .i64 id, .int .i64 size, .int .i64 mode]] w fun r w' => Ans w.heap.size x r w' ∧ Below w.heap.size w w' := by
  have HH := hidD H
  clear H
  have ST := hidD (Ob.start w ⟨kind, path, dest, id, size, mode⟩)
  have hK : kind = 1 ∨ kind = 2 ∨ kind = 3 ∨ kind = 4 ∨ kind = 5 ∨ kind = 6 ∨ kind = 7 := by omega
  cases x with
  | error n =>
    unfold Ans at HH ⊢
    rcases hK with rfl | rfl | rfl | rfl | rfl | rfl | rfl
    all_goals
      simp only [fnOf] at HH
      go_enter Tryz.func61, Tryz.ntmps61
      go_wp2_with (first | (go_at_call 84; refine (HH.out _ ST.out.bel).mono ?_; rintro r w1 ⟨rfl, hb1⟩) | (go_at_call 85; refine (HH.out _ ST.out.bel).mono ?_; rintro r w1 ⟨rfl, hb1⟩) | (go_at_call 86; refine (HH.out _ ST.out.bel).mono ?_; rintro r w1 ⟨rfl, hb1⟩) | (go_at_call 87; refine (HH.out _ ST.out.bel).mono ?_; rintro r w1 ⟨rfl, hb1⟩) | (go_at_call 88; refine (HH.out _ ST.out.bel).mono ?_; rintro r w1 ⟨rfl, hb1⟩) | (go_at_call 89; refine (HH.out _ ST.out.bel).mono ?_; rintro r w1 ⟨rfl, hb1⟩) | (go_at_call 90; refine (HH.out _ ST.out.bel).mono ?_; rintro r w1 ⟨rfl, hb1⟩))
      go_ret2
      exact ⟨rfl, (ST.out.below hb1).bel⟩
  | ok M =>
    unfold Ans at HH ⊢
    rcases hK with rfl | rfl | rfl | rfl | rfl | rfl | rfl
    all_goals
      simp only [fnOf] at HH
      go_enter Tryz.func61, Tryz.ntmps61
      go_wp2_with (first | (go_at_call 84; refine (HH.out _ ST.out.bel).mono ?_; rintro r w1 ⟨⟨v3, rfl, hown3⟩, hb1⟩; obtain ⟨a3, m3, c3, rfl⟩ := own_shape hown3) | (go_at_call 85; refine (HH.out _ ST.out.bel).mono ?_; rintro r w1 ⟨⟨v3, rfl, hown3⟩, hb1⟩; obtain ⟨a3, m3, c3, rfl⟩ := own_shape hown3) | (go_at_call 86; refine (HH.out _ ST.out.bel).mono ?_; rintro r w1 ⟨⟨v3, rfl, hown3⟩, hb1⟩; obtain ⟨a3, m3, c3, rfl⟩ := own_shape hown3) | (go_at_call 87; refine (HH.out _ ST.out.bel).mono ?_; rintro r w1 ⟨⟨v3, rfl, hown3⟩, hb1⟩; obtain ⟨a3, m3, c3, rfl⟩ := own_shape hown3) | (go_at_call 88; refine (HH.out _ ST.out.bel).mono ?_; rintro r w1 ⟨⟨v3, rfl, hown3⟩, hb1⟩; obtain ⟨a3, m3, c3, rfl⟩ := own_shape hown3) | (go_at_call 89; refine (HH.out _ ST.out.bel).mono ?_; rintro r w1 ⟨⟨v3, rfl, hown3⟩, hb1⟩; obtain ⟨a3, m3, c3, rfl⟩ := own_shape hown3) | (go_at_call 90; refine (HH.out _ ST.out.bel).mono ?_; rintro r w1 ⟨⟨v3, rfl, hown3⟩, hb1⟩; obtain ⟨a3, m3, c3, rfl⟩ := own_shape hown3))
      go_ret2
      exact ⟨⟨_, rfl, own_mono hown3 ST.out.bel.size⟩, (ST.out.below hb1).bel⟩
end Go.Proofs.YtehkdjdflgknnaaGreatDoor

