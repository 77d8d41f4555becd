/- VU, VV, VW, VX, VY, XD: in one text. -/
import Derived.Test.YtpjjagalekolaaaGreatDoorP17
import Derived.Test.YtpjjagalekolaaaGreatDoorP21Sort
import Derived.Test.YtpjjagalekolaaaGreatDoorP18
import Derived.Deep.RegionWith
/- The library's SortFunc at entries, by their paths. -/
namespace Go.Proofs.YtpjjagalekolaaaGreatDoor
open Go.RowKit Go.Sort
set_option linter.unusedVariables false
set_option linter.unusedSimpArgs false

end Go.Proofs.YtpjjagalekolaaaGreatDoor

/- A volume in memory: all that is at a place or below it, elsewhere. -/
namespace Go.Proofs.YtpjjagalekolaaaGreatDoor
open Go.RowKit
set_option linter.unusedVariables false
set_option linter.unusedSimpArgs false

theorem mv_size (a : ByteArray) (o : EntD) (h : mvB a.data.toList o.pl = true) : a.size ≤ o.path.size := by
  obtain ⟨s, h1, _⟩ := (mvB_iff _ _).1 h
  have := congrArg List.length h1
  simp [EntD.pl] at this
  omega

end Go.Proofs.YtpjjagalekolaaaGreatDoor

/- A volume in memory: which entries it may hold; rename. -/
namespace Go.Proofs.YtpjjagalekolaaaGreatDoor
open Go.RowKit
set_option linter.unusedVariables false
set_option linter.unusedSimpArgs false

/-- Where something else is there: by places. -/
theorem ren_find {fold : Bool} {L : List EntD} (K : VolOk fold L) (t : BL) (i : Nat) (hi : i < L.length) :
    (L.any fun x => sameB fold x.pl t && !(x.pl == L[i].pl)) = (decide (atI fold L t < L.length) && decide (atI fold L t ≠ i)) := by
  by_cases hj : atI fold L t < L.length
  · have hs : sameB fold L[atI fold L t].pl t = true := by
      have := List.findIdx_getElem (p := isAt fold t) (w := hj)
      exact this
    by_cases he : atI fold L t = i
    · have : (L.any fun x => sameB fold x.pl t && !(x.pl == L[i].pl)) = false := by
        rw [List.any_eq_false]
        intro x hx h
        simp only [Bool.and_eq_true, Bool.not_eq_true', beq_eq_false_iff_ne] at h
        have h1 := K.one x hx _ (List.getElem_mem hj) (sameB_trans h.1 (sameB_symm hs))
        apply h.2
        rw [h1]
        congr 1
        simp [he]
      rw [this]; simp [he]
    · have : (L.any fun x => sameB fold x.pl t && !(x.pl == L[i].pl)) = true := by
        rw [List.any_eq_true]
        refine ⟨_, List.getElem_mem hj, ?_⟩
        simp only [hs, Bool.true_and, Bool.not_eq_true', beq_eq_false_iff_ne]
        intro e
        exact he (K.srt.inj _ _ hj hi e)
      rw [this]; simp [he, hj]
  · have : (L.any fun x => sameB fold x.pl t && !(x.pl == L[i].pl)) = false := by
      rw [List.any_eq_false]
      intro x hx h
      simp only [Bool.and_eq_true] at h
      apply hj
      rw [atI, List.findIdx_lt_length]
      exact ⟨x, hx, h.1⟩
    rw [this]; simp [hj]
theorem fstI_atI (fold : Bool) (L : List EntD) (p : BL) : fstI (isAt fold p) L = if atI fold L p < L.length then (atI fold L p : Int) else -1 := by
  rcases fstI_at fold L p with ⟨h1, h2⟩ | ⟨h0, h1, h2⟩
  · rw [h1, if_neg (by simpa using h2)]
  · rw [h1, if_pos h0]

/-- What rename tells ahead of the moving: the error, or the path as it stands here. -/
def preL (fold : Bool) (L : List EntD) (e : EntD) (t : BL) : Except Int BL :=
  if belowL fold t e.pl = true then .error 12
  else if (L.any fun x => sameB fold x.pl t && !(x.pl == e.pl)) = true then .error 8
  else match placeL fold L t with
    | none => .error 2
    | some p => .ok p
theorem renL_pre (fold : Bool) (L : List EntD) (e : EntD) (t : BL) : renL fold L e t = match preL fold L e t with | .error n => .error n | .ok p => if L.any (badX e p) = true then .error 1 else .ok (resR L e.pl p) := by
  unfold renL preL
  split
  · rfl
  · split
    · rfl
    · cases placeL fold L t <;> rfl
theorem pre_ren {fold : Bool} {L : List EntD} {e : EntD} {t p : BL} (he : e ∈ L) (hg : goodP t) (h : preL fold L e t = .ok p) : RenOk fold L e t p := by
  unfold preL at h
  split at h
  · cases h
  · next h1 =>
    split at h
    · cases h
    · next h2 =>
      cases hp : placeL fold L t with
      | none => rw [hp] at h; cases h
      | some q =>
        rw [hp] at h
        cases h
        exact ren_pre he h1 h2 hp hg
theorem pre_len {fold : Bool} {L : List EntD} {e : EntD} {t p : BL} (K : VolOk fold L) (R : RenOk fold L e t p) : p.length ≤ 60 := by
  obtain ⟨h1, h2⟩ := place_good K R.place R.good
  rcases R.good with h | h
  · exact path_len (h1 h)
  · rw [h2 h]; exact good_len (.inr h)

end Go.Proofs.YtpjjagalekolaaaGreatDoor

/- A volume in memory: rename. -/
namespace Go.Proofs.YtpjjagalekolaaaGreatDoor
open Go.RowKit
set_option linter.unusedVariables false
set_option linter.unusedSimpArgs false

end Go.Proofs.YtpjjagalekolaaaGreatDoor

/- A volume in memory: an operation done. -/
namespace Go.Proofs.YtpjjagalekolaaaGreatDoor
open Go.RowKit
set_option linter.unusedVariables false
set_option linter.unusedSimpArgs false

/-- A volume's own block, whole: its entries, whether it folds, its space, and the rest. -/
def Vk (T : TypeId) (w : World) (vb : Nat) (v : Value) (fold : Bool) (space : Int) (rest : List Value) : Prop :=
  w.heap[vb]? = some (.cells (v :: .bool fold :: .int .i64 space :: rest).toArray T (0, 0))
theorem Vk.lt {T : TypeId} {w : World} {vb : Nat} {v : Value} {fold : Bool} {space : Int} {rest : List Value} (h : Vk T w vb v fold space rest) : vb < w.heap.size := (Array.getElem?_eq_some_iff.1 h).1
theorem Vk.vol {T : TypeId} {w : World} {vb : Nat} {v : Value} {fold : Bool} {space : Int} {rest : List Value} (h : Vk T w vb v fold space rest) : VolAt w vb v fold space where
  c0 := by rw [Lib.cell_of_heap h]; rfl
  c1 := by rw [Lib.cell_of_heap h]; rfl
  c2 := by rw [Lib.cell_of_heap h]; rfl
  lt := h.lt
theorem Vk.frozen {T : TypeId} {w : World} {vb : Nat} {v : Value} {fold : Bool} {space : Int} {rest : List Value} (h : Vk T w vb v fold space rest) (j : Nat) : w.frozen? ⟨vb, j, none⟩ = false := frozen_of_row w vb j _ T h
theorem Vk.below {T : TypeId} {w w' : World} {vb : Nat} {v : Value} {fold : Bool} {space : Int} {rest : List Value} (h : Vk T w vb v fold space rest) {B : Nat} (hb : Below B w w') (hB : vb < B) : Vk T w' vb v fold space rest := (hb.block vb hB).trans h
theorem Vk.set {T : TypeId} {w : World} {vb : Nat} {v : Value} {fold : Bool} {space : Int} {rest : List Value} (h : Vk T w vb v fold space rest) (v' : Value) : Vk T (w.setCell ⟨vb, 0, none⟩ v') vb v' fold space rest ∧ w.grownBy (w.setCell ⟨vb, 0, none⟩ v') (some vb) := by
  constructor
  · have := heap_setCell_same w vb 0 _ T v' h
    rw [Vk, this]; simp
  · exact ⟨rfl, rfl, rfl, by simp, fun k _ hk => heap_setCell_other w ⟨vb, 0, none⟩ k v' (fun e => hk (by simp [e]))⟩

/-- What Do answers: an error, and all is as it was; or nothing, and the volume has these entries. -/
def DoA (T : TypeId) (w : World) (vb : Nat) (fold : Bool) (space : Int) (rest : List Value) (x : Except Int (List EntD)) (r : Ending) (w' : World) : Prop :=
  match x with
  | .error n => r = .returned (.int .i64 n) ∧ Below w.heap.size w w'
  | .ok M => r = .returned (.int .i64 0) ∧ ∃ v', Vk T w' vb v' fold space rest ∧ w'.ownsRow w.heap.size 56 5 v' M.length (flatE M) ∧ w.grownBy w' (some vb)

theorem grown_of {w u u' : World} {vb : Nat} (hb : Below w.heap.size w u) (hg : u.grownBy u' (some vb)) : w.grownBy u' (some vb) :=
  ⟨hg.os.trans hb.os, hg.tape.trans hb.tape, hg.output.trans hb.output, Nat.le_trans hb.size hg.size, fun k hk hne => (hg.block k (Nat.lt_of_lt_of_le hk hb.size) hne).trans (hb.block k hk)⟩

end Go.Proofs.YtpjjagalekolaaaGreatDoor

/- The document's volume: an entry more. -/
namespace Go.Proofs.YtpjjagalekolaaaGreatDoor
open Go.RowKit
set_option linter.unusedVariables false
set_option linter.unusedSimpArgs false

theorem eb_set {w u : World} {e : EntD} (h : Eb w e u) (p : ByteArray) : Eb w { e with path := p } (u.setCell ⟨w.heap.size, 0, none⟩ (.string p)) := by
  have hx : (u.setCell ⟨w.heap.size, 0, none⟩ (.string p)).heap[w.heap.size]? = _ := heap_setCell_same u w.heap.size 0 _ 56 (.string p) h.box
  refine ⟨⟨h.bel.os, h.bel.tape, h.bel.output, by simp; exact h.bel.size, fun k hk => ?_⟩, ?_⟩
  · rw [heap_setCell_other u ⟨w.heap.size, 0, none⟩ k _ (fun e => by simp at e; omega)]
    exact h.bel.block k hk
  · rw [hx]; simp [EntD.cells]
theorem eb_frozen {w u : World} {e : EntD} (h : Eb w e u) (j : Nat) : u.frozen? ⟨w.heap.size, j, none⟩ = false := frozen_of_row u w.heap.size j _ 56 h.box
theorem usedQ {u : World} {vb : Nat} {us : Int} (h : Calls Tryz.prog 39 #[.pointer (some ⟨vb, 0, none⟩)] u fun e w' => e = .returned (.int .i64 us) ∧ w' = u) : Calls Tryz.prog 39 #[.pointer (some ⟨vb, 0, none⟩)] u fun e w' => e = .returned (.int .i64 us) ∧ ∃ n, w' = u.drewN n :=
  h.mono (by rintro e w' ⟨rfl, rfl⟩; exact ⟨rfl, 0, rfl⟩)

theorem own_set {w u u' : World} {vb : Nat} {v' : Value} {n : Nat} {xs : List Value} (hvlt : vb < w.heap.size) (h : u.ownsRow w.heap.size 56 5 v' n xs) (q : u.grownBy u' (some vb)) : u'.ownsRow w.heap.size 56 5 v' n xs := by
  refine h.kept q ?_
  cases hb : v'.ownBlock with
  | none => exact .inl rfl
  | some g => exact .inr (fun e => by have := (h.lt g hb).1; cases e; omega)

/-- Does a file of these have what is in it, and another size? -/
def clash (q z : Int) (L : List EntD) : Bool := L.any fun x => !x.dir && decide (x.id = q) && decide (x.size ≠ z)
theorem clash_snoc (q z : Int) (L : List EntD) (k : Nat) (h : k < L.length) : clash q z (L.take (k + 1)) = (clash q z (L.take k) || (!L[k].dir && decide (L[k].id = q) && decide (L[k].size ≠ z))) := any_snocE _ L k h

set_option maxHeartbeats 8000000 in
set_option maxRecDepth 100000 in
theorem refMake_f {w : World} {vb : Nat} {v : Value} {L : List EntD} {fold : Bool} {space : Int} (V : Vm w vb v L fold space) (hk : Vk 74 w vb v fold space []) (p : ByteArray) (q z m : Int) (hp : p.size ≤ 1000000) (hpl : ∀ t, placeL fold L p.data.toList = some t → t.length ≤ 1500000) (hz0 : 0 ≤ z) (hz1 : z ≤ 100) :
    Calls Tryz.prog 62 #[.pointer (some ⟨vb, 0, none⟩), .agg #[.string p, .bool false, .int .i64 q, .int .i64 z, .int .i64 m]] w fun r w' => DoA 74 w vb fold space [] (mkL fold space L ⟨p, false, q, z, m⟩) r w' := by
  have ST := hidD (Eb.start w ⟨p, false, q, z, m⟩)
  have HF := hidD (fun (u : World) (hu : Below w.heap.size w u) => refAt (V.below hu).vol (V.below hu).row V.smallL p (by omega))
  have HP := hidD (fun (u : World) (hu : Below w.heap.size w u) => refPlace (V.below hu).vol (V.below hu).row V.smallL p hp)
  have HU := hidD (fun (u : World) (hu : Below w.heap.size w u) => refUsed (V.below hu))
  have HV := hidD V.vol
  have HK := hidD hk
  have hvlt := V.vol.lt
  have hll := V.len
  have HR := hidD V.row
  have hu0 : 0 ≤ usedL L ∧ usedL L ≤ 1000000000 := by have := V.sizes L.length (Nat.le_refl _); rwa [List.take_length] at this
  obtain ⟨hu1, hu2⟩ := hu0
  have HI := hidD (fun (e : EntD) (he : e.small) (u : World) (hu : Below w.heap.size w u) => refInsert e ((V.below hu).row) (by omega) V.small he)
  have hsp0 := V.sp0
  have hsp1 := V.sp1
  clear V hk
  have HM : Hid (mkL fold space L ⟨p, false, q, z, m⟩ = if (L.any (isAt fold p.data.toList)) = true then .error 8 else match placeL fold L p.data.toList with
    | none => .error 2
    | some t => if 120 ≤ L.length then .error 5 else if clash q z L = true then .error 6 else if space < usedL L + z then .error 11 else .ok (insL ⟨ofL t, false, q, z, m⟩ L)) := by
    show mkL fold space L ⟨p, false, q, z, m⟩ = _
    unfold mkL
    simp only [Bool.not_false, Bool.true_and, decide_eq_true_eq]
    rfl
  rw [HM.out]
  clear HM
  cases ha : L.any (isAt fold p.data.toList)
  · rw [fstI_none _ _ ha] at HF
    simp only [Bool.false_eq_true, if_false]
    cases hpl2 : placeL fold L p.data.toList with
    | none =>
      have hA : plAns fold L p = (⟨#[]⟩, 2) := by simp only [plAns, hpl2]
      rw [hA] at HP
      clear HU HI
      unfold DoA
      go_enter Tryz.func62, Tryz.ntmps62
      go_wp2_with (first | (go_at_call 63; refine (HF.out _ ST.out.bel).mono ?_; rintro r w1 ⟨rfl, hb1⟩; have s1 := ST.out.below hb1; have k0 := s1.cell 0; simp [EntD.cells] at k0) | (go_at_call 109; refine (HP.out _ s1.bel).mono ?_; rintro r w2 ⟨rfl, hb2⟩; have s2 := s1.below hb2))
      go_ret
      exact ⟨rfl, s2.bel⟩
    | some t =>
      have hA : plAns fold L p = (ofL t, 0) := by simp only [plAns, hpl2]
      rw [hA] at HP
      have hts := ofL_small (hpl t hpl2)
      clear hA hpl hpl2
      simp only
      generalize ofL t = pt at *
      obtain ⟨av, cv, rfl⟩ := HR.out.val
      by_cases h120 : 120 ≤ L.length
      · simp only [h120, if_true]
        clear HU HI
        unfold DoA
        go_enter Tryz.func62, Tryz.ntmps62
        go_wp2_with (first | (go_at_call 63; refine (HF.out _ ST.out.bel).mono ?_; rintro r w1 ⟨rfl, hb1⟩; have s1 := ST.out.below hb1; have k0 := s1.cell 0; simp [EntD.cells] at k0) | (go_at_call 109; refine (HP.out _ s1.bel).mono ?_; rintro r w2 ⟨rfl, hb2⟩; have s2 := s1.below hb2; have c0 := (HV.out.below s2.bel hvlt).c0))
        go_ret
        exact ⟨rfl, s2.bel⟩
      · simp only [h120, if_false]
        generalize hX : (if clash q z L = true then (Except.error 6 : Except Int (List EntD)) else if space < usedL L + z then .error 11 else .ok (insL ⟨pt, false, q, z, m⟩ L)) = X
        have HX := hidD hX
        clear hX
        go_enter Tryz.func62, Tryz.ntmps62
        go_wp2_with (first | (go_at_call 63; refine (HF.out _ ST.out.bel).mono ?_; rintro r w1 ⟨rfl, hb1⟩; have s1 := ST.out.below hb1; have k0 := s1.cell 0; simp [EntD.cells] at k0) | (go_at_call 109; refine (HP.out _ s1.bel).mono ?_; rintro r w2 ⟨rfl, hb2⟩; have s2 := s1.below hb2; have c0 := (HV.out.below s2.bel hvlt).c0))
        go_loopw [7] (fun i wr => ∃ k : Nat, k ≤ L.length ∧ i = .int .i64 k ∧ Hid (clash q z (L.take k) = false) ∧ Hid (Eb w ⟨p, false, q, z, m⟩ wr)) (fun i _ => L.length - (intOf i).toNat)
        case atStart => exact ⟨0, Nat.zero_le _, rfl, hidD rfl, hidD s2⟩
        case round =>
          clear s1 s2 hb1 hb2 c0 k0 ST HF HP
          obtain ⟨k, hk, rfl, HD, HS⟩ := hrel
          have c0 := (HV.out.below HS.out.bel hvlt).c0
          have k1 := HS.out.cell 1
          have k2 := HS.out.cell 2
          have k3 := HS.out.cell 3
          simp [EntD.cells] at k1 k2 k3
          by_cases hlt : k < L.length
          · obtain ⟨b, off, rfl, _, hlb, hcs⟩ := row_parts HR.out hlt
            have hcw := (hcs.below HS.out.bel hlb) k hlt
            have d1 := hcw 1 _ rfl
            have d2 := hcw 2 _ rfl
            have d3 := hcw 3 _ rfl
            have HSN := hidD (clash_snoc q z L k hlt)
            have HTW : Hid (clash q z (L.take (k + 1)) = true → clash q z L = true) := fun h => by
              have := take_any_mono _ L (k + 1) L.length (by omega) h
              rwa [List.take_length] at this
            generalize L[k] = x at *
            clear hcw hcs
            have hk2 : (k : Int) < (L.length : Int) := by omega
            have hk3 : (0 : Int) ≤ (k : Int) := by omega
            cases hA : x.dir
            · rw [hA] at d1
              by_cases hB : x.id = q
              · have g1 : (x.id == q) = true := by simpa using hB
                by_cases hC : x.size = z
                · have g2 : (x.size != z) = false := by simpa using hC
                  go_wp2
                  go_quiet (fail)
                  go_wp2
                  exact ⟨⟨k + 1, by omega, by go_num, hidD (by rw [HSN.out, HD.out]; simp [hA, hC]), hidD (HS.out.drewN _)⟩, by simp [intOf]; omega⟩
                · have g2 : (x.size != z) = true := by simpa using hC
                  go_wp2
                  go_quiet (fail)
                  go_wp2
                  go_ret
                  have hcl := HTW.out (by rw [HSN.out]; simp [hA, hB, hC])
                  have hX := HX.out
                  rw [hcl, if_pos rfl] at hX
                  rw [← hX]
                  exact ⟨rfl, (HS.out.drewN _).bel⟩
              · have g1 : (x.id == q) = false := by simpa using hB
                go_wp2
                go_quiet (fail)
                go_wp2
                exact ⟨⟨k + 1, by omega, by go_num, hidD (by rw [HSN.out, HD.out]; simp [hA, hB]), hidD (HS.out.drewN _)⟩, by simp [intOf]; omega⟩
            · rw [hA] at d1
              go_wp2
              go_quiet (fail)
              go_wp2
              exact ⟨⟨k + 1, by omega, by go_num, hidD (by rw [HSN.out, HD.out]; simp [hA]), hidD (HS.out.drewN _)⟩, by simp [intOf]; omega⟩
          · have HCL : Hid (clash q z L = false) := by
              show clash q z L = false
              have := HD.out
              rwa [List.take_of_length_le (by omega)] at this
            have HUQ := hidD (fun (u : World) (hu : Below w.heap.size w u) => usedQ (HU.out u hu))
            have c2 := (HV.out.below HS.out.bel hvlt).c2
            have hwr : IntKind.i64.wrap (usedL L + z) = usedL L + z := by rw [IntKind.wrap_i64]; omega
            have hX := HX.out
            rw [HCL.out, if_neg (by decide)] at hX
            clear HX HCL HD
            by_cases hf : space < usedL L + z
            · rw [if_pos hf] at hX
              generalize usedL L = us at *
              have HXX := hidD hX
              clear hX
              go_wp2
              go_quiet (first | (go_at_call 39; exact Calls.quiet_of (HUQ.out _ (HS.out.drewN _).bel)))
              go_wp2
              go_ret
              rw [← HXX.out]
              exact ⟨rfl, (HS.out.drewN _).bel⟩
            · rw [if_neg hf] at hX
              have HXX := hidD hX
              clear hX
              have HI2 := hidD (fun (u : World) (hu : Below w.heap.size w u) => HI.out ⟨pt, false, q, z, m⟩ hts u hu)
              dsimp only at HI2
              generalize insL ⟨pt, false, q, z, m⟩ L = M at *
              generalize usedL L = us at *
              go_wp2
              go_quiet (first | (go_at_call 39; exact Calls.quiet_of (HUQ.out _ (HS.out.drewN _).bel)))
              have s2 := HS.out.drewN nq
              generalize wr.drewN nq = u2 at *
              have f0 := eb_frozen s2 0
              have e0 := s2.cell 0
              simp [EntD.cells] at e0
              go_wp2
              have s3 := eb_set s2 pt
              generalize u2.setCell ⟨w.heap.size, 0, none⟩ (.string pt) = u3 at *
              have m0 := s3.cell 0
              have m1 := s3.cell 1
              have m2 := s3.cell 2
              have m3 := s3.cell 3
              have m4 := s3.cell 4
              simp [EntD.cells] at m0 m1 m2 m3 m4
              have g0 := (HV.out.below s3.bel hvlt).c0
              have fr := (HK.out.below s3.bel hvlt).frozen 0
              go_region_with (go_at_call 65; refine (HI2.out _ (s3.drewN 1).bel).mono ?_; rintro r w5 ⟨v5, rfl, hown5, hb5⟩; obtain ⟨a5, n5, c5, hv5⟩ := own_shape hown5; subst hv5; have s5 := (s3.drewN 1).below hb5; have k5 := HK.out.below s5.bel hvlt; have h0 := k5.vol.c0; have fr5 := k5.frozen 0)
              all_goals go_wp2
              all_goals go_ret
              all_goals rw [← HXX.out]
              all_goals obtain ⟨q1, q2⟩ := k5.set (.slice a5 n5 c5)
              all_goals exact ⟨rfl, _, q1, own_set hvlt (own_mono hown5 s3.bel.size) q2, grown_of s5.bel q2⟩
  · obtain ⟨i, hi⟩ : ∃ i : Nat, fstI (isAt fold p.data.toList) L = i := ⟨L.findIdx (isAt fold p.data.toList), by rw [fstI, if_pos ha]⟩
    rw [hi] at HF
    simp only [if_true]
    clear HU HI HP
    unfold DoA
    go_enter Tryz.func62, Tryz.ntmps62
    go_wp2_with (first | (go_at_call 63; refine (HF.out _ ST.out.bel).mono ?_; rintro r w1 ⟨rfl, hb1⟩; have s1 := ST.out.below hb1))
    go_ret
    exact ⟨rfl, s1.bel⟩
set_option maxHeartbeats 8000000 in
set_option maxRecDepth 100000 in
theorem refMake_d {w : World} {vb : Nat} {v : Value} {L : List EntD} {fold : Bool} {space : Int} (V : Vm w vb v L fold space) (hk : Vk 74 w vb v fold space []) (p : ByteArray) (m : Int) (hp : p.size ≤ 1000000) (hpl : ∀ t, placeL fold L p.data.toList = some t → t.length ≤ 1500000) :
    Calls Tryz.prog 62 #[.pointer (some ⟨vb, 0, none⟩), .agg #[.string p, .bool true, .int .i64 0, .int .i64 0, .int .i64 m]] w fun r w' => DoA 74 w vb fold space [] (mkL fold space L ⟨p, true, 0, 0, m⟩) r w' := by
  have ST := hidD (Eb.start w ⟨p, true, 0, 0, m⟩)
  have HF := hidD (fun (u : World) (hu : Below w.heap.size w u) => refAt (V.below hu).vol (V.below hu).row V.smallL p (by omega))
  have HP := hidD (fun (u : World) (hu : Below w.heap.size w u) => refPlace (V.below hu).vol (V.below hu).row V.smallL p hp)
  have HU := hidD (fun (u : World) (hu : Below w.heap.size w u) => refUsed (V.below hu))
  have HV := hidD V.vol
  have HK := hidD hk
  have hvlt := V.vol.lt
  have hll := V.len
  have HR := hidD V.row
  have hu0 : 0 ≤ usedL L ∧ usedL L ≤ 1000000000 := by have := V.sizes L.length (Nat.le_refl _); rwa [List.take_length] at this
  obtain ⟨hu1, hu2⟩ := hu0
  have HI := hidD (fun (e : EntD) (he : e.small) (u : World) (hu : Below w.heap.size w u) => refInsert e ((V.below hu).row) (by omega) V.small he)
  have hsp0 := V.sp0
  have hsp1 := V.sp1
  clear V hk
  have HM : Hid (mkL fold space L ⟨p, true, 0, 0, m⟩ = if (L.any (isAt fold p.data.toList)) = true then .error 8 else match placeL fold L p.data.toList with
    | none => .error 2
    | some t => if 120 ≤ L.length then .error 5 else .ok (insL ⟨ofL t, true, 0, 0, m⟩ L)) := by
    show mkL fold space L ⟨p, true, 0, 0, m⟩ = _
    unfold mkL
    simp only [Bool.not_true, Bool.false_and, Bool.false_eq_true, if_false]
    rfl
  rw [HM.out]
  clear HM
  cases ha : L.any (isAt fold p.data.toList)
  · rw [fstI_none _ _ ha] at HF
    simp only [Bool.false_eq_true, if_false]
    cases hpl2 : placeL fold L p.data.toList with
    | none =>
      have hA : plAns fold L p = (⟨#[]⟩, 2) := by simp only [plAns, hpl2]
      rw [hA] at HP
      clear HU HI
      unfold DoA
      go_enter Tryz.func62, Tryz.ntmps62
      go_wp2_with (first | (go_at_call 63; refine (HF.out _ ST.out.bel).mono ?_; rintro r w1 ⟨rfl, hb1⟩; have s1 := ST.out.below hb1; have k0 := s1.cell 0; simp [EntD.cells] at k0) | (go_at_call 109; refine (HP.out _ s1.bel).mono ?_; rintro r w2 ⟨rfl, hb2⟩; have s2 := s1.below hb2))
      go_ret
      exact ⟨rfl, s2.bel⟩
    | some t =>
      have hA : plAns fold L p = (ofL t, 0) := by simp only [plAns, hpl2]
      rw [hA] at HP
      have hts := ofL_small (hpl t hpl2)
      clear hA hpl hpl2
      simp only
      generalize ofL t = pt at *
      obtain ⟨av, cv, rfl⟩ := HR.out.val
      by_cases h120 : 120 ≤ L.length
      · simp only [h120, if_true]
        clear HU HI
        unfold DoA
        go_enter Tryz.func62, Tryz.ntmps62
        go_wp2_with (first | (go_at_call 63; refine (HF.out _ ST.out.bel).mono ?_; rintro r w1 ⟨rfl, hb1⟩; have s1 := ST.out.below hb1; have k0 := s1.cell 0; simp [EntD.cells] at k0) | (go_at_call 109; refine (HP.out _ s1.bel).mono ?_; rintro r w2 ⟨rfl, hb2⟩; have s2 := s1.below hb2; have c0 := (HV.out.below s2.bel hvlt).c0))
        go_ret
        exact ⟨rfl, s2.bel⟩
      · simp only [h120, if_false]
        have HI2 := hidD (fun (u : World) (hu : Below w.heap.size w u) => HI.out ⟨pt, true, 0, 0, m⟩ hts u hu)
        dsimp only at HI2
        generalize insL ⟨pt, true, 0, 0, m⟩ L = M at *
        unfold DoA
        go_enter Tryz.func62, Tryz.ntmps62
        go_wp2_with (first | (go_at_call 63; refine (HF.out _ ST.out.bel).mono ?_; rintro r w1 ⟨rfl, hb1⟩; have s1 := ST.out.below hb1; have k0 := s1.cell 0; simp [EntD.cells] at k0) | (go_at_call 109; refine (HP.out _ s1.bel).mono ?_; rintro r w2 ⟨rfl, hb2⟩; have s2 := s1.below hb2; have c0 := (HV.out.below s2.bel hvlt).c0))
        go_loopw [7] (fun i wr => ∃ k : Nat, k ≤ L.length ∧ i = .int .i64 k ∧ Hid (Eb w ⟨p, true, 0, 0, m⟩ wr)) (fun i _ => L.length - (intOf i).toNat)
        case atStart => exact ⟨0, Nat.zero_le _, rfl, hidD s2⟩
        case round =>
          clear s1 s2 hb1 hb2 c0 k0 ST HF HP
          obtain ⟨k, hk, rfl, HS⟩ := hrel
          have c0 := (HV.out.below HS.out.bel hvlt).c0
          have k1 := HS.out.cell 1
          have k2 := HS.out.cell 2
          have k3 := HS.out.cell 3
          simp [EntD.cells] at k1 k2 k3
          by_cases hlt : k < L.length
          · obtain ⟨b, off, rfl, _, hlb, hcs⟩ := row_parts HR.out hlt
            have hk2 : (k : Int) < (L.length : Int) := by omega
            have hk3 : (0 : Int) ≤ (k : Int) := by omega
            go_wp2
            go_quiet (fail)
            go_wp2
            exact ⟨⟨k + 1, by omega, by go_num, hidD (HS.out.drewN _)⟩, by simp [intOf]; omega⟩
          · go_wp2
            go_quiet (fail)
            have s2 := HS.out.drewN nq
            generalize wr.drewN nq = u2 at *
            have f0 := eb_frozen s2 0
            have e0 := s2.cell 0
            simp [EntD.cells] at e0
            go_wp2
            have s3 := eb_set s2 pt
            generalize u2.setCell ⟨w.heap.size, 0, none⟩ (.string pt) = u3 at *
            have m0 := s3.cell 0
            have m1 := s3.cell 1
            have m2 := s3.cell 2
            have m3 := s3.cell 3
            have m4 := s3.cell 4
            simp [EntD.cells] at m0 m1 m2 m3 m4
            have g0 := (HV.out.below s3.bel hvlt).c0
            have fr := (HK.out.below s3.bel hvlt).frozen 0
            go_region_with (go_at_call 65; refine (HI2.out _ (s3.drewN 1).bel).mono ?_; rintro r w5 ⟨v5, rfl, hown5, hb5⟩; obtain ⟨a5, n5, c5, hv5⟩ := own_shape hown5; subst hv5; have s5 := (s3.drewN 1).below hb5; have k5 := HK.out.below s5.bel hvlt; have h0 := k5.vol.c0; have fr5 := k5.frozen 0)
            all_goals go_wp2
            all_goals go_ret
            all_goals obtain ⟨q1, q2⟩ := k5.set (.slice a5 n5 c5)
            all_goals exact ⟨rfl, _, q1, own_set hvlt (own_mono hown5 s3.bel.size) q2, grown_of s5.bel q2⟩
  · obtain ⟨i, hi⟩ : ∃ i : Nat, fstI (isAt fold p.data.toList) L = i := ⟨L.findIdx (isAt fold p.data.toList), by rw [fstI, if_pos ha]⟩
    rw [hi] at HF
    simp only [if_true]
    clear HU HI HP
    unfold DoA
    go_enter Tryz.func62, Tryz.ntmps62
    go_wp2_with (first | (go_at_call 63; refine (HF.out _ ST.out.bel).mono ?_; rintro r w1 ⟨rfl, hb1⟩; have s1 := ST.out.below hb1))
    go_ret
    exact ⟨rfl, s1.bel⟩
end Go.Proofs.YtpjjagalekolaaaGreatDoor

