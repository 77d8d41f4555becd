/- VE, VF, VG, SC: in one text. -/
import Derived.Test.YtpjjagalekolaaaGreatDoorP15
import Derived.Test.YtpjjagalekolaaaGreatDoorP06
import Derived.Test.YtpjjagalekolaaaGreatDoorP09
import Derived.Deep.RegionHeld
import Derived.Test.YtpjjagalekolaaaGreatDoorP04Shelf
/- Plain: every operation of a script on a tree, and whole scripts. No program in this text. -/
namespace Go.Proofs.YtpjjagalekolaaaGreatDoor
open Go.RowKit
set_option linter.unusedVariables false
set_option linter.unusedSimpArgs false

def OpD.pl (o : OpD) : BL := o.path.data.toList
def OpD.tl (o : OpD) : BL := o.dest.data.toList
def isAt (fold : Bool) (p : BL) (x : EntD) : Bool := sameB fold x.pl p
def atI (fold : Bool) (L : List EntD) (p : BL) : Nat := L.findIdx (isAt fold p)

def renL (fold : Bool) (L : List EntD) (e : EntD) (to : BL) : Except Int (List EntD) :=
  if belowL fold to e.pl = true then .error 12
  else if (L.any fun x => sameB fold x.pl to && !(x.pl == e.pl)) = true then .error 8
  else match placeL fold L to with
    | none => .error 2
    | some p => if L.any (badX e p) = true then .error 1 else .ok (resR L e.pl p)

def doL (fold : Bool) (space : Int) (L : List EntD) (o : OpD) : Except Int (List EntD) :=
  if o.kind = 1 then mkL fold space L ⟨o.path, true, 0, 0, o.mode⟩
  else if o.kind = 4 then mkL fold space L ⟨o.path, false, o.id, o.size, o.mode⟩
  else match L[atI fold L o.pl]? with
    | none => .error 9
    | some e =>
      if o.kind = 7 then .ok (L.set (atI fold L o.pl) { e with mode := o.mode })
      else if o.kind = 6 then renL fold L e o.tl
      else if e.dir ≠ decide (o.kind = 2) then .error 10
      else if o.kind = 5 then mkL fold space L ⟨o.dest, false, e.id, e.size, o.mode⟩
      else if (L.any fun x => belowL false x.pl e.pl) = true then .error 13
      else .ok (L.eraseIdx (atI fold L o.pl))

/-- What an operation of a script is, kind by kind. -/
structure OpGood (o : OpD) : Prop where
  kinds : 1 ≤ o.kind ∧ o.kind ≤ 7
  path : goodP o.pl
  plain : o.kind = 1 → pathL o.pl = true
  dest : o.kind = 5 ∨ o.kind = 6 → goodP o.tl
  mode : o.kind = 1 ∨ o.kind = 4 ∨ o.kind = 5 ∨ o.kind = 7 → 0 ≤ o.mode ∧ o.mode ≤ 511
  file : o.kind = 4 → 1 ≤ o.id ∧ o.id ≤ 9999 ∧ 0 ≤ o.size ∧ o.size ≤ 100
theorem place_goodP {l : BL} {sp : Bool} (h : placeB l sp = true) : goodP l ∧ (sp = false → pathL l = true) := by
  unfold placeB at h
  rw [Bool.or_eq_true, Bool.and_eq_true] at h
  rcases h with h | ⟨h1, h2⟩
  · exact ⟨.inl h, fun _ => h⟩
  · exact ⟨.inr h2, fun e => by rw [e] at h1; cases h1⟩
theorem okOp_good {o : OpD} (h : okOp o = true) : OpGood o := by
  unfold okOp at h
  rw [Bool.and_eq_true] at h
  obtain ⟨hk, hf⟩ := h
  have hk' : 1 ≤ o.kind ∧ o.kind ≤ 7 := by simpa [withinB] using hk
  obtain ⟨K, hK⟩ := Int.eq_ofNat_of_zero_le (by omega : 0 ≤ o.kind)
  have h1 : 1 ≤ K := by omega
  have h7 : K ≤ 7 := by omega
  rw [hK] at hf
  unfold opFits at hf
  simp only [Bool.and_eq_true] at hf
  obtain ⟨⟨⟨⟨f1, f2⟩, f3⟩, f4⟩, f5⟩ := hf
  have hn : K = 1 ∨ K = 2 ∨ K = 3 ∨ K = 4 ∨ K = 5 ∨ K = 6 ∨ K = 7 := by omega
  obtain ⟨p1, p2⟩ := place_goodP f1
  refine ⟨hk', p1, fun e => ?_, fun e => ?_, fun e => ?_, fun e => ?_⟩
  · obtain rfl : K = 1 := by omega
    exact p2 rfl
  · have hK5 : K = 5 ∨ K = 6 := by omega
    rcases hK5 with rfl | rfl
    · exact (place_goodP (sp := true) f2).1
    · exact (place_goodP (sp := true) f2).1
  · have hKm : K = 1 ∨ K = 4 ∨ K = 5 ∨ K = 7 := by omega
    rcases hKm with rfl | rfl | rfl | rfl
    all_goals (have := f5; simpa [needOf, fitsB, withinB] using this)
  · obtain rfl : K = 4 := by omega
    have g3 : 1 ≤ o.id ∧ o.id ≤ 9999 := by simpa [needOf, fitsB, withinB] using f3
    have g4 : 0 ≤ o.size ∧ o.size ≤ 100 := by simpa [needOf, fitsB, withinB] using f4
    exact ⟨g3.1, g3.2, g4.1, g4.2⟩

theorem atI_some {fold : Bool} {L : List EntD} {p : BL} {e : EntD} (h : L[atI fold L p]? = some e) : ∃ hi : atI fold L p < L.length, L[atI fold L p] = e ∧ sameB fold e.pl p = true := by
  obtain ⟨hi, he⟩ := List.getElem?_eq_some_iff.1 h
  refine ⟨hi, he, ?_⟩
  have := List.findIdx_getElem (p := isAt fold p) (w := hi)
  unfold isAt at this
  rw [← he]; exact this

theorem ren_pre {fold : Bool} {L : List EntD} {e : EntD} {to p : BL} (he : e ∈ L) (h1 : ¬ belowL fold to e.pl = true) (h2 : ¬ (L.any fun x => sameB fold x.pl to && !(x.pl == e.pl)) = true) (h3 : placeL fold L to = some p) (hg : goodP to) : RenOk fold L e to p where
  mem := he
  inside := by simpa using h1
  free := fun x hx hs => by
    by_cases hz : x.pl = e.pl
    · exact hz
    · exact absurd (List.any_eq_true.2 ⟨x, hx, by simp [hs, hz]⟩) h2
  place := h3
  good := hg

theorem do_ok {fold : Bool} {space : Int} {L L' : List EntD} {o : OpD} (V : VolOk fold L) (ho : OpGood o) (h : doL fold space L o = .ok L') : VolOk fold L' := by
  unfold doL at h
  split at h
  · next hk => exact mk_ok V h ho.path (fun _ => ho.plain hk) (by have := ho.mode (.inl hk); simp [fieldsB]; omega)
  · split at h
    · next hk => exact mk_ok V h ho.path (fun hd => by cases hd) (by have := ho.mode (.inr (.inl hk)); have := ho.file hk; simp [fieldsB]; omega)
    · next h1 h4 =>
      cases hat : L[atI fold L o.pl]? with
      | none => rw [hat] at h; cases h
      | some e =>
        rw [hat] at h
        simp only at h
        obtain ⟨hi, he, hs⟩ := atI_some hat
        have hm : e ∈ L := he ▸ List.getElem_mem hi
        split at h
        · next h7 =>
          have hm7 := ho.mode (.inr (.inr (.inr h7)))
          have := set_ok V hi o.mode hm7.1 hm7.2
          rw [he] at this
          rw [← Except.ok.inj h]; exact this
        · split at h
          · next h6 =>
            unfold renL at h
            split at h
            · cases h
            · next r1 =>
              split at h
              · cases h
              · next r2 =>
                cases hp : placeL fold L o.tl with
                | none => rw [hp] at h; cases h
                | some p =>
                  rw [hp] at h
                  simp only at h
                  split at h
                  · cases h
                  · next r3 =>
                    rw [← Except.ok.inj h]
                    exact ren_ok V (ren_pre hm r1 r2 hp (ho.dest (.inr h6))) (by simpa using r3)
          · split at h
            · cases h
            · next hd =>
              split at h
              · next h5 =>
                have hde : e.dir = false := by
                  have : decide (o.kind = 2) = false := by rw [decide_eq_false_iff_not]; omega
                  rw [this] at hd
                  simpa using hd
                have hf := V.fields e hm
                obtain ⟨_, _, f⟩ := fieldsB_true _ hf
                have hm5 := ho.mode (.inr (.inr (.inl h5)))
                refine mk_ok V h (ho.dest (.inl h5)) (fun hd => by cases hd) ?_
                rcases f with ⟨d1, _⟩ | ⟨_, i1, i2, i3, i4⟩
                · rw [hde] at d1; cases d1
                · simp [fieldsB]; omega
              · split at h
                · cases h
                · next hb =>
                  rw [← Except.ok.inj h]
                  have hb' : (L.any fun x => belowL false x.pl L[atI fold L o.pl].pl) = false := by rw [he]; simpa using hb
                  exact erase_ok V hi hb'

/-- Whole scripts: the tree and the need; or the error and its place. -/
def tryL (fold : Bool) (space : Int) (L : List EntD) (need : Int) : List OpD → Nat → Except (Int × Nat) (List EntD × Int)
  | [], _ => .ok (L, need)
  | o :: t, i => match doL fold space L o with
    | .error c => .error (c, i)
    | .ok L' => tryL fold space L' (max need (usedL L')) t (i + 1)

theorem used_le {fold : Bool} {L : List EntD} (V : VolOk fold L) : 0 ≤ usedL L ∧ usedL L ≤ 12000 := by
  suffices key : ∀ M : List EntD, (∀ o ∈ M, 0 ≤ o.size ∧ o.size ≤ 100) → 0 ≤ usedL M ∧ usedL M ≤ 100 * M.length by
    have := key L (fun o ho => by
      obtain ⟨_, _, f⟩ := fieldsB_true _ (V.fields o ho)
      rcases f with ⟨_, _, z⟩ | ⟨_, _, _, z1, z2⟩
      · omega
      · omega)
    have := V.few
    omega
  intro M
  induction M with
  | nil => intro _; simp [usedL]
  | cons o M ih =>
    intro h
    have h1 := ih (fun x hx => h x (by simp [hx]))
    have h2 := h o (by simp)
    simp only [usedL, List.length_cons]
    omega
/-- With so much space no file is too great. -/
theorem mk_space {fold : Bool} {s1 s2 : Int} {L : List EntD} {e : EntD} (V : VolOk fold L) (h1 : 20000 ≤ s1) (h2 : 20000 ≤ s2) (he : e.size ≤ 100) : mkL fold s1 L e = mkL fold s2 L e := by
  have := used_le V
  have e1 : decide (s1 < usedL L + e.size) = false := by rw [decide_eq_false_iff_not]; omega
  have e2 : decide (s2 < usedL L + e.size) = false := by rw [decide_eq_false_iff_not]; omega
  unfold mkL
  rw [e1, e2]
theorem do_space {fold : Bool} {s1 s2 : Int} {L : List EntD} {o : OpD} (V : VolOk fold L) (ho : OpGood o) (h1 : 20000 ≤ s1) (h2 : 20000 ≤ s2) : doL fold s1 L o = doL fold s2 L o := by
  unfold doL
  split
  · exact mk_space V h1 h2 (by simp)
  · split
    · next hk => exact mk_space V h1 h2 (by have := ho.file hk; simp; omega)
    · cases hat : L[atI fold L o.pl]? with
      | none => rfl
      | some e =>
        simp only
        obtain ⟨hi, he, hs⟩ := atI_some hat
        have hm : e ∈ L := he ▸ List.getElem_mem hi
        obtain ⟨_, _, f⟩ := fieldsB_true _ (V.fields e hm)
        have hz : e.size ≤ 100 := by
          rcases f with ⟨_, _, z⟩ | ⟨_, _, _, _, z⟩
          · omega
          · exact z
        rw [mk_space (s1 := s1) (s2 := s2) V h1 h2 (e := ⟨o.dest, false, e.id, e.size, o.mode⟩) hz]
theorem try_space {fold : Bool} {s1 s2 : Int} (h1 : 20000 ≤ s1) (h2 : 20000 ≤ s2) : ∀ (l : List OpD) (L : List EntD) (need : Int) (i : Nat), VolOk fold L → (∀ o ∈ l, OpGood o) → tryL fold s1 L need l i = tryL fold s2 L need l i := by
  intro l
  induction l with
  | nil => intro L need i _ _; rfl
  | cons o t ih =>
    intro L need i V ho
    rw [tryL, tryL, do_space V (ho o (by simp)) h1 h2]
    cases hd : doL fold s2 L o with
    | error c => rfl
    | ok L' =>
      simp only
      exact ih L' _ _ (do_ok V (ho o (by simp)) hd) (fun x hx => ho x (by simp [hx]))
end Go.Proofs.YtpjjagalekolaaaGreatDoor

/- A volume in memory: finding, places, sizes. -/
namespace Go.Proofs.YtpjjagalekolaaaGreatDoor
open Go.RowKit
set_option linter.unusedVariables false
set_option linter.unusedSimpArgs false

/-- A list of entries as the program holds it: nil, or a row. -/
inductive RowAt (w : World) : Value → List EntD → Prop
  | nil : RowAt w (.slice none 0 0) []
  | row (b off cap : Nat) (l : List EntD) (hb : b < w.heap.size) (hc : l.length ≤ cap) (hm : cap ≤ maxLen) (h : EntsAt w b off l) : RowAt w (.slice (some ⟨b, off, none⟩) l.length cap) l
theorem RowAt.below {w w' : World} {v : Value} {l : List EntD} (h : RowAt w v l) {B : Nat} (hb : Below B w w') (hB : w.heap.size ≤ B) : RowAt w' v l := by
  cases h with
  | nil => exact .nil
  | row b off cap l hlt hc hm h => exact .row b off cap l (by have := hb.size; omega) hc hm (h.below hb (by omega))
theorem RowAt.val {w : World} {v : Value} {l : List EntD} (h : RowAt w v l) : ∃ a c, v = .slice a l.length c := by
  cases h with
  | nil => exact ⟨_, _, rfl⟩
  | row b off cap l hlt hc hm h => exact ⟨_, _, rfl⟩

structure VolAt (w : World) (vb : Nat) (v : Value) (fold : Bool) (space : Int) : Prop where
  c0 : w.cell? ⟨vb, 0, none⟩ = some v
  c1 : w.cell? ⟨vb, 1, none⟩ = some (.bool fold)
  c2 : w.cell? ⟨vb, 2, none⟩ = some (.int .i64 space)
  lt : vb < w.heap.size
theorem VolAt.below {w w' : World} {vb : Nat} {v : Value} {fold : Bool} {space : Int} (h : VolAt w vb v fold space) {B : Nat} (hb : Below B w w') (hB : vb < B) : VolAt w' vb v fold space :=
  ⟨cell_kept hb hB h.c0, cell_kept hb hB h.c1, cell_kept hb hB h.c2, by have := hb.size; have := h.lt; omega⟩

set_option maxHeartbeats 1000000 in
theorem indexFunc_nil (P0 P1 : Addr) (w : World) :
    Calls Tryz.prog 181 #[.slice none 0 0, .func (.func 191) #[] #[.pointer (some P0), .pointer (some P1)]] w fun e w' => e = .returned (.int .i64 (-1)) ∧ w' = w := by
  go_enter Tryz.func181, Tryz.ntmps181
  go_wp2
  refine wp_loop_rounds 1 ?_
  rw [rounds_succ]
  go_wp2
  go_ret
  exact ⟨rfl, rfl⟩
set_option maxHeartbeats 1000000 in
theorem find_nil (p : ByteArray) (fold : Bool) (w : World) :
    Calls Tryz.prog 155 #[.slice none 0 0, .string p, .bool fold] w fun e w' => e = .returned (.int .i64 (-1)) ∧ Below w.heap.size w w' := by
  have hmf : ∀ (fn : Fn) (first cap : Array Value) (w : World), (Instr.makeFunc fn first cap).run Tryz.prog w = .ok (.func fn first cap) w := fun _ _ _ _ => rfl
  go_enter Tryz.func155, Tryz.ntmps155
  go_wp2_with (go_at_call 181; refine (indexFunc_nil _ _ _).mono ?_; rintro e w1 ⟨rfl, rfl⟩)
  go_ret
  exact ⟨rfl, ((Below.refl _ _).alloc (Nat.le_refl _) _).alloc (by simp) _⟩

def SmallL (l : List EntD) : Prop := l.length ≤ 2000000 ∧ ∀ o ∈ l, o.small
theorem tfind {w : World} {v : Value} {l : List EntD} (h : RowAt w v l) (hs : SmallL l) (p : ByteArray) (hp : p.size ≤ 1500000) (fold : Bool) : ∀ u : World, Below w.heap.size w u → Calls Tryz.prog 155 #[v, .string p, .bool fold] u fun e u' => e = .returned (.int .i64 (fstI (isAt fold p.data.toList) l)) ∧ Below u.heap.size u u' := by
  intro u hu
  cases h with
  | nil => exact find_nil p fold u
  | row b off cap l hlt hc hm h => exact find_any b off cap l p fold u hs.1 hs.2 hp (by have := hu.size; omega) (h.below hu hlt)

/-! Sizes. -/
theorem usedL_snoc (L : List EntD) (k : Nat) (h : k < L.length) : usedL (L.take (k + 1)) = usedL (L.take k) + L[k].size := by
  rw [List.take_succ_eq_append_getElem h]
  suffices key : ∀ (M : List EntD) (x : EntD), usedL (M ++ [x]) = usedL M + x.size by exact key _ _
  intro M x
  induction M with
  | nil => simp [usedL]
  | cons o M ih => simp only [List.cons_append, usedL, ih]; omega
end Go.Proofs.YtpjjagalekolaaaGreatDoor

/- A volume in memory: where a thing would stand, files, what is free. -/
namespace Go.Proofs.YtpjjagalekolaaaGreatDoor
open Go.RowKit
set_option linter.unusedVariables false
set_option linter.unusedSimpArgs false

def ofL (l : BL) : ByteArray := ⟨l.toArray⟩
theorem ofL_toList (s : ByteArray) : ofL s.data.toList = s := by simp [ofL]
def plAns (fold : Bool) (L : List EntD) (p : ByteArray) : ByteArray × Int :=
  match placeL fold L p.data.toList with
  | some t => (ofL t, 0)
  | none => (⟨#[]⟩, 2)
theorem plAns_top {fold : Bool} {L : List EntD} {p : ByteArray} (h : (parentB p).toList = []) : plAns fold L p = (p, 0) := by
  rw [par_toList] at h
  simp only [plAns, placeL, h, if_true, ofL_toList]
theorem plAns_none {fold : Bool} {L : List EntD} {p : ByteArray} (h : (parentB p).toList ≠ []) (hf : L.find? (isAt fold (parentB p).data.toList) = none) : plAns fold L p = (⟨#[]⟩, 2) := by
  rw [par_toList] at h
  rw [parentB_eq] at hf
  have : atP fold L (parentL p.data.toList) = none := hf
  simp only [plAns, placeL, h, if_false, this]
theorem fstI_at (fold : Bool) (L : List EntD) (p : BL) : (fstI (isAt fold p) L = -1 ∧ L[atI fold L p]? = none) ∨ ∃ h : atI fold L p < L.length, fstI (isAt fold p) L = (atI fold L p : Nat) ∧ L[atI fold L p]? = some L[atI fold L p] := by
  by_cases ha : L.any (isAt fold p) = true
  · right
    have hlt : L.findIdx (isAt fold p) < L.length := by rw [List.findIdx_lt_length]; simpa using ha
    exact ⟨hlt, by rw [fstI, if_pos ha]; rfl, List.getElem?_eq_getElem hlt⟩
  · left
    have ha' : L.any (isAt fold p) = false := by simpa using ha
    refine ⟨fstI_none _ L ha', ?_⟩
    rw [List.getElem?_eq_none_iff, atI, Nat.le_iff_lt_or_eq]
    right
    rw [eq_comm, List.findIdx_eq_length]
    simpa using ha'

end Go.Proofs.YtpjjagalekolaaaGreatDoor

/- Small functions of the laws of keeping: is a content there, is a path below another, where is a path, is a name spare. -/
namespace Go.Proofs.YtpjjagalekolaaaGreatDoor
open Go.RowKit
set_option linter.unusedVariables false
set_option linter.unusedSimpArgs false

/-- Is a content in a file of a tree? -/
def hasB (L : List EntD) (id : Int) : Bool := L.any fun o => !o.dir && o.id == id
theorem hasB_take {L : List EntD} {id : Int} {i : Nat} {o : EntD} (h : L[i]? = some o) : hasB (L.take (i + 1)) id = (hasB (L.take i) id || (!o.dir && o.id == id)) := by
  unfold hasB
  rw [List.take_add_one, h]
  simp [List.any_append]
end Go.Proofs.YtpjjagalekolaaaGreatDoor

