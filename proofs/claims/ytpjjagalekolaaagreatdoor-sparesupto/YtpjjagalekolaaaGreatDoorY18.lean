/- VE, VF, VG, SC: in one text. -/
import Derived.Test.YtpjjagalekolaaaGreatDoorY14
import Derived.Test.YtpjjagalekolaaaGreatDoorY17G
import Derived.Test.YtpjjagalekolaaaGreatDoorY07
import Derived.Deep.RegionHeld
import Derived.Test.YtpjjagalekolaaaGreatDoorY03Shelf
/- Plain: every operation of a script on a tree, and whole scripts. No program in this text. -/
namespace Go.Proofs.YtpjjagalekolaaaGreatDoor
open Go.RowKit
set_option linter.unusedVariables false
set_option linter.unusedSimpArgs false

def OpD.pl (o : OpD) : BL := o.path.data.toList
def OpD.tl (o : OpD) : BL := o.dest.data.toList
def isAt (fold : Bool) (p : BL) (x : EntD) : Bool := sameB fold x.pl p
def atI (fold : Bool) (L : List EntD) (p : BL) : Nat := L.findIdx (isAt fold p)

def renL (fold : Bool) (L : List EntD) (e : EntD) (to : BL) : Except Int (List EntD) :=
  if belowL fold to e.pl = true then .error 12
  else if (L.any fun x => sameB fold x.pl to && !(x.pl == e.pl)) = true then .error 8
  else match placeL fold L to with
    | none => .error 2
    | some p => if L.any (badX e p) = true then .error 1 else .ok (resR L e.pl p)

def doL (fold : Bool) (space : Int) (L : List EntD) (o : OpD) : Except Int (List EntD) :=
  if o.kind = 1 then mkL fold space L ⟨o.path, true, 0, 0, o.mode⟩
  else if o.kind = 4 then mkL fold space L ⟨o.path, false, o.id, o.size, o.mode⟩
  else match L[atI fold L o.pl]? with
    | none => .error 9
    | some e =>
      if o.kind = 7 then .ok (L.set (atI fold L o.pl) { e with mode := o.mode })
      else if o.kind = 6 then renL fold L e o.tl
      else if e.dir ≠ decide (o.kind = 2) then .error 10
      else if o.kind = 5 then mkL fold space L ⟨o.dest, false, e.id, e.size, o.mode⟩
      else if (L.any fun x => belowL false x.pl e.pl) = true then .error 13
      else .ok (L.eraseIdx (atI fold L o.pl))

/-- What an operation of a script is, kind by kind. -/
structure OpGood (o : OpD) : Prop where
  kinds : 1 ≤ o.kind ∧ o.kind ≤ 7
  path : goodP o.pl
  plain : o.kind = 1 → pathL o.pl = true
  dest : o.kind = 5 ∨ o.kind = 6 → goodP o.tl
  mode : o.kind = 1 ∨ o.kind = 4 ∨ o.kind = 5 ∨ o.kind = 7 → 0 ≤ o.mode ∧ o.mode ≤ 511
  file : o.kind = 4 → 1 ≤ o.id ∧ o.id ≤ 9999 ∧ 0 ≤ o.size ∧ o.size ≤ 100
theorem place_goodP {l : BL} {sp : Bool} (h : placeB l sp = true) : goodP l ∧ (sp = false → pathL l = true) := by
  unfold placeB at h
  rw [Bool.or_eq_true, Bool.and_eq_true] at h
  rcases h with h | ⟨h1, h2⟩
  · exact ⟨.inl h, fun _ => h⟩
  · exact ⟨.inr h2, fun e => by rw [e] at h1; cases h1⟩
theorem okOp_good {o : OpD} (h : okOp o = true) : OpGood o := by
  unfold okOp at h
  rw [Bool.and_eq_true] at h
  obtain ⟨hk, hf⟩ := h
  have hk' : 1 ≤ o.kind ∧ o.kind ≤ 7 := by simpa [withinB] using hk
  obtain ⟨K, hK⟩ := Int.eq_ofNat_of_zero_le (by omega : 0 ≤ o.kind)
  have h1 : 1 ≤ K := by omega
  have h7 : K ≤ 7 := by omega
  rw [hK] at hf
  unfold opFits at hf
  simp only [Bool.and_eq_true] at hf
  obtain ⟨⟨⟨⟨f1, f2⟩, f3⟩, f4⟩, f5⟩ := hf
  have hn : K = 1 ∨ K = 2 ∨ K = 3 ∨ K = 4 ∨ K = 5 ∨ K = 6 ∨ K = 7 := by omega
  obtain ⟨p1, p2⟩ := place_goodP f1
  refine ⟨hk', p1, fun e => ?_, fun e => ?_, fun e => ?_, fun e => ?_⟩
  · obtain rfl : K = 1 := by omega
    exact p2 rfl
  · have hK5 : K = 5 ∨ K = 6 := by omega
    rcases hK5 with rfl | rfl
    · exact (place_goodP (sp := true) f2).1
    · exact (place_goodP (sp := true) f2).1
  · have hKm : K = 1 ∨ K = 4 ∨ K = 5 ∨ K = 7 := by omega
    rcases hKm with rfl | rfl | rfl | rfl
    all_goals (have := f5; simpa [needOf, fitsB, withinB] using this)
  · obtain rfl : K = 4 := by omega
    have g3 : 1 ≤ o.id ∧ o.id ≤ 9999 := by simpa [needOf, fitsB, withinB] using f3
    have g4 : 0 ≤ o.size ∧ o.size ≤ 100 := by simpa [needOf, fitsB, withinB] using f4
    exact ⟨g3.1, g3.2, g4.1, g4.2⟩

theorem atI_some {fold : Bool} {L : List EntD} {p : BL} {e : EntD} (h : L[atI fold L p]? = some e) : ∃ hi : atI fold L p < L.length, L[atI fold L p] = e ∧ sameB fold e.pl p = true := by
  obtain ⟨hi, he⟩ := List.getElem?_eq_some_iff.1 h
  refine ⟨hi, he, ?_⟩
  have := List.findIdx_getElem (p := isAt fold p) (w := hi)
  unfold isAt at this
  rw [← he]; exact this

theorem ren_pre {fold : Bool} {L : List EntD} {e : EntD} {to p : BL} (he : e ∈ L) (h1 : ¬ belowL fold to e.pl = true) (h2 : ¬ (L.any fun x => sameB fold x.pl to && !(x.pl == e.pl)) = true) (h3 : placeL fold L to = some p) (hg : goodP to) : RenOk fold L e to p where
  mem := he
  inside := by simpa using h1
  free := fun x hx hs => by
    by_cases hz : x.pl = e.pl
    · exact hz
    · exact absurd (List.any_eq_true.2 ⟨x, hx, by simp [hs, hz]⟩) h2
  place := h3
  good := hg

theorem do_ok {fold : Bool} {space : Int} {L L' : List EntD} {o : OpD} (V : VolOk fold L) (ho : OpGood o) (h : doL fold space L o = .ok L') : VolOk fold L' := by
  unfold doL at h
  split at h
  · next hk => exact mk_ok V h ho.path (fun _ => ho.plain hk) (by have := ho.mode (.inl hk); simp [fieldsB]; omega)
  · split at h
    · next hk => exact mk_ok V h ho.path (fun hd => by cases hd) (by have := ho.mode (.inr (.inl hk)); have := ho.file hk; simp [fieldsB]; omega)
    · next h1 h4 =>
      cases hat : L[atI fold L o.pl]? with
      | none => rw [hat] at h; cases h
      | some e =>
        rw [hat] at h
        simp only at h
        obtain ⟨hi, he, hs⟩ := atI_some hat
        have hm : e ∈ L := he ▸ List.getElem_mem hi
        split at h
        · next h7 =>
          have hm7 := ho.mode (.inr (.inr (.inr h7)))
          have := set_ok V hi o.mode hm7.1 hm7.2
          rw [he] at this
          rw [← Except.ok.inj h]; exact this
        · split at h
          · next h6 =>
            unfold renL at h
            split at h
            · cases h
            · next r1 =>
              split at h
              · cases h
              · next r2 =>
                cases hp : placeL fold L o.tl with
                | none => rw [hp] at h; cases h
                | some p =>
                  rw [hp] at h
                  simp only at h
                  split at h
                  · cases h
                  · next r3 =>
                    rw [← Except.ok.inj h]
                    exact ren_ok V (ren_pre hm r1 r2 hp (ho.dest (.inr h6))) (by simpa using r3)
          · split at h
            · cases h
            · next hd =>
              split at h
              · next h5 =>
                have hde : e.dir = false := by
                  have : decide (o.kind = 2) = false := by rw [decide_eq_false_iff_not]; omega
                  rw [this] at hd
                  simpa using hd
                have hf := V.fields e hm
                obtain ⟨_, _, f⟩ := fieldsB_true _ hf
                have hm5 := ho.mode (.inr (.inr (.inl h5)))
                refine mk_ok V h (ho.dest (.inl h5)) (fun hd => by cases hd) ?_
                rcases f with ⟨d1, _⟩ | ⟨_, i1, i2, i3, i4⟩
                · rw [hde] at d1; cases d1
                · simp [fieldsB]; omega
              · split at h
                · cases h
                · next hb =>
                  rw [← Except.ok.inj h]
                  have hb' : (L.any fun x => belowL false x.pl L[atI fold L o.pl].pl) = false := by rw [he]; simpa using hb
                  exact erase_ok V hi hb'

/-- Whole scripts: the tree and the need; or the error and its place. -/
def tryL (fold : Bool) (space : Int) (L : List EntD) (need : Int) : List OpD → Nat → Except (Int × Nat) (List EntD × Int)
  | [], _ => .ok (L, need)
  | o :: t, i => match doL fold space L o with
    | .error c => .error (c, i)
    | .ok L' => tryL fold space L' (max need (usedL L')) t (i + 1)

theorem used_le {fold : Bool} {L : List EntD} (V : VolOk fold L) : 0 ≤ usedL L ∧ usedL L ≤ 12000 := by
  suffices key : ∀ M : List EntD, (∀ o ∈ M, 0 ≤ o.size ∧ o.size ≤ 100) → 0 ≤ usedL M ∧ usedL M ≤ 100 * M.length by
    have := key L (fun o ho => by
      obtain ⟨_, _, f⟩ := fieldsB_true _ (V.fields o ho)
      rcases f with ⟨_, _, z⟩ | ⟨_, _, _, z1, z2⟩
      · omega
      · omega)
    have := V.few
    omega
  intro M
  induction M with
  | nil => intro _; simp [usedL]
  | cons o M ih =>
    intro h
    have h1 := ih (fun x hx => h x (by simp [hx]))
    have h2 := h o (by simp)
    simp only [usedL, List.length_cons]
    omega
/-- With so much space no file is too great. -/
theorem mk_space {fold : Bool} {s1 s2 : Int} {L : List EntD} {e : EntD} (V : VolOk fold L) (h1 : 20000 ≤ s1) (h2 : 20000 ≤ s2) (he : e.size ≤ 100) : mkL fold s1 L e = mkL fold s2 L e := by
  have := used_le V
  have e1 : decide (s1 < usedL L + e.size) = false := by rw [decide_eq_false_iff_not]; omega
  have e2 : decide (s2 < usedL L + e.size) = false := by rw [decide_eq_false_iff_not]; omega
  unfold mkL
  rw [e1, e2]
theorem do_space {fold : Bool} {s1 s2 : Int} {L : List EntD} {o : OpD} (V : VolOk fold L) (ho : OpGood o) (h1 : 20000 ≤ s1) (h2 : 20000 ≤ s2) : doL fold s1 L o = doL fold s2 L o := by
  unfold doL
  split
  · exact mk_space V h1 h2 (by simp)
  · split
    · next hk => exact mk_space V h1 h2 (by have := ho.file hk; simp; omega)
    · cases hat : L[atI fold L o.pl]? with
      | none => rfl
      | some e =>
        simp only
        obtain ⟨hi, he, hs⟩ := atI_some hat
        have hm : e ∈ L := he ▸ List.getElem_mem hi
        obtain ⟨_, _, f⟩ := fieldsB_true _ (V.fields e hm)
        have hz : e.size ≤ 100 := by
          rcases f with ⟨_, _, z⟩ | ⟨_, _, _, _, z⟩
          · omega
          · exact z
        rw [mk_space (s1 := s1) (s2 := s2) V h1 h2 (e := ⟨o.dest, false, e.id, e.size, o.mode⟩) hz]
theorem try_space {fold : Bool} {s1 s2 : Int} (h1 : 20000 ≤ s1) (h2 : 20000 ≤ s2) : ∀ (l : List OpD) (L : List EntD) (need : Int) (i : Nat), VolOk fold L → (∀ o ∈ l, OpGood o) → tryL fold s1 L need l i = tryL fold s2 L need l i := by
  intro l
  induction l with
  | nil => intro L need i _ _; rfl
  | cons o t ih =>
    intro L need i V ho
    rw [tryL, tryL, do_space V (ho o (by simp)) h1 h2]
    cases hd : doL fold s2 L o with
    | error c => rfl
    | ok L' =>
      simp only
      exact ih L' _ _ (do_ok V (ho o (by simp)) hd) (fun x hx => ho x (by simp [hx]))
end Go.Proofs.YtpjjagalekolaaaGreatDoor

/- A volume in memory: finding, places, sizes. -/
namespace Go.Proofs.YtpjjagalekolaaaGreatDoor
open Go.RowKit
set_option linter.unusedVariables false
set_option linter.unusedSimpArgs false

/-- A list of entries as the program holds it: nil, or a row. -/
inductive RowAt (w : World) : Value → List EntD → Prop
  | nil : RowAt w (.slice none 0 0) []
  | row (b off cap : Nat) (l : List EntD) (hb : b < w.heap.size) (hc : l.length ≤ cap) (hm : cap ≤ maxLen) (h : EntsAt w b off l) : RowAt w (.slice (some ⟨b, off, none⟩) l.length cap) l
theorem RowAt.below {w w' : World} {v : Value} {l : List EntD} (h : RowAt w v l) {B : Nat} (hb : Below B w w') (hB : w.heap.size ≤ B) : RowAt w' v l := by
  cases h with
  | nil => exact .nil
  | row b off cap l hlt hc hm h => exact .row b off cap l (by have := hb.size; omega) hc hm (h.below hb (by omega))
theorem RowAt.val {w : World} {v : Value} {l : List EntD} (h : RowAt w v l) : ∃ a c, v = .slice a l.length c := by
  cases h with
  | nil => exact ⟨_, _, rfl⟩
  | row b off cap l hlt hc hm h => exact ⟨_, _, rfl⟩

structure VolAt (w : World) (vb : Nat) (v : Value) (fold : Bool) (space : Int) : Prop where
  c0 : w.cell? ⟨vb, 0, none⟩ = some v
  c1 : w.cell? ⟨vb, 1, none⟩ = some (.bool fold)
  c2 : w.cell? ⟨vb, 2, none⟩ = some (.int .i64 space)
  lt : vb < w.heap.size
theorem VolAt.below {w w' : World} {vb : Nat} {v : Value} {fold : Bool} {space : Int} (h : VolAt w vb v fold space) {B : Nat} (hb : Below B w w') (hB : vb < B) : VolAt w' vb v fold space :=
  ⟨cell_kept hb hB h.c0, cell_kept hb hB h.c1, cell_kept hb hB h.c2, by have := hb.size; have := h.lt; omega⟩

set_option maxHeartbeats 1000000 in
theorem indexFunc_nil (P0 P1 : Addr) (w : World) :
    Calls Tryz.prog 181 #[.slice none 0 0, .func (.func 191) #[] #[.pointer (some P0), .pointer (some P1)]] w fun e w' => e = .returned (.int .i64 (-1)) ∧ w' = w := by
  go_enter Tryz.func181, Tryz.ntmps181
  go_wp2
  refine wp_loop_rounds 1 ?_
  rw [rounds_succ]
  go_wp2
  go_ret
  exact ⟨rfl, rfl⟩
set_option maxHeartbeats 1000000 in
theorem find_nil (p : ByteArray) (fold : Bool) (w : World) :
    Calls Tryz.prog 155 #[.slice none 0 0, .string p, .bool fold] w fun e w' => e = .returned (.int .i64 (-1)) ∧ Below w.heap.size w w' := by
  have hmf : ∀ (fn : Fn) (first cap : Array Value) (w : World), (Instr.makeFunc fn first cap).run Tryz.prog w = .ok (.func fn first cap) w := fun _ _ _ _ => rfl
  go_enter Tryz.func155, Tryz.ntmps155
  go_wp2_with (go_at_call 181; refine (indexFunc_nil _ _ _).mono ?_; rintro e w1 ⟨rfl, rfl⟩)
  go_ret
  exact ⟨rfl, ((Below.refl _ _).alloc (Nat.le_refl _) _).alloc (by simp) _⟩

def SmallL (l : List EntD) : Prop := l.length ≤ 2000000 ∧ ∀ o ∈ l, o.small
theorem tfind {w : World} {v : Value} {l : List EntD} (h : RowAt w v l) (hs : SmallL l) (p : ByteArray) (hp : p.size ≤ 1500000) (fold : Bool) : ∀ u : World, Below w.heap.size w u → Calls Tryz.prog 155 #[v, .string p, .bool fold] u fun e u' => e = .returned (.int .i64 (fstI (isAt fold p.data.toList) l)) ∧ Below u.heap.size u u' := by
  intro u hu
  cases h with
  | nil => exact find_nil p fold u
  | row b off cap l hlt hc hm h => exact find_any b off cap l p fold u hs.1 hs.2 hp (by have := hu.size; omega) (h.below hu hlt)

set_option maxHeartbeats 2000000 in
theorem vfind_of (vb n c : Nat) (a : Option Addr) (fold : Bool) (space : Int) (p : ByteArray) (r : Int) (w : World) (hv : VolAt w vb (.slice a n c) fold space)
    (HF : Hid (∀ u : World, Below w.heap.size w u → Calls Tryz.prog 155 #[.slice a n c, .string p, .bool fold] u fun e u' => e = .returned (.int .i64 r) ∧ Below u.heap.size u u')) :
    Calls Tryz.prog 164 #[.pointer (some ⟨vb, 0, none⟩), .string p] w fun e w' => e = .returned (.int .i64 r) ∧ Below w.heap.size w w' := by
  obtain ⟨c0, c1, c2, hlt⟩ := hv
  go_enter Tryz.func164, Tryz.ntmps164
  go_wp2
  go_region_held (fun u => u.cell? ⟨vb, 0, none⟩ = some (.slice a n c) ∧ u.cell? ⟨vb, 1, none⟩ = some (.bool fold)) (go_keep) (first | (go_at_call 155; refine (HF.out _ (bel_drewN (Below.refl _ _) 1)).mono ?_; rintro r w1 ⟨rfl, hb1⟩; have d0 := cell_kept hb1 hlt c0; have d1 := cell_kept hb1 hlt c1))
  all_goals go_wp2
  all_goals go_ret
  all_goals exact ⟨rfl, (bel_drewN (Below.refl _ _) 1).trans hb1⟩
theorem vfind {w : World} {vb : Nat} {v : Value} {L : List EntD} {fold : Bool} {space : Int} (hv : VolAt w vb v fold space) (hr : RowAt w v L) (hs : SmallL L) (p : ByteArray) (hp : p.size ≤ 1500000) :
    Calls Tryz.prog 164 #[.pointer (some ⟨vb, 0, none⟩), .string p] w fun e w' => e = .returned (.int .i64 (fstI (isAt fold p.data.toList) L)) ∧ Below w.heap.size w w' := by
  have h := tfind hr hs p hp fold
  obtain ⟨a, c, rfl⟩ := hr.val
  exact vfind_of vb _ c a fold space p _ w hv h

/-! Sizes. -/
theorem usedL_snoc (L : List EntD) (k : Nat) (h : k < L.length) : usedL (L.take (k + 1)) = usedL (L.take k) + L[k].size := by
  rw [List.take_succ_eq_append_getElem h]
  suffices key : ∀ (M : List EntD) (x : EntD), usedL (M ++ [x]) = usedL M + x.size by exact key _ _
  intro M x
  induction M with
  | nil => simp [usedL]
  | cons o M ih => simp only [List.cons_append, usedL, ih]; omega
set_option maxHeartbeats 1000000 in
theorem sizes_row (b off cap : Nat) (L : List EntD) (w : World) (hl : L.length ≤ 2000000) (hz : ∀ k, k ≤ L.length → 0 ≤ usedL (L.take k) ∧ usedL (L.take k) ≤ 1000000000) (hb : b < w.heap.size) (hc : EntsAt w b off L) :
    Calls Tryz.prog 69 #[.slice (some ⟨b, off, none⟩) L.length cap] w fun e w' => e = .returned (.int .i64 (usedL L)) ∧ Below w.heap.size w w' := by
  have HZ := hidD hz
  clear hz
  go_enter Tryz.func69, Tryz.ntmps69
  go_wp2
  go_loopw [3, 8] (fun s i wr => ∃ k : Nat, k ≤ L.length ∧ i = .int .i64 k ∧ s = .int .i64 (usedL (L.take k)) ∧ Below w.heap.size w wr) (fun _ i _ => L.length - (intOf i).toNat)
  case atStart => exact ⟨0, Nat.zero_le _, rfl, rfl, Below.refl _ _⟩
  case round =>
    obtain ⟨k, hk, rfl, rfl, hbw⟩ := hrel
    have hbs := hbw.size
    obtain ⟨z1, z2⟩ := HZ.out k hk
    by_cases hlt : k < L.length
    · have HSN := hidD (usedL_snoc L k hlt)
      obtain ⟨z3, z4⟩ := HZ.out (k + 1) hlt
      have z5 : usedL (L.take (k + 1)) = usedL (L.take k) + L[k].size := usedL_snoc L k hlt
      have z6 : -2000000000 ≤ L[k].size ∧ L[k].size ≤ 2000000000 := by omega
      obtain ⟨z7, z8⟩ := z6
      clear z5 z3 z4
      have hcw := (hc.below hbw hb) k hlt
      have HBW := hidD hbw
      generalize L[k] = o at *
      have c0 := hcw 0 _ rfl
      have c1 := hcw 1 _ rfl
      have c2 := hcw 2 _ rfl
      have c3 := hcw 3 _ rfl
      have c4 := hcw 4 _ rfl
      simp only [Nat.add_zero] at c0
      clear hcw hbw
      generalize usedL (L.take k) = s at *
      go_wp2
      exact ⟨⟨k + 1, by omega, by go_num, by rw [HSN.out], HBW.out.alloc hbs _⟩, by simp [intOf]; omega⟩
    · go_wp2
      go_ret
      refine ⟨?_, hbw⟩
      rw [List.take_of_length_le (by omega)]; rfl
set_option maxHeartbeats 1000000 in
theorem sizes_nil (w : World) : Calls Tryz.prog 69 #[.slice none 0 0] w fun e w' => e = .returned (.int .i64 0) ∧ w' = w := by
  go_enter Tryz.func69, Tryz.ntmps69
  go_wp2
  refine wp_loop_rounds 1 ?_
  rw [rounds_succ]
  go_wp2
  go_ret
  exact ⟨rfl, rfl⟩
end Go.Proofs.YtpjjagalekolaaaGreatDoor

/- A volume in memory: where a thing would stand, files, what is free. -/
namespace Go.Proofs.YtpjjagalekolaaaGreatDoor
open Go.RowKit
set_option linter.unusedVariables false
set_option linter.unusedSimpArgs false

def ofL (l : BL) : ByteArray := ⟨l.toArray⟩
theorem ofL_toList (s : ByteArray) : ofL s.data.toList = s := by simp [ofL]
theorem pl_of (o : EntD) : ofL o.pl = o.path := by simp [ofL, EntD.pl]

set_option maxHeartbeats 400000 in
theorem clone_str (s : ByteArray) (w : World) (hs : s.size ≤ 2000000) : Calls Tryz.prog 73 #[.string s] w fun e w' => e = .returned (.string s) ∧ Below w.heap.size w w' := by
  go_enter Tryz.func73, Tryz.ntmps73
  go_wp2_with (go_at_call 117; refine (Tryz.stringslite_Clone s _ (by omega)).mono ?_; rintro e w1 ⟨rfl, hb1⟩)
  go_ret
  exact ⟨rfl, hb1⟩

def plAns (fold : Bool) (L : List EntD) (p : ByteArray) : ByteArray × Int :=
  match placeL fold L p.data.toList with
  | some t => (ofL t, 0)
  | none => (⟨#[]⟩, 2)
theorem plAns_top {fold : Bool} {L : List EntD} {p : ByteArray} (h : (parentB p).toList = []) : plAns fold L p = (p, 0) := by
  rw [par_toList] at h
  simp only [plAns, placeL, h, if_true, ofL_toList]
theorem plAns_none {fold : Bool} {L : List EntD} {p : ByteArray} (h : (parentB p).toList ≠ []) (hf : L.find? (isAt fold (parentB p).data.toList) = none) : plAns fold L p = (⟨#[]⟩, 2) := by
  rw [par_toList] at h
  rw [parentB_eq] at hf
  have : atP fold L (parentL p.data.toList) = none := hf
  simp only [plAns, placeL, h, if_false, this]
theorem plAns_at {fold : Bool} {L : List EntD} {p : ByteArray} {o : EntD} (h : (parentB p).toList ≠ []) (hf : L.find? (isAt fold (parentB p).data.toList) = some o) : plAns fold L p = if o.dir then (o.path ++ p.extract (parentB p).size p.size, 0) else (⟨#[]⟩, 2) := by
  rw [par_toList] at h
  have hps : (parentB p).size = (parentL p.data.toList).length := by rw [← parentB_eq]; simp
  have hl := par_last _ h
  rw [parentB_eq] at hf
  have : atP fold L (parentL p.data.toList) = some o := hf
  simp only [plAns, placeL, h, if_false, this]
  cases o.dir
  · rfl
  · simp only [if_true]
    congr 1
    apply ByteArray.ext
    apply Array.toList_inj.1
    rw [hps]
    generalize parentL p.data.toList = q at *
    generalize lastL p.data.toList = r at *
    have hx : (p.extract q.length p.size).data.toList = 47 :: r := by
      have : p.size = p.data.toList.length := by simp
      simp only [Lib.extract_data, this]
      rw [hl]
      simp
    simp only [ofL, EntD.pl, ByteArray.data_append, Array.toList_append, hx]

theorem fstI_at (fold : Bool) (L : List EntD) (p : BL) : (fstI (isAt fold p) L = -1 ∧ L[atI fold L p]? = none) ∨ ∃ h : atI fold L p < L.length, fstI (isAt fold p) L = (atI fold L p : Nat) ∧ L[atI fold L p]? = some L[atI fold L p] := by
  by_cases ha : L.any (isAt fold p) = true
  · right
    have hlt : L.findIdx (isAt fold p) < L.length := by rw [List.findIdx_lt_length]; simpa using ha
    exact ⟨hlt, by rw [fstI, if_pos ha]; rfl, List.getElem?_eq_getElem hlt⟩
  · left
    have ha' : L.any (isAt fold p) = false := by simpa using ha
    refine ⟨fstI_none _ L ha', ?_⟩
    rw [List.getElem?_eq_none_iff, atI, Nat.le_iff_lt_or_eq]
    right
    rw [eq_comm, List.findIdx_eq_length]
    simpa using ha'

set_option maxHeartbeats 1000000 in
theorem vplace_at (vb b off cap n i : Nat) (p q x : ByteArray) (w : World) (hlt : i < n) (hn : n ≤ 2000000) (hm : cap ≤ maxLen) (hvlt : vb < w.heap.size) (c0 : w.cell? ⟨vb, 0, none⟩ = some (.slice (some ⟨b, off, none⟩) n cap)) (hp : p.size ≤ 1500000) (hq : q.size ≤ p.size) (hx : x.size ≤ 1500000) (h0 : (q.toList == []) = false)
    (HQ : Hid (∀ u : World, Calls Tryz.prog 156 #[.string p] u fun e w' => e = .returned (.string q) ∧ w' = u))
    (HF : Calls Tryz.prog 164 #[.pointer (some ⟨vb, 0, none⟩), .string q] w fun e w' => e = .returned (.int .i64 (i : Nat)) ∧ Below w.heap.size w w')
    (hcell : Hid (∀ u : World, Below w.heap.size w u → u.cell? ⟨b, off + i * 5 + 1, none⟩ = some (.bool true) ∧ u.cell? ⟨b, off + i * 5, none⟩ = some (.string x))) :
    Calls Tryz.prog 169 #[.pointer (some ⟨vb, 0, none⟩), .string p] w fun e w' => e = .returned (.tuple #[.string (x ++ p.extract q.size p.size), .int .i64 0]) ∧ Below w.heap.size w w' := by
  have HS : Hid ((x.size + (p.extract q.size p.size).size : Nat) ≤ (3000000 : Nat)) := by
    have h2 : (p.extract q.size p.size).size ≤ p.size := by simp
    show _ ≤ _
    omega
  have C0 := hidD c0
  clear c0
  go_enter Tryz.func169, Tryz.ntmps169
  go_wp2_with (first | (go_at_call 156; refine (HQ.out _).mono ?_; rintro e w1 ⟨rfl, rfl⟩) | (go_at_call 164; refine HF.mono ?_; rintro e w2 ⟨rfl, hb2⟩; have c0 := cell_kept hb2 hvlt C0.out; obtain ⟨c1, c2⟩ := hcell.out _ hb2))
  have hs := HS.out
  go_region_held (fun u => u.cell? ⟨vb, 0, none⟩ = some (.slice (some ⟨b, off, none⟩) n cap) ∧ u.cell? ⟨b, off + i * 5, none⟩ = some (.string x)) (go_keep) (fail)
  all_goals go_wp2
  all_goals go_ret2
  all_goals exact ⟨rfl, bel_drewN hb2 1⟩
set_option maxHeartbeats 1000000 in
theorem vplace {w : World} {vb : Nat} {v : Value} {L : List EntD} {fold : Bool} {space : Int} (hv : VolAt w vb v fold space) (hr : RowAt w v L) (hs : SmallL L) (p : ByteArray) (hp : p.size ≤ 1500000) :
    Calls Tryz.prog 169 #[.pointer (some ⟨vb, 0, none⟩), .string p] w fun e w' => e = .returned (.tuple #[.string (plAns fold L p).1, .int .i64 (plAns fold L p).2]) ∧ Below w.heap.size w w' := by
  have hps : (parentB p).size ≤ 1500000 := by have := parentB_small p; omega
  by_cases h0 : ((parentB p).toList == []) = true
  · have hA := plAns_top (fold := fold) (L := L) (beq_iff_eq.1 h0)
    rw [hA]
    clear hA
    go_enter Tryz.func169, Tryz.ntmps169
    go_wp2_with (first | (go_at_call 156; refine (parent_any _ _ (by omega) (lastIdx_le _)).mono ?_; rintro e w1 ⟨rfl, rfl⟩) | (go_at_call 73; refine (clone_str _ _ (by omega)).mono ?_; rintro e w2 ⟨rfl, hb2⟩))
    go_ret2
    exact ⟨rfl, hb2⟩
  · have h0' : (parentB p).toList ≠ [] := fun h => h0 (beq_iff_eq.2 h)
    simp only [Bool.not_eq_true] at h0
    have HF := hidD (vfind hv hr hs (parentB p) hps)
    rcases fstI_find (isAt fold (parentB p).data.toList) L with ⟨hi, hf⟩ | ⟨i, hlt, hi, hf⟩
    · have hA := plAns_none h0' hf
      rw [hA]
      clear hA hf
      go_enter Tryz.func169, Tryz.ntmps169
      go_wp2_with (first | (go_at_call 156; refine (parent_any _ _ (by omega) (lastIdx_le _)).mono ?_; rintro e w1 ⟨rfl, rfl⟩) | (go_at_call 164; refine HF.out.mono ?_; rintro e w2 ⟨rfl, hb2⟩; rw [hi]))
      go_ret2
      exact ⟨rfl, hb2⟩
    · have hA := plAns_at h0' hf
      rw [hA]
      clear hA hf
      cases hr with
      | nil => simp at hlt
      | row b off cap l hlb hc hm h =>
        have hcell : Hid (∀ u : World, Below w.heap.size w u → u.cell? ⟨b, off + i * 5 + 1, none⟩ = some (.bool L[i].dir) ∧ u.cell? ⟨b, off + i * 5, none⟩ = some (.string L[i].path)) := fun u hu => ⟨(h.below hu hlb) i hlt 1 _ rfl, (h.below hu hlb) i hlt 0 _ rfl⟩
        have hll := hs.1
        have hpar : (parentB p).size ≤ p.size := parentB_small p
        have hsm : L[i].path.size ≤ 1500000 := hs.2 _ (List.getElem_mem hlt)
        generalize L[i] = o at *
        have HV := hidD hv
        have hvlt := hv.lt
        clear h hs
        cases hd : o.dir
        · rw [hd] at hcell
          go_enter Tryz.func169, Tryz.ntmps169
          go_wp2_with (first | (go_at_call 156; refine (parent_any _ _ (by omega) (lastIdx_le _)).mono ?_; rintro e w1 ⟨rfl, rfl⟩) | (go_at_call 164; refine HF.out.mono ?_; rintro e w2 ⟨rfl, hb2⟩; rw [hi]; have c0 := (HV.out.below hb2 hvlt).c0; obtain ⟨c1, c2⟩ := hcell.out _ hb2))
          go_ret2
          exact ⟨rfl, hb2⟩
        · rw [hd] at hcell
          have HQ : Hid (∀ u : World, Calls Tryz.prog 156 #[.string p] u fun e w' => e = .returned (.string (parentB p)) ∧ w' = u) := fun u => parent_any _ _ (by omega) (lastIdx_le _)
          have := vplace_at vb b off cap L.length i p (parentB p) o.path w hlt hll hm hvlt HV.out.c0 (by omega) (by omega) (by omega) h0 HQ (by rw [← hi]; exact HF.out) hcell
          exact this

set_option maxHeartbeats 1000000 in
/-- The number of the file at a path. -/
theorem vfile {w : World} {vb : Nat} {v : Value} {L : List EntD} {fold : Bool} {space : Int} (hv : VolAt w vb v fold space) (hr : RowAt w v L) (hs : SmallL L) (p : ByteArray) (hp : p.size ≤ 1500000) :
    Calls Tryz.prog 167 #[.pointer (some ⟨vb, 0, none⟩), .string p] w fun e w' => e = .returned (.tuple (match L[atI fold L p.data.toList]? with | none => #[.int .i64 0, .int .i64 9] | some o => if o.dir then #[.int .i64 0, .int .i64 10] else #[.int .i64 (atI fold L p.data.toList : Nat), .int .i64 0])) ∧ Below w.heap.size w w' := by
  have HF := hidD (vfind hv hr hs p hp)
  rcases fstI_at fold L p.data.toList with ⟨hi, hf⟩ | ⟨hlt, hi, hf⟩
  · rw [hf]
    clear hf
    go_enter Tryz.func167, Tryz.ntmps167
    go_wp2_with (go_at_call 164; refine HF.out.mono ?_; rintro e w2 ⟨rfl, hb2⟩; rw [hi])
    go_ret2
    exact ⟨rfl, hb2⟩
  · rw [hf]
    clear hf
    generalize atI fold L p.data.toList = i at *
    cases hr with
    | nil => simp at hlt
    | row b off cap l hlb hc hm h =>
      have hcell : Hid (∀ u : World, Below w.heap.size w u → u.cell? ⟨b, off + i * 5 + 1, none⟩ = some (.bool L[i].dir)) := fun u hu => (h.below hu hlb) i hlt 1 _ rfl
      have hll := hs.1
      generalize L[i] = o at *
      have HV := hidD hv
      have hvlt := hv.lt
      clear h hs
      cases hd : o.dir
      all_goals
        rw [hd] at hcell
        simp only [hd, if_true, if_false, Bool.false_eq_true]
        go_enter Tryz.func167, Tryz.ntmps167
        go_wp2_with (go_at_call 164; refine HF.out.mono ?_; rintro e w2 ⟨rfl, hb2⟩; rw [hi]; have c0 := (HV.out.below hb2 hvlt).c0; have c1 := hcell.out _ hb2)
        go_ret2
        exact ⟨rfl, hb2⟩

def freeAns (fold : Bool) (L : List EntD) (p : ByteArray) : ByteArray × Int :=
  if L.any (isAt fold p.data.toList) then (⟨#[]⟩, 8)
  else if (plAns fold L p).2 = 0 ∧ 120 ≤ L.length then (⟨#[]⟩, 5) else plAns fold L p
set_option maxHeartbeats 1000000 in
theorem vfree {w : World} {vb : Nat} {v : Value} {L : List EntD} {fold : Bool} {space : Int} (hv : VolAt w vb v fold space) (hr : RowAt w v L) (hs : SmallL L) (p : ByteArray) (hp : p.size ≤ 1500000) :
    Calls Tryz.prog 162 #[.pointer (some ⟨vb, 0, none⟩), .string p] w fun e w' => e = .returned (.tuple #[.string (freeAns fold L p).1, .int .i64 (freeAns fold L p).2]) ∧ Below w.heap.size w w' := by
  have HF := hidD (vfind hv hr hs p hp)
  by_cases ha : L.any (isAt fold p.data.toList) = true
  · have hA : freeAns fold L p = (⟨#[]⟩, 8) := by rw [freeAns, if_pos ha]
    rw [hA]
    have hi : fstI (isAt fold p.data.toList) L = (L.findIdx (isAt fold p.data.toList) : Nat) := by rw [fstI, if_pos ha]
    generalize L.findIdx (isAt fold p.data.toList) = i at *
    clear ha hA
    go_enter Tryz.func162, Tryz.ntmps162
    go_wp2_with (go_at_call 164; refine HF.out.mono ?_; rintro e w2 ⟨rfl, hb2⟩; rw [hi])
    go_ret2
    exact ⟨rfl, hb2⟩
  · have hi := fstI_none (isAt fold p.data.toList) L (by simpa using ha)
    have HP : Hid (∀ u : World, Below w.heap.size w u → Calls Tryz.prog 169 #[.pointer (some ⟨vb, 0, none⟩), .string p] u fun e w' => e = .returned (.tuple #[.string (plAns fold L p).1, .int .i64 (plAns fold L p).2]) ∧ Below u.heap.size u w') := fun u hu => vplace (hv.below hu hv.lt) (hr.below hu (Nat.le_refl _)) hs p hp
    have hA : freeAns fold L p = if (plAns fold L p).2 = 0 ∧ 120 ≤ L.length then (⟨#[]⟩, 5) else plAns fold L p := by rw [freeAns, if_neg ha]
    rw [hA]
    clear ha hA
    have hvlt := hv.lt
    have HV := hidD hv
    have hll := hs.1
    obtain ⟨a, c, rfl⟩ := hr.val
    clear hr hs
    generalize plAns fold L p = r at *
    obtain ⟨r1, r2⟩ := r
    generalize L.length = n at *
    by_cases h0 : r2 = 0
    · subst h0
      by_cases hn : 120 ≤ n
      all_goals
        have hn' : decide ((120 : Int) ≤ (n : Int)) = decide (120 ≤ n) := by simp; omega
        simp only [hn, and_true, if_true, and_false, if_false]
        go_enter Tryz.func162, Tryz.ntmps162
        go_wp2_with (first | (go_at_call 164; refine HF.out.mono ?_; rintro e w2 ⟨rfl, hb2⟩; rw [hi]) | (go_at_call 169; refine (HP.out _ hb2).mono ?_; rintro e w3 ⟨rfl, hb3⟩; have hb4 := hb2.trans (hb3.mono hb2.size); have c0 := (HV.out.below hb4 hvlt).c0))
        go_ret2
        exact ⟨rfl, hb4⟩
    · simp only [h0, false_and, if_false]
      have h0' : (r2 == 0) = false := by simpa using h0
      go_enter Tryz.func162, Tryz.ntmps162
      go_wp2_with (first | (go_at_call 164; refine HF.out.mono ?_; rintro e w2 ⟨rfl, hb2⟩; rw [hi]) | (go_at_call 169; refine (HP.out _ hb2).mono ?_; rintro e w3 ⟨rfl, hb3⟩; have hb4 := hb2.trans (hb3.mono hb2.size)))
      go_ret2
      exact ⟨rfl, hb4⟩
end Go.Proofs.YtpjjagalekolaaaGreatDoor

/- Small functions of the laws of keeping: is a content there, is a path below another, where is a path, is a name spare. -/
namespace Go.Proofs.YtpjjagalekolaaaGreatDoor
open Go.RowKit
set_option linter.unusedVariables false
set_option linter.unusedSimpArgs false

theorem RowAt.entC {w : World} {v : Value} {l : List EntD} (h : RowAt w v l) {j : Nat} (hj : j < l.length) : ∃ b off cap o, v = .slice (some ⟨b, off, none⟩) l.length cap ∧ l[j]? = some o ∧ w.cell? ⟨b, off + j * 5, none⟩ = some (.string o.path) ∧ w.cell? ⟨b, off + j * 5 + 1, none⟩ = some (.bool o.dir) ∧ w.cell? ⟨b, off + j * 5 + 2, none⟩ = some (.int .i64 o.id) ∧ w.cell? ⟨b, off + j * 5 + 3, none⟩ = some (.int .i64 o.size) ∧ w.cell? ⟨b, off + j * 5 + 4, none⟩ = some (.int .i64 o.mode) := by
  cases h with
  | nil => simp at hj
  | row b off cap l hb hc hm h => exact ⟨b, off, cap, l[j], rfl, List.getElem?_eq_getElem hj, h j hj 0 _ rfl, h j hj 1 _ rfl, h j hj 2 _ rfl, h j hj 3 _ rfl, h j hj 4 _ rfl⟩

/-- Is a content in a file of a tree? -/
def hasB (L : List EntD) (id : Int) : Bool := L.any fun o => !o.dir && o.id == id
theorem hasB_take {L : List EntD} {id : Int} {i : Nat} {o : EntD} (h : L[i]? = some o) : hasB (L.take (i + 1)) id = (hasB (L.take i) id || (!o.dir && o.id == id)) := by
  unfold hasB
  rw [List.take_add_one, h]
  simp [List.any_append]
set_option maxHeartbeats 4000000 in
theorem has24 {w : World} {v : Value} {L : List EntD} (hr : RowAt w v L) (hl : L.length ≤ 2000000) (id : Int) : Calls Tryz.prog 24 #[v, .int .i64 id] w fun e w' => e = .returned (.bool (hasB L id)) ∧ Hid (w' = w) := by
  have HR := hidD hr
  obtain ⟨a, c, hv⟩ := hr.val
  subst hv
  clear hr
  go_enter Tryz.func24, Tryz.ntmps24
  go_wp2_with fail
  go_loopw [5] (fun iv wr => ∃ i : Nat, i ≤ L.length ∧ iv = .int .i64 i ∧ Hid (wr = w) ∧ Hid (hasB (L.take i) id = false)) (fun iv _ => L.length - (intOf iv).toNat)
  case atStart => exact ⟨0, Nat.zero_le _, rfl, rfl, rfl⟩
  case round =>
    obtain ⟨i, hi, rfl, HWR, N⟩ := hrel
    have hwr := HWR.out
    subst hwr
    clear HWR
    by_cases hil : i < L.length
    · obtain ⟨b, off, cap, ⟨p, d, q, z, m⟩, hv, ho, c0, c1, c2, c3, c4⟩ := HR.out.entC hil
      cases hv
      have T := hidD (hasB_take (id := id) ho)
      dsimp only at c0 c1 c2 c3 c4 T
      rw [N.out] at T
      have hil' : (i : Int) < (L.length : Int) := by omega
      cases d with
      | true =>
        have N2 : Hid (hasB (L.take (i + 1)) id = false) := T.out
        clear ho T
        go_wp2_with fail
        exact ⟨⟨i + 1, by omega, by go_num, (by first | exact rfl | exact trivial), N2⟩, by simp [intOf]; omega⟩
      | false =>
        by_cases hq : q = id
        · subst hq
          have HT : Hid (hasB L q = true) := List.any_eq_true.2 ⟨_, List.mem_iff_getElem?.2 ⟨i, ho⟩, by simp⟩
          clear ho T
          go_wp2_with fail
          go_ret
          exact ⟨by rw [HT.out]; rfl, (by first | exact rfl | exact trivial)⟩
        · have hqb : (q == id) = false := by simp [hq]
          have N2 : Hid (hasB (L.take (i + 1)) id = false) := by
            show hasB _ _ = false
            rw [T.out]; simp [hqb]
          clear ho T hq
          go_wp2_with fail
          exact ⟨⟨i + 1, by omega, by go_num, (by first | exact rfl | exact trivial), N2⟩, by simp [intOf]; omega⟩
    · have hie : i = L.length := by omega
      subst hie
      have HF : Hid (hasB L id = false) := by have := N.out; rw [List.take_length] at this; exact this
      clear N
      go_wp2_with fail
      go_ret
      exact ⟨by rw [HF.out]; rfl, (by first | exact rfl | exact trivial)⟩

/-- Below a path, or the path itself. -/
def BelP (a p : BL) : Prop := a = p ∨ ∃ r, a = p ++ 47 :: r
def belB (a p : ByteArray) : Bool := (a.toList == p.toList) || (decide (p.size < a.size) && ((a.extract 0 p.size).toList == p.toList) && (a.data.toList[p.size]? == some 47))
theorem belB_iff (a p : ByteArray) : belB a p = true ↔ BelP a.data.toList p.data.toList := by
  unfold belB BelP
  rw [ba_toList, ba_toList, ba_toList]
  simp only [Bool.or_eq_true, Bool.and_eq_true, decide_eq_true_eq, beq_iff_eq]
  refine or_congr Iff.rfl ?_
  have hA : a.data.toList.length = a.size := by simp
  have hP : p.data.toList.length = p.size := by simp
  have hE : (a.extract 0 p.size).data.toList = a.data.toList.take p.size := by simp
  rw [hE]
  constructor
  · rintro ⟨⟨h1, h2⟩, h3⟩
    obtain ⟨h4, h5⟩ := List.getElem?_eq_some_iff.1 h3
    refine ⟨a.data.toList.drop (p.size + 1), ?_⟩
    rw [← h5, ← List.drop_eq_getElem_cons h4]
    conv => rhs; rw [← h2]
    exact (List.take_append_drop _ _).symm
  · rintro ⟨r, h⟩
    have hl := congrArg List.length h
    simp only [List.length_append, List.length_cons] at hl
    rw [hA, hP] at hl
    refine ⟨⟨by omega, ?_⟩, ?_⟩
    · rw [h, ← hP]; simp
    · rw [h, ← hP]; simp
set_option maxHeartbeats 2000000 in
theorem below46 (a p : ByteArray) (w : World) (ha : a.size ≤ 1500000) (hp : p.size ≤ 1500000) : Calls Tryz.prog 46 #[.string a, .string p] w fun e w' => e = .returned (.bool (belB a p)) ∧ Hid (w' = w) := by
  unfold belB
  cases h1 : (a.toList == p.toList) with
  | true =>
    go_enter Tryz.func46, Tryz.ntmps46
    go_wp2_with fail
    go_ret
    exact ⟨rfl, rfl⟩
  | false =>
    by_cases h2 : p.size < a.size
    · have h2' : (p.size : Int) < (a.size : Int) := by omega
      cases h3 : ((a.extract 0 p.size).toList == p.toList) with
      | true =>
        have hg : a.data.toList[p.size]? = some a[p.size] := by
          rw [List.getElem?_eq_getElem (by simpa using h2)]
          congr 1
        rw [hg]
        cases h4 : ((a[p.size].toNat : Int) == 47) with
        | true =>
          have h47 : a[p.size] = 47 := by rw [u8_47] at h4; simpa using h4
          rw [h47]
          go_enter Tryz.func46, Tryz.ntmps46
          go_wp2_with fail
          go_ret
          exact ⟨by simp [h2], rfl⟩
        | false =>
          have h47 : ¬ a[p.size] = 47 := by rw [u8_47] at h4; simpa using h4
          have h5 : (some a[p.size] == some (47 : UInt8)) = false := by simpa using h47
          rw [h5]
          go_enter Tryz.func46, Tryz.ntmps46
          go_wp2_with fail
          go_ret
          exact ⟨by simp, rfl⟩
      | false =>
        go_enter Tryz.func46, Tryz.ntmps46
        go_wp2_with fail
        go_ret
        exact ⟨by simp, rfl⟩
    · go_enter Tryz.func46, Tryz.ntmps46
      go_wp2_with fail
      go_ret
      exact ⟨by simp [h2], rfl⟩

/-- Where a path is; -1: nowhere. -/
def finI (L : List EntD) (p : ByteArray) : Int := match L.findIdx? (fun o => o.path.toList == p.toList) with | some k => k | none => -1
theorem finI_at {L : List EntD} {p : ByteArray} : (finI L p = -1 ∧ ∀ o ∈ L, ¬ o.path = p) ∨ ∃ (k : Nat) (o : EntD), finI L p = k ∧ L[k]? = some o ∧ o.path = p := by
  unfold finI
  cases h : L.findIdx? (fun o => o.path.toList == p.toList) with
  | none =>
    refine .inl ⟨rfl, fun o ho e => ?_⟩
    have := List.findIdx?_eq_none_iff.1 h o ho
    rw [e] at this
    simp at this
  | some k =>
    obtain ⟨hk, h1, _⟩ := List.findIdx?_eq_some_iff_getElem.1 h
    refine .inr ⟨k, L[k], rfl, List.getElem?_eq_getElem hk, ?_⟩
    have h2 := eq_of_beq h1
    rw [ba_toList, ba_toList] at h2
    have h' := Array.toList_inj.1 h2
    cases hx : L[k].path
    cases p
    rw [hx] at h'
    simp only at h'
    rw [h']
theorem finI_none {L : List EntD} {p : ByteArray} (h : ∀ o ∈ L, (o.path.toList == p.toList) = false) : finI L p = -1 := by
  unfold finI
  rw [List.findIdx?_eq_none_iff.2 h]
theorem finI_some {L : List EntD} {p : ByteArray} {i : Nat} {o : EntD} (h : ∀ o ∈ L.take i, (o.path.toList == p.toList) = false) (ho : L[i]? = some o) (he : (o.path.toList == p.toList) = true) : finI L p = i := by
  obtain ⟨hi, hoe⟩ := List.getElem?_eq_some_iff.1 ho
  unfold finI
  have : L.findIdx? (fun o => o.path.toList == p.toList) = some i := by
    refine List.findIdx?_eq_some_iff_getElem.2 ⟨hi, by rw [hoe]; exact he, fun j hj => ?_⟩
    have := h L[j] (List.mem_iff_getElem?.2 ⟨j, by rw [List.getElem?_take, if_pos hj]; exact List.getElem?_eq_getElem (by omega)⟩)
    rw [this]; decide
  rw [this]
set_option maxHeartbeats 4000000 in
theorem find28 {w : World} {v : Value} {L : List EntD} (hr : RowAt w v L) (hl : L.length ≤ 2000000) (p : ByteArray) : Calls Tryz.prog 28 #[v, .string p] w fun e w' => e = .returned (.int .i64 (finI L p)) ∧ Hid (w' = w) := by
  have HR := hidD hr
  obtain ⟨a, c, hv⟩ := hr.val
  subst hv
  clear hr
  go_enter Tryz.func28, Tryz.ntmps28
  go_wp2_with fail
  go_loopw [5] (fun iv wr => ∃ i : Nat, i ≤ L.length ∧ iv = .int .i64 i ∧ Hid (wr = w) ∧ Hid (∀ o ∈ L.take i, (o.path.toList == p.toList) = false)) (fun iv _ => L.length - (intOf iv).toNat)
  case atStart => exact ⟨0, Nat.zero_le _, rfl, rfl, fun o ho => by simp at ho⟩
  case round =>
    obtain ⟨i, hi, rfl, HWR, N⟩ := hrel
    have hwr := HWR.out
    subst hwr
    clear HWR
    by_cases hil : i < L.length
    · obtain ⟨b, off, cap, ⟨q, d, id, z, m⟩, hv, ho, c0, c1, c2, c3, c4⟩ := HR.out.entC hil
      cases hv
      dsimp only at c0 c1 c2 c3 c4
      have hil' : (i : Int) < (L.length : Int) := by omega
      clear c1 c2 c3 c4
      cases hq : (q.toList == p.toList) with
      | true =>
        have HF := hidD (finI_some N.out ho hq)
        clear ho N
        go_wp2_with fail
        go_ret
        exact ⟨by rw [HF.out]; rfl, (by first | exact rfl | exact trivial)⟩
      | false =>
        have N2 : Hid (∀ o ∈ L.take (i + 1), (o.path.toList == p.toList) = false) := fun o ho' => by
          rw [List.take_add_one, ho] at ho'
          rcases List.mem_append.1 ho' with h | h
          · exact N.out o h
          · simp at h; rw [h]; exact hq
        clear ho N
        go_wp2_with fail
        exact ⟨⟨i + 1, by omega, by go_num, (by first | exact rfl | exact trivial), N2⟩, by simp [intOf]; omega⟩
    · have hie : i = L.length := by omega
      subst hie
      have HF : Hid (finI L p = -1) := finI_none (by have := N.out; rw [List.take_length] at this; exact this)
      clear N
      go_wp2_with fail
      go_ret
      exact ⟨by rw [HF.out]; rfl, (by first | exact rfl | exact trivial)⟩

/-- A spare name? -/
def sprB (p : ByteArray) : Bool := p.data.toList[0]? == some 126
set_option maxHeartbeats 2000000 in
theorem spare29 (p : ByteArray) (w : World) (hp : p.size ≤ 1500000) : Calls Tryz.prog 29 #[.string p] w fun e w' => e = .returned (.bool (sprB p)) ∧ Hid (w' = w) := by
  unfold sprB
  by_cases h0 : 0 < p.size
  · have h0' : 0 < (p.size : Int) := by omega
    have hg : p.data.toList[0]? = some p[0] := by
      rw [List.getElem?_eq_getElem (by simpa using h0)]
      congr 1
    rw [hg]
    cases h4 : ((p[0].toNat : Int) == 126) with
    | true =>
      have h5 : (some p[0] == some (126 : UInt8)) = true := by
        have h6 : (p[0].toNat : Int) = 126 := by simpa using h4
        have : p[0] = 126 := UInt8.toNat_inj.1 (by have : (126 : UInt8).toNat = 126 := rfl; omega)
        simp [this]
      rw [h5]
      go_enter Tryz.func29, Tryz.ntmps29
      go_wp2_with fail
      go_ret
      exact ⟨rfl, rfl⟩
    | false =>
      have h5 : (some p[0] == some (126 : UInt8)) = false := by
        have h6 : ¬ (p[0].toNat : Int) = 126 := by simpa using h4
        have : ¬ p[0] = 126 := fun e => h6 (by rw [e]; rfl)
        simpa using this
      rw [h5]
      go_enter Tryz.func29, Tryz.ntmps29
      go_wp2_with fail
      go_ret
      exact ⟨rfl, rfl⟩
  · have hz : p.size = 0 := by omega
    have hg : p.data.toList[0]? = none := by
      rw [List.getElem?_eq_none]
      simpa using hz
    rw [hg]
    go_enter Tryz.func29, Tryz.ntmps29
    go_wp2_with fail
    go_ret
    exact ⟨rfl, rfl⟩
end Go.Proofs.YtpjjagalekolaaaGreatDoor

