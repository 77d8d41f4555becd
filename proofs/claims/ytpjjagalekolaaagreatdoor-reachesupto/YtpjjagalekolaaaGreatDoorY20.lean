/- VL, VQ, VR, VO, VP, VM: in one text. -/
import Derived.Test.YtpjjagalekolaaaGreatDoorY19
import Derived.Laws.OwnMore
/- A volume in memory: mkdir, unlink, write. -/
namespace Go.Proofs.YtpjjagalekolaaaGreatDoor
open Go.RowKit
set_option linter.unusedVariables false
set_option linter.unusedSimpArgs false

/-- What an operation answers: an error and nothing, or the entries as they are behind it. -/
def Ans (B : Nat) (x : Except Int (List EntD)) (r : Ending) (w : World) : Prop :=
  match x with
  | .error n => r = .returned (.tuple #[.slice none 0 0, .int .i64 n])
  | .ok M => ∃ v, r = .returned (.tuple #[v, .int .i64 0]) ∧ w.ownsRow B 56 5 v M.length (flatE M)

/-- A volume in memory, and what is known of its tree. -/
structure Vm (w : World) (vb : Nat) (v : Value) (L : List EntD) (fold : Bool) (space : Int) : Prop where
  vol : VolAt w vb v fold space
  row : RowAt w v L
  len : L.length ≤ 120
  small : ∀ o ∈ L, o.small
  srt : Srt L
  sizes : SizesOk L
  sp0 : 0 ≤ space
  sp1 : space ≤ 9223372036854775807
theorem Vm.below {w w' : World} {vb : Nat} {v : Value} {L : List EntD} {fold : Bool} {space : Int} (h : Vm w vb v L fold space) (hb : Below w.heap.size w w') : Vm w' vb v L fold space :=
  ⟨h.vol.below hb h.vol.lt, h.row.below hb (Nat.le_refl _), h.len, h.small, h.srt, h.sizes, h.sp0, h.sp1⟩
theorem Vm.smallL {w : World} {vb : Nat} {v : Value} {L : List EntD} {fold : Bool} {space : Int} (h : Vm w vb v L fold space) : SmallL L := ⟨by have := h.len; omega, h.small⟩

/-- An operation in a box of its own, and nothing else. -/
structure Ob (w : World) (o : OpD) (u : World) : Prop where
  bel : Below w.heap.size w u
  box : u.heap[w.heap.size]? = some (.cells o.cells.toArray 59 (0, 0))
theorem Ob.start (w : World) (o : OpD) : Ob w o (w.alloc (.cells o.cells.toArray 59)) := ⟨(Below.refl _ _).alloc (Nat.le_refl _) _, heap_alloc_new w _⟩
theorem Ob.below {w u u' : World} {o : OpD} (h : Ob w o u) (hb : Below u.heap.size u u') : Ob w o u' :=
  ⟨h.bel.trans (hb.mono h.bel.size), (hb.block _ (Array.getElem?_eq_some_iff.1 h.box).1).trans h.box⟩
theorem Ob.cell {w u : World} {o : OpD} (h : Ob w o u) (j : Nat) : u.cell? ⟨w.heap.size, j, none⟩ = o.cells[j]? := by
  rw [Lib.cell_of_heap h.box]; simp
theorem Ob.lt {w u : World} {o : OpD} (h : Ob w o u) : w.heap.size < u.heap.size := (Array.getElem?_eq_some_iff.1 h.box).1
theorem Ob.drewN {w u : World} {o : OpD} (h : Ob w o u) (n : Nat) : Ob w o (u.drewN n) := ⟨h.bel.trans ⟨rfl, rfl, rfl, Nat.le_refl _, fun _ _ => rfl⟩, h.box⟩

theorem free_cases (fold : Bool) (L : List EntD) (p : ByteArray) :
    ((L.any fun x => sameB fold x.pl p.data.toList) = true ∧ freeAns fold L p = (⟨#[]⟩, 8)) ∨
    ((L.any fun x => sameB fold x.pl p.data.toList) = false ∧ placeL fold L p.data.toList = none ∧ freeAns fold L p = (⟨#[]⟩, 2)) ∨
    ((L.any fun x => sameB fold x.pl p.data.toList) = false ∧ (∃ t, placeL fold L p.data.toList = some t) ∧ 120 ≤ L.length ∧ freeAns fold L p = (⟨#[]⟩, 5)) ∨
    ((L.any fun x => sameB fold x.pl p.data.toList) = false ∧ ¬ 120 ≤ L.length ∧ ∃ t, placeL fold L p.data.toList = some t ∧ freeAns fold L p = (ofL t, 0)) := by
  unfold freeAns
  have hE : L.any (isAt fold p.data.toList) = L.any fun x => sameB fold x.pl p.data.toList := rfl
  rw [hE]
  cases ha : L.any fun x => sameB fold x.pl p.data.toList
  · right
    simp only [Bool.false_eq_true, if_false]
    cases hp : placeL fold L p.data.toList with
    | none =>
      left
      have : plAns fold L p = (⟨#[]⟩, 2) := by simp only [plAns, hp]
      rw [this]; simp
    | some t =>
      right
      have : plAns fold L p = (ofL t, 0) := by simp only [plAns, hp]
      rw [this]
      by_cases hn : 120 ≤ L.length
      · left; simp [hn]
      · right; simp [hn]
  · left; simp
theorem ofL_small {t : BL} (h : t.length ≤ 1500000) : (ofL t).size ≤ 1500000 := by
  have : (ofL t).size = t.length := by simp [ofL, ByteArray.size]
  omega
theorem free_ne {fold : Bool} {L : List EntD} {p t : BL} (h : (L.any fun x => sameB fold x.pl p) = false) (hp : placeL fold L p = some t) : ∀ x ∈ L, x.pl ≠ t := by
  intro x hx e
  have := List.any_eq_false.1 h x hx
  rw [e] at this
  exact this (place_same hp)

set_option maxHeartbeats 2000000 in
theorem vmkdir {w : World} {vb : Nat} {v : Value} {L : List EntD} {fold : Bool} {space : Int} (V : Vm w vb v L fold space) (o : OpD) (ho : o.small) (hp : ∀ t, placeL fold L o.pl = some t → t.length ≤ 1500000) :
    Calls Tryz.prog 122 #[.pointer (some ⟨vb, 0, none⟩), o.val] w fun r w' => Ans w.heap.size (mkL fold space L ⟨o.path, true, 0, 0, o.mode⟩) r w' ∧ Below w.heap.size w w' := by
  have ST := hidD (Ob.start w o)
  have HF : Hid (∀ u : World, Below w.heap.size w u → Calls Tryz.prog 162 #[.pointer (some ⟨vb, 0, none⟩), .string o.path] u fun e w' => e = .returned (.tuple #[.string (freeAns fold L o.path).1, .int .i64 (freeAns fold L o.path).2]) ∧ Below u.heap.size u w') := fun u hu => vfree (V.below hu).vol (V.below hu).row V.smallL o.path ho.1
  have k1 := ST.out.cell 1
  simp [OpD.cells] at k1
  rcases free_cases fold L o.path with ⟨ha, hA⟩ | ⟨ha, hpl, hA⟩ | ⟨ha, ⟨t, hpl⟩, hn, hA⟩ | ⟨ha, hn, t, hpl, hA⟩
  · have hM : mkL fold space L ⟨o.path, true, 0, 0, o.mode⟩ = .error 8 := by unfold mkL; exact if_pos ha
    rw [hM]
    rw [hA] at HF
    unfold OpD.val Ans
    go_enter Tryz.func122, Tryz.ntmps122
    go_wp2_with (go_at_call 162; refine (HF.out _ ST.out.bel).mono ?_; rintro r w1 ⟨rfl, hb1⟩)
    go_ret2
    exact ⟨rfl, (ST.out.below hb1).bel⟩
  · have hM : mkL fold space L ⟨o.path, true, 0, 0, o.mode⟩ = .error 2 := by
      unfold mkL
      rw [show (EntD.pl ⟨o.path, true, 0, 0, o.mode⟩) = o.path.data.toList from rfl, ha, if_neg (by simp), hpl]
    rw [hM]
    rw [hA] at HF
    unfold OpD.val Ans
    go_enter Tryz.func122, Tryz.ntmps122
    go_wp2_with (go_at_call 162; refine (HF.out _ ST.out.bel).mono ?_; rintro r w1 ⟨rfl, hb1⟩)
    go_ret2
    exact ⟨rfl, (ST.out.below hb1).bel⟩
  · have hM : mkL fold space L ⟨o.path, true, 0, 0, o.mode⟩ = .error 5 := by
      unfold mkL
      rw [show (EntD.pl ⟨o.path, true, 0, 0, o.mode⟩) = o.path.data.toList from rfl, ha, if_neg (by simp), hpl]
      simp only [hn, if_true]
    rw [hM]
    rw [hA] at HF
    unfold OpD.val Ans
    go_enter Tryz.func122, Tryz.ntmps122
    go_wp2_with (go_at_call 162; refine (HF.out _ ST.out.bel).mono ?_; rintro r w1 ⟨rfl, hb1⟩)
    go_ret2
    exact ⟨rfl, (ST.out.below hb1).bel⟩
  · have hM : mkL fold space L ⟨o.path, true, 0, 0, o.mode⟩ = .ok (insL ⟨ofL t, true, 0, 0, o.mode⟩ L) := by
      unfold mkL
      rw [show (EntD.pl ⟨o.path, true, 0, 0, o.mode⟩) = o.path.data.toList from rfl, ha, if_neg (by simp), hpl]
      simp only [hn, if_false, Bool.not_true, Bool.false_and, Bool.false_eq_true]
      rfl
    rw [hM]
    rw [hA] at HF
    have HW : Hid (∀ u : World, Below w.heap.size w u → Calls Tryz.prog 163 #[.pointer (some ⟨vb, 0, none⟩), .agg #[.string (ofL t), .bool true, .int .i64 0, .int .i64 0, .int .i64 o.mode]] u fun r w' => ∃ v', r = .returned v' ∧ w'.ownsRow u.heap.size 56 5 v' (insL ⟨ofL t, true, 0, 0, o.mode⟩ L).length (flatE (insL ⟨ofL t, true, 0, 0, o.mode⟩ L)) ∧ Below u.heap.size u w') := fun u hu => vwith (V.below hu).vol (V.below hu).row V.len V.small V.srt ⟨ofL t, true, 0, 0, o.mode⟩ (ofL_small (hp t hpl)) (by have := free_ne ha hpl; simpa [EntD.pl, ofL] using this)
    generalize insL ⟨ofL t, true, 0, 0, o.mode⟩ L = M at *
    generalize ofL t = pt at *
    unfold OpD.val Ans
    go_enter Tryz.func122, Tryz.ntmps122
    go_wp2_with (first | (go_at_call 162; refine (HF.out _ ST.out.bel).mono ?_; rintro r w1 ⟨rfl, hb1⟩; have s1 := ST.out.below hb1; have d5 := s1.cell 5; simp [OpD.cells] at d5) | (go_at_call 163; refine (HW.out _ s1.bel).mono ?_; rintro r w3 ⟨v3, rfl, hown3, hb3⟩; obtain ⟨a3, m3, c3, rfl⟩ := own_shape hown3))
    go_ret2
    exact ⟨⟨_, rfl, own_mono hown3 s1.bel.size⟩, (s1.below hb3).bel⟩

set_option maxHeartbeats 2000000 in
theorem vunlink {w : World} {vb : Nat} {v : Value} {L : List EntD} {fold : Bool} {space : Int} (V : Vm w vb v L fold space) (o : OpD) (ho : o.small) :
    Calls Tryz.prog 124 #[.pointer (some ⟨vb, 0, none⟩), o.val] w fun r w' => Ans w.heap.size (match L[atI fold L o.pl]? with | none => .error 9 | some e => if e.dir then .error 10 else .ok (L.eraseIdx (atI fold L o.pl))) r w' ∧ Below w.heap.size w w' := by
  have ST := hidD (Ob.start w o)
  have HF := hidD (fun (u : World) (hu : Below w.heap.size w u) => vfile (V.below hu).vol (V.below hu).row V.smallL o.path ho.1)
  have k1 := ST.out.cell 1
  simp [OpD.cells] at k1
  rw [show o.path.data.toList = o.pl from rfl] at HF
  rcases fstI_at fold L o.pl with ⟨hi, hf⟩ | ⟨hlt, hi, hf⟩
  · rw [hf] at HF ⊢
    unfold OpD.val Ans
    go_enter Tryz.func124, Tryz.ntmps124
    go_wp2_with (go_at_call 167; refine (HF.out _ ST.out.bel).mono ?_; rintro r w1 ⟨rfl, hb1⟩)
    go_ret2
    exact ⟨rfl, (ST.out.below hb1).bel⟩
  · rw [hf] at HF ⊢
    have HW := hidD (fun (u : World) (hu : Below w.heap.size w u) => vwithout (V.below hu).vol (V.below hu).row V.len (atI fold L o.pl) hlt)
    generalize atI fold L o.pl = i at *
    generalize hE : L.eraseIdx i = M at *
    generalize L[i] = e at *
    clear hE hf hi
    cases hd : e.dir
    · simp only [hd, Bool.false_eq_true, if_false] at HF ⊢
      unfold OpD.val Ans
      go_enter Tryz.func124, Tryz.ntmps124
      go_wp2_with (first | (go_at_call 167; refine (HF.out _ ST.out.bel).mono ?_; rintro r w1 ⟨rfl, hb1⟩; have s1 := ST.out.below hb1) | (go_at_call 166; refine (HW.out _ s1.bel).mono ?_; rintro r w3 ⟨v3, rfl, hown3, hb3⟩; obtain ⟨a3, m3, c3, rfl⟩ := own_shape hown3))
      go_ret2
      exact ⟨⟨_, rfl, own_mono hown3 s1.bel.size⟩, (s1.below hb3).bel⟩
    · simp only [hd, if_true] at HF ⊢
      unfold OpD.val Ans
      go_enter Tryz.func124, Tryz.ntmps124
      go_wp2_with (go_at_call 167; refine (HF.out _ ST.out.bel).mono ?_; rintro r w1 ⟨rfl, hb1⟩)
      go_ret2
      exact ⟨rfl, (ST.out.below hb1).bel⟩
end Go.Proofs.YtpjjagalekolaaaGreatDoor

/- The library's Clone at entries. -/
namespace Go.Proofs.YtpjjagalekolaaaGreatDoor
open Go.RowKit
set_option linter.unusedVariables false
set_option linter.unusedSimpArgs false

theorem own_empty (w : World) : (w.alloc (.cells #[] 56)).ownsRow w.heap.size 56 5 (.slice (some ⟨w.heap.size, 0, none⟩) 0 0) 0 [] :=
  ⟨rfl, .inr ⟨w.heap.size, 0, #[], rfl, Nat.le_refl _, heap_alloc_new w _, Nat.le_refl _, by unfold maxLen; omega, rfl, rfl⟩⟩

set_option maxHeartbeats 2000000 in
set_option maxRecDepth 100000 in
theorem clone_row (b off cap : Nat) (L : List EntD) (w : World) (hl : L.length ≤ 1000) (hb : b < w.heap.size) (hc : EntsAt w b off L) :
    Calls Tryz.prog 70 #[.slice (some ⟨b, off, none⟩) L.length cap] w fun e w' => ∃ v, e = .returned v ∧ w'.ownsRow w.heap.size 56 5 v L.length (flatE L) ∧ Below w.heap.size w w' := by
  obtain ⟨i0, hi, hz0, hz1, hz2⟩ := info_parts info56
  have hneq := fun (u : World) (a : Option Addr) (n c : Nat) => Lib.run_eql_slice_nil (P := Tryz.prog) u 22 56 a n c 0 0 Tryz.underlying22
  have hb1 : Below w.heap.size w (w.alloc (.cells #[] 56)) := (Below.refl _ _).alloc (Nat.le_refl _) _
  have HE := hidD (flatE_at (hc.below hb1 hb))
  have HO := hidD (own_empty w)
  have HB := hidD hb1
  clear hc hb1
  go_enter Tryz.func70, Tryz.ntmps70
  go_wp2_with (at_builtin; refine wpList_append_own _ rfl _ _ 22 rfl w.heap.size 56 i0 _ 5 48 Tryz.underlying22 hi hz0 hz1 hz2 rfl (by decide) _ _ _ rfl HO.out ⟨b, off, none⟩ L.length cap (flatE L) rfl (flatE_length L) HE.out (flatE_one L) (by unfold maxLen; omega) (by omega) HB.out.size ?_; intro v2 w2 hown2 hg2 _)
  go_ret
  refine ⟨v2, rfl, ?_, HB.out.grown hg2 HB.out.size (fun q hq => (HO.out.lt q hq).1)⟩
  simpa using hown2
set_option maxHeartbeats 1000000 in
theorem clone_nil (w : World) : Calls Tryz.prog 70 #[.slice none 0 0] w fun e w' => e = .returned (.slice none 0 0) ∧ w' = w := by
  have hneq := fun (u : World) (a : Option Addr) (n c : Nat) => Lib.run_eql_slice_nil (P := Tryz.prog) u 22 56 a n c 0 0 Tryz.underlying22
  go_enter Tryz.func70, Tryz.ntmps70
  go_wp2
  go_ret
  exact ⟨rfl, rfl⟩
end Go.Proofs.YtpjjagalekolaaaGreatDoor

/- A volume in memory: chmod. -/
namespace Go.Proofs.YtpjjagalekolaaaGreatDoor
open Go.RowKit
set_option linter.unusedVariables false
set_option linter.unusedSimpArgs false

theorem flatE_set (L : List EntD) (m : Int) : ∀ (i : Nat) (h : i < L.length), flatE (L.set i { L[i] with mode := m }) = (flatE L).set (i * 5 + 4) (.int .i64 m) := by
  induction L with
  | nil => intro i h; simp at h
  | cons o L ih =>
    intro i h
    cases i with
    | zero => simp [flatE, EntD.cells]
    | succ i =>
      have h' : i < L.length := by simpa using h
      have := ih i h'
      simp only [List.set_cons_succ, List.getElem_cons_succ]
      simp only [flatE, List.map_cons, List.flatten_cons] at *
      rw [this, List.set_append_right _ _ (by simp [EntD.cells]; omega)]
      congr 2
      simp [EntD.cells]; omega

theorem own_some {w : World} {B : Nat} {v : Value} {n : Nat} {xs : List Value} (h : w.ownsRow B 56 5 v n xs) (hn : 0 < n) : ∃ g c, v = .slice (some ⟨g, 0, none⟩) n c := by
  rcases h.2 with ⟨rfl, rfl⟩ | ⟨g, cap, cur, rfl, _⟩
  · omega
  · exact ⟨_, _, rfl⟩

set_option maxHeartbeats 2000000 in
theorem vchmod {w : World} {vb : Nat} {v : Value} {L : List EntD} {fold : Bool} {space : Int} (V : Vm w vb v L fold space) (o : OpD) (ho : o.small) :
    Calls Tryz.prog 128 #[.pointer (some ⟨vb, 0, none⟩), o.val] w fun r w' => Ans w.heap.size (match L[atI fold L o.pl]? with | none => .error 9 | some e => .ok (L.set (atI fold L o.pl) { e with mode := o.mode })) r w' ∧ Below w.heap.size w w' := by
  have ST := hidD (Ob.start w o)
  have HF := hidD (fun (u : World) (hu : Below w.heap.size w u) => vfind (V.below hu).vol (V.below hu).row V.smallL o.path ho.1)
  have k1 := ST.out.cell 1
  simp [OpD.cells] at k1
  rw [show o.path.data.toList = o.pl from rfl] at HF
  rcases fstI_at fold L o.pl with ⟨hi, hf⟩ | ⟨hlt, hi, hf⟩
  · rw [hi] at HF
    rw [hf]
    unfold OpD.val Ans
    go_enter Tryz.func128, Tryz.ntmps128
    go_wp2_with (go_at_call 164; refine (HF.out _ ST.out.bel).mono ?_; rintro r w1 ⟨rfl, hb1⟩)
    go_ret2
    exact ⟨rfl, (ST.out.below hb1).bel⟩
  · rw [hi] at HF
    rw [hf]
    have HV := hidD V.vol
    have hvlt := V.vol.lt
    have hll := V.len
    have hrow := V.row
    clear V hi hf
    generalize atI fold L o.pl = i at *
    have HFS := hidD (flatE_set L o.mode i hlt)
    have hls : (L.set i { L[i] with mode := o.mode }).length = L.length := by simp
    cases hrow with
    | nil => simp at hlt
    | row b off cap l hlb hc hm h =>
      have HC := hidD (fun (u : World) (hu : Below w.heap.size w u) => clone_row b off cap L u (by omega) (by have := hu.size; omega) (h.below hu hlb))
      clear h
      unfold OpD.val Ans
      go_enter Tryz.func128, Tryz.ntmps128
      go_wp2_with (first | (go_at_call 164; refine (HF.out _ ST.out.bel).mono ?_; rintro r w1 ⟨rfl, hb1⟩; have s1 := ST.out.below hb1; have c0 := (HV.out.below s1.bel hvlt).c0) | (go_at_call 70; refine (HC.out _ s1.bel).mono ?_; rintro r w2 ⟨v2, rfl, hown2, hb2⟩; have s2 := s1.below hb2; have d5 := s2.cell 5; simp [OpD.cells] at d5; obtain ⟨g, c2, hv2⟩ := own_some hown2 (by omega); subst hv2; have hf4 := hown2.frozenAt (i * 5 + 4); have hc4 : w2.cell? ⟨g, i * 5 + 4, none⟩ = some (.int .i64 L[i].mode) := (hown2.cellAt (i * 5 + 4) (by omega)).trans (flatE_get L i hlt 4 (by omega))))
      go_ret2
      obtain ⟨h1, h2⟩ := hown2.stored (i * 5 + 4) (.int .i64 o.mode)
      refine ⟨⟨_, rfl, ?_⟩, s2.bel.grown h2 s2.bel.size (fun q hq => ?_)⟩
      · rw [List.length_set, HFS.out]
        exact own_mono h1 s1.bel.size
      · have := (hown2.lt q hq).1
        have := s1.bel.size
        omega
end Go.Proofs.YtpjjagalekolaaaGreatDoor

/- A volume in memory: rmdir. -/
namespace Go.Proofs.YtpjjagalekolaaaGreatDoor
open Go.RowKit
set_option linter.unusedVariables false
set_option linter.unusedSimpArgs false

set_option maxHeartbeats 1000000 in
theorem isBelow_any (s a : ByteArray) (fold : Bool) (w : World) (hs : s.size ≤ 1500000) (ha : a.size ≤ 1500000) :
    Calls Tryz.prog 165 #[.string s, .string a, .bool fold] w fun e w' => e = .returned (.bool (belowL fold s.data.toList a.data.toList)) ∧ ∃ n, w' = w.drewN n := by
  have hA : a.data.toList.length = a.size := by simp
  have hS : s.data.toList.length = s.size := by simp
  by_cases hlt : a.size < s.size
  · by_cases hc : ((s[a.size].toNat : Int) == 47) = true
    · have h47 : s[a.size] = 47 := by rw [u8_47] at hc; simpa using hc
      have hg : s.data.toList[a.size]? = some 47 := by
        rw [List.getElem?_eq_getElem (by simpa using hlt)]
        congr 1
      have hv : belowL fold s.data.toList a.data.toList = sameB fold (s.data.toList.take a.size) a.data.toList := by
        unfold belowL
        rw [hA, hS, hg]
        simp [hlt]
      rw [hv]
      go_enter Tryz.func165, Tryz.ntmps165
      go_wp2_with (go_at_call 189; refine (same_any _ _ _ _ (by simp; omega) (by omega)).mono ?_; rintro e w1 ⟨rfl, nq, rfl⟩)
      go_ret
      exact ⟨rfl, nq, rfl⟩
    · simp only [Bool.not_eq_true] at hc
      have h47 : s[a.size] ≠ 47 := by rw [u8_47] at hc; simpa using hc
      have hv : belowL fold s.data.toList a.data.toList = false := by
        unfold belowL
        rw [hA, hS, List.getElem?_eq_getElem (by simpa using hlt)]
        have : (some s.data.toList[a.size] == some (47 : UInt8)) = false := by
          simp only [beq_eq_false_iff_ne, ne_eq, Option.some.injEq]
          exact h47
        rw [this]; simp
      rw [hv]
      go_enter Tryz.func165, Tryz.ntmps165
      go_wp2
      go_ret
      exact ⟨rfl, 0, rfl⟩
  · have hv : belowL fold s.data.toList a.data.toList = false := by
      unfold belowL
      rw [hA, hS]; simp [hlt]
    rw [hv]
    go_enter Tryz.func165, Tryz.ntmps165
    go_wp2
    go_ret
    exact ⟨rfl, 0, rfl⟩

theorem isBelow_bel (s a : ByteArray) (fold : Bool) (w : World) (hs : s.size ≤ 1500000) (ha : a.size ≤ 1500000) :
    Calls Tryz.prog 165 #[.string s, .string a, .bool fold] w fun e w' => e = .returned (.bool (belowL fold s.data.toList a.data.toList)) ∧ Below w.heap.size w w' :=
  (isBelow_any s a fold w hs ha).mono (by rintro e w' ⟨rfl, n, rfl⟩; exact ⟨rfl, below_drewE _ n⟩)

set_option maxHeartbeats 4000000 in
theorem vrmdir {w : World} {vb : Nat} {v : Value} {L : List EntD} {fold : Bool} {space : Int} (V : Vm w vb v L fold space) (o : OpD) (ho : o.small) :
    Calls Tryz.prog 123 #[.pointer (some ⟨vb, 0, none⟩), o.val] w fun r w' => Ans w.heap.size (match L[atI fold L o.pl]? with | none => .error 9 | some e => if e.dir then (if (L.any fun x => belowL false x.pl e.pl) = true then .error 13 else .ok (L.eraseIdx (atI fold L o.pl))) else .error 10) r w' ∧ Below w.heap.size w w' := by
  have ST := hidD (Ob.start w o)
  have HF := hidD (fun (u : World) (hu : Below w.heap.size w u) => vfind (V.below hu).vol (V.below hu).row V.smallL o.path ho.1)
  have k1 := ST.out.cell 1
  simp [OpD.cells] at k1
  rw [show o.path.data.toList = o.pl from rfl] at HF
  rcases fstI_at fold L o.pl with ⟨hi, hf⟩ | ⟨hlt, hi, hf⟩
  · rw [hi] at HF
    rw [hf]
    unfold OpD.val Ans
    go_enter Tryz.func123, Tryz.ntmps123
    go_wp2_with (go_at_call 164; refine (HF.out _ ST.out.bel).mono ?_; rintro r w1 ⟨rfl, hb1⟩)
    go_ret2
    exact ⟨rfl, (ST.out.below hb1).bel⟩
  · rw [hi] at HF
    rw [hf]
    have HW := hidD (fun (u : World) (hu : Below w.heap.size w u) => vwithout (V.below hu).vol (V.below hu).row V.len (atI fold L o.pl) hlt)
    have HN := next_below V.srt (atI fold L o.pl) hlt
    have HV := hidD V.vol
    have hvlt := V.vol.lt
    have hll := V.len
    have hsmall := hidD V.small
    have hrow := V.row
    clear V hi hf
    generalize atI fold L o.pl = i at *
    cases hrow with
    | nil => simp at hlt
    | row b off cap l hlb hc hm h =>
      have HE : Hid (∀ u : World, Below w.heap.size w u → u.cell? ⟨b, off + i * 5 + 1, none⟩ = some (.bool L[i].dir) ∧ u.cell? ⟨b, off + i * 5, none⟩ = some (.string L[i].path)) := fun u hu => ⟨(h.below hu hlb) i hlt 1 _ rfl, (h.below hu hlb) i hlt 0 _ rfl⟩
      obtain ⟨i1, hi1⟩ : ∃ i1, i1 = i + 1 := ⟨_, rfl⟩
      have em : (i : Int) + 1 = (i1 : Int) := by omega
      have hw : IntKind.i64.wrap (i1 : Int) = (i1 : Int) := by rw [IntKind.wrap_i64]; omega
      have hso : L[i].path.size ≤ 1500000 := hsmall.out _ (List.getElem_mem hlt)
      cases hd : L[i].dir
      · rw [hd] at HE
        simp only [hd, Bool.false_eq_true, if_false]
        unfold OpD.val Ans
        go_enter Tryz.func123, Tryz.ntmps123
        go_wp2_with (go_at_call 164; refine (HF.out _ ST.out.bel).mono ?_; rintro r w1 ⟨rfl, hb1⟩; have s1 := ST.out.below hb1; have c0 := (HV.out.below s1.bel hvlt).c0; obtain ⟨c1, c2⟩ := HE.out _ s1.bel)
        go_ret2
        exact ⟨rfl, s1.bel⟩
      · rw [hd] at HE
        simp only [hd, if_true]
        by_cases hn : i1 < L.length
        · have hn' : i + 1 < L.length := by omega
          rw [dif_pos hn'] at HN
          have HE2 : Hid (∀ u : World, Below w.heap.size w u → u.cell? ⟨b, off + i1 * 5, none⟩ = some (.string L[i1].path)) := fun u hu => (h.below hu hlb) i1 hn 0 _ rfl
          have hso2 : L[i1].path.size ≤ 1500000 := hsmall.out _ (List.getElem_mem hn)
          have HN2 : (L.any fun x => belowL false x.pl L[i].pl) = belowL false L[i1].path.data.toList L[i].path.data.toList := by
            rw [HN]
            have : L[i + 1] = L[i1] := by congr 1; exact hi1.symm
            rw [this]; rfl
          rw [HN2]
          clear HN HN2 h hsmall hi1
          generalize L[i].path = p at *
          generalize L[i1].path = q at *
          generalize hbl : belowL false q.data.toList p.data.toList = bl at *
          generalize L.eraseIdx i = M at *
          have HBL := hidD hbl
          clear hbl
          cases bl
          all_goals
            simp only [Bool.false_eq_true, if_false, if_true]
            unfold OpD.val Ans
            go_enter Tryz.func123, Tryz.ntmps123
            go_wp2_with (go_at_call 164; refine (HF.out _ ST.out.bel).mono ?_; rintro r w1 ⟨rfl, hb1⟩; have s1 := ST.out.below hb1; have c0 := (HV.out.below s1.bel hvlt).c0; obtain ⟨c1, c2⟩ := HE.out _ s1.bel; have c3 := HE2.out _ s1.bel)
            go_region_held (fun u => u.cell? ⟨vb, 0, none⟩ = some (.slice (some ⟨b, off, none⟩) L.length cap) ∧ u.cell? ⟨b, off + i * 5, none⟩ = some (.string p) ∧ u.cell? ⟨b, off + i1 * 5, none⟩ = some (.string q)) (go_keep) (first | (go_at_call 165; refine (isBelow_bel q p false _ hso2 hso).mono ?_; rintro r w2 ⟨rfl, hb2⟩; rw [HBL.out]; have s2 := (s1.drewN 1).below hb2; have f0 := (HV.out.below s2.bel hvlt).c0; obtain ⟨f1, f2⟩ := HE.out _ s2.bel; have f3 := HE2.out _ s2.bel))
          · all_goals go_wp2_with (go_at_call 166; refine (HW.out _ s2.bel).mono ?_; rintro r w3 ⟨v3, rfl, hown3, hb3⟩; obtain ⟨a3, m3, c3, rfl⟩ := own_shape hown3)
            all_goals go_ret2
            all_goals exact ⟨⟨_, rfl, own_mono hown3 s2.bel.size⟩, (s2.below hb3).bel⟩
          · all_goals go_wp2
            all_goals go_ret2
            all_goals exact ⟨rfl, s2.bel⟩
        · have hn' : ¬ i + 1 < L.length := by omega
          rw [dif_neg hn'] at HN
          rw [HN]
          simp only [Bool.false_eq_true, if_false]
          clear HN h hsmall hi1
          generalize L[i].path = p at *
          generalize L.eraseIdx i = M at *
          unfold OpD.val Ans
          go_enter Tryz.func123, Tryz.ntmps123
          go_wp2_with (go_at_call 164; refine (HF.out _ ST.out.bel).mono ?_; rintro r w1 ⟨rfl, hb1⟩; have s1 := ST.out.below hb1; have c0 := (HV.out.below s1.bel hvlt).c0; obtain ⟨c1, c2⟩ := HE.out _ s1.bel)
          go_quiet (fail)
          have s2 := s1.drewN nq
          generalize w1.drewN nq = u2 at *
          go_wp2_with (go_at_call 166; refine (HW.out _ s2.bel).mono ?_; rintro r w3 ⟨v3, rfl, hown3, hb3⟩; obtain ⟨a3, m3, c3, rfl⟩ := own_shape hown3)
          go_ret2
          exact ⟨⟨_, rfl, own_mono hown3 s2.bel.size⟩, (s2.below hb3).bel⟩
end Go.Proofs.YtpjjagalekolaaaGreatDoor

/- Plain: what a checked tree gives for the walks: small paths, small sizes, one size for each id. -/
namespace Go.Proofs.YtpjjagalekolaaaGreatDoor
open Go.RowKit
set_option linter.unusedVariables false
set_option linter.unusedSimpArgs false

theorem used_small (L : List EntD) (h : ∀ o ∈ L, fieldsB o = true) : 0 ≤ usedL L ∧ usedL L ≤ 100 * L.length := by
  induction L with
  | nil => simp [usedL]
  | cons o L ih =>
    have h1 := ih fun x hx => h x (List.mem_cons_of_mem _ hx)
    obtain ⟨_, _, h2⟩ := fieldsB_true o (h o List.mem_cons_self)
    simp only [usedL, List.length_cons]
    rcases h2 with ⟨_, _, h3⟩ | ⟨_, _, _, h3, h4⟩ <;> omega
theorem VolOk.sizesOk {fold : Bool} {L : List EntD} (V : VolOk fold L) : SizesOk L := by
  intro k hk
  have h := used_small (L.take k) fun o ho => V.fields o (List.mem_of_mem_take ho)
  have h1 := V.few
  have h2 : (L.take k).length ≤ 120 := by simp; omega
  omega
theorem VolOk.other {fold : Bool} {L : List EntD} (V : VolOk fold L) (id size : Int) (hid : 1 ≤ id) (e : EntD) (h1 : e.id = id) (h2 : e.size = size) : otherB L e = (L.any fun x => !x.dir && decide (x.id = id) && decide (x.size ≠ size)) := by
  subst h1 h2
  unfold otherB
  have h : ∀ x ∈ L, (decide (x.id = e.id) && decide (x.size ≠ e.size)) = (!x.dir && decide (x.id = e.id) && decide (x.size ≠ e.size)) := by
    intro x hx
    obtain ⟨_, _, h3⟩ := fieldsB_true x (V.fields x hx)
    rcases h3 with ⟨d, i, _⟩ | ⟨d, _⟩
    · have : decide (x.id = e.id) = false := by rw [decide_eq_false_iff_not]; omega
      rw [this, d]; simp
    · rw [d]; simp
  rw [Bool.eq_iff_iff, List.any_eq_true, List.any_eq_true]
  exact ⟨fun ⟨x, hx, hp⟩ => ⟨x, hx, by rw [← h x hx]; exact hp⟩, fun ⟨x, hx, hp⟩ => ⟨x, hx, by rw [h x hx]; exact hp⟩⟩
theorem VolOk.alike {fold : Bool} {L : List EntD} (V : VolOk fold L) (e : EntD) (he : e ∈ L) (hd : e.dir = false) : (L.any fun x => !x.dir && decide (x.id = e.id) && decide (x.size ≠ e.size)) = false := by
  rw [List.any_eq_false]
  intro x hx h
  simp only [Bool.and_eq_true, Bool.not_eq_true', decide_eq_true_eq] at h
  exact h.2 (V.sizes x hx e he h.1.1 hd h.1.2)

theorem spl_len (n : Nat) : ∀ l : BL, l.length ≤ n → l.length + 1 = ((spl l).map (·.length + 1)).sum := by
  induction n with
  | zero =>
    intro l hl
    obtain rfl : l = [] := List.eq_nil_of_length_eq_zero (by omega)
    rfl
  | succ n ih =>
    intro l hl
    rcases last_cut l with h | ⟨a, b, rfl, hb⟩
    · rw [spl_none l h]; simp
    · simp only [List.length_append, List.length_cons] at hl
      rw [spl_split, List.map_append, List.sum_append, ← ih a (by omega), ← ih b (by omega)]
      simp; omega
theorem sum_le (c : Nat) (ps : List BL) (h : ∀ p ∈ ps, p.length ≤ c) : (ps.map (·.length + 1)).sum ≤ ps.length * (c + 1) := by
  induction ps with
  | nil => simp
  | cons p ps ih =>
    have h1 := ih fun x hx => h x (List.mem_cons_of_mem _ hx)
    have h2 := h p List.mem_cons_self
    simp only [List.map_cons, List.sum_cons, List.length_cons, Nat.add_mul, Nat.one_mul]
    simp only [Nat.mul_add, Nat.mul_one] at *
    omega

theorem path_len {l : BL} (h : pathL l = true) : l.length ≤ 60 := by
  unfold pathL at h
  rw [Bool.and_eq_true, decide_eq_true_eq, List.all_eq_true] at h
  have h1 := spl_len l.length l (Nat.le_refl _)
  have h2 := sum_le 8 (spl l) fun p hp => by
    have := h.2 p hp
    simp only [nmL, isNm, Bool.and_eq_true, decide_eq_true_eq] at this
    have h3 := this.1.1.1.2
    simpa [ByteArray.size] using h3
  have h3 : (spl l).length * (8 + 1) ≤ 6 * 9 := Nat.mul_le_mul_right _ h.1
  have h4 : l.length + 1 ≤ (spl l).length * (8 + 1) := h1 ▸ h2
  omega
theorem good_len {l : BL} (h : goodP l) : l.length ≤ 60 := by
  rcases h with h | h
  · exact path_len h
  · simp only [spareL, Bool.and_eq_true, decide_eq_true_eq] at h
    have := h.1.1.2
    omega
theorem VolOk.small {fold : Bool} {L : List EntD} (V : VolOk fold L) : ∀ o ∈ L, o.small := by
  intro o ho
  have h : o.pl.length ≤ 60 := good_len ((V.names o ho).imp id fun h => h.2)
  have h2 : o.path.size = o.pl.length := by simp [EntD.pl]
  show o.path.size ≤ 1500000
  omega
theorem VolOk.place {fold : Bool} {L : List EntD} (V : VolOk fold L) {p : BL} (hp : goodP p) : ∀ t, placeL fold L p = some t → t.length ≤ 1500000 := by
  intro t ht
  obtain ⟨h1, h2⟩ := place_good V ht hp
  have : t.length ≤ 60 := by
    rcases hp with h | h
    · exact path_len (h1 h)
    · rw [h2 h]; exact good_len (.inr h)
  omega
theorem Vm.of {w : World} {vb : Nat} {v : Value} {L : List EntD} {fold : Bool} {space : Int} (V : VolOk fold L) (hv : VolAt w vb v fold space) (hr : RowAt w v L) (h0 : 0 ≤ space) (h1 : space ≤ 9223372036854775807) : Vm w vb v L fold space :=
  ⟨hv, hr, V.few, V.small, V.srt, V.sizesOk, h0, h1⟩
theorem OpGood.small {o : OpD} (h : okOp o = true) (hd : o.dest.size ≤ 1500000) : o.small := by
  have h1 := good_len (okOp_good h).path
  have h2 : o.path.size = o.pl.length := by simp [OpD.pl]
  exact ⟨by omega, hd⟩

theorem doL_mkdir {fold : Bool} {space : Int} {L : List EntD} {o : OpD} (h : o.kind = 1) : doL fold space L o = mkL fold space L ⟨o.path, true, 0, 0, o.mode⟩ := by unfold doL; rw [if_pos h]
theorem doL_write {fold : Bool} {space : Int} {L : List EntD} {o : OpD} (h : o.kind = 4) : doL fold space L o = mkL fold space L ⟨o.path, false, o.id, o.size, o.mode⟩ := by unfold doL; rw [if_neg (by omega), if_pos h]
theorem doL_rmdir {fold : Bool} {space : Int} {L : List EntD} {o : OpD} (h : o.kind = 2) : doL fold space L o = match L[atI fold L o.pl]? with | none => .error 9 | some e => if e.dir then (if (L.any fun x => belowL false x.pl e.pl) = true then .error 13 else .ok (L.eraseIdx (atI fold L o.pl))) else .error 10 := by
  unfold doL
  rw [if_neg (by omega), if_neg (by omega)]
  cases L[atI fold L o.pl]? with
  | none => rfl
  | some e =>
    simp only
    rw [if_neg (by omega), if_neg (by omega)]
    have hk : decide (o.kind = 2) = true := by simpa using h
    have h5 : ¬ o.kind = 5 := by omega
    rw [hk]
    cases e.dir <;> simp [h5]
theorem doL_unlink {fold : Bool} {space : Int} {L : List EntD} (V : VolOk fold L) {o : OpD} (h : o.kind = 3) : doL fold space L o = match L[atI fold L o.pl]? with | none => .error 9 | some e => if e.dir then .error 10 else .ok (L.eraseIdx (atI fold L o.pl)) := by
  unfold doL
  rw [if_neg (by omega), if_neg (by omega)]
  cases he : L[atI fold L o.pl]? with
  | none => rfl
  | some e =>
    simp only
    rw [if_neg (by omega), if_neg (by omega)]
    have hk : decide (o.kind = 2) = false := by rw [decide_eq_false_iff_not]; omega
    have h5 : ¬ o.kind = 5 := by omega
    rw [hk]
    cases hd : e.dir
    · obtain ⟨hi, hx, _⟩ := atI_some he
      have := file_leaf V hi (by rw [hx]; exact hd)
      rw [hx] at this
      simp only [ne_eq, not_true_eq_false, if_false, h5, this, Bool.false_eq_true]
    · simp
theorem doL_copy {fold : Bool} {space : Int} {L : List EntD} {o : OpD} (h : o.kind = 5) : doL fold space L o = match L[atI fold L o.pl]? with | none => .error 9 | some e => if e.dir then .error 10 else mkL fold space L ⟨o.dest, false, e.id, e.size, o.mode⟩ := by
  unfold doL
  rw [if_neg (by omega), if_neg (by omega)]
  cases L[atI fold L o.pl]? with
  | none => rfl
  | some e =>
    simp only
    rw [if_neg (by omega), if_neg (by omega)]
    have hk : decide (o.kind = 2) = false := by rw [decide_eq_false_iff_not]; omega
    rw [hk]
    cases e.dir <;> simp [h]
end Go.Proofs.YtpjjagalekolaaaGreatDoor

/- A volume in memory: write. -/
namespace Go.Proofs.YtpjjagalekolaaaGreatDoor
open Go.RowKit
set_option linter.unusedVariables false
set_option linter.unusedSimpArgs false

set_option maxHeartbeats 1000000 in
theorem hasOther_nil (e : EntD) (w : World) :
    Calls Tryz.prog 91 #[.slice none 0 0, .agg #[.string e.path, .bool e.dir, .int .i64 e.id, .int .i64 e.size, .int .i64 e.mode]] w fun r w' => r = .returned (.bool false) ∧ Below w.heap.size w w' := by
  have hb1 : Below w.heap.size w (w.alloc (.cells #[.string e.path, .bool e.dir, .int .i64 e.id, .int .i64 e.size, .int .i64 e.mode] 56)) := (Below.refl _ _).alloc (Nat.le_refl _) _
  go_enter Tryz.func91, Tryz.ntmps91
  go_wp2
  refine wp_loop_rounds 1 ?_
  rw [rounds_succ]
  go_wp2
  go_ret
  exact ⟨rfl, hb1⟩
theorem vother {w : World} {v : Value} {L : List EntD} (hr : RowAt w v L) (hl : L.length ≤ 120) (e : EntD) : ∀ u : World, Below w.heap.size w u → Calls Tryz.prog 91 #[v, .agg #[.string e.path, .bool e.dir, .int .i64 e.id, .int .i64 e.size, .int .i64 e.mode]] u fun r u' => r = .returned (.bool (otherB L e)) ∧ Below u.heap.size u u' := by
  intro u hu
  cases hr with
  | nil => exact hasOther_nil e u
  | row b off cap l hlt hc hm h => exact hasOther_any b off cap L e u (by omega) (by have := hu.size; omega) (h.below hu hlt)

set_option maxHeartbeats 2000000 in
theorem vwrite {w : World} {vb : Nat} {v : Value} {L : List EntD} {fold : Bool} {space : Int} (V : Vm w vb v L fold space) (o : OpD) (ho : o.small) (hp : ∀ t, placeL fold L o.pl = some t → t.length ≤ 1500000)
    (hot : ∀ e : EntD, e.id = o.id → e.size = o.size → otherB L e = (L.any fun x => !x.dir && decide (x.id = o.id) && decide (x.size ≠ o.size))) :
    Calls Tryz.prog 125 #[.pointer (some ⟨vb, 0, none⟩), o.val] w fun r w' => Ans w.heap.size (mkL fold space L ⟨o.path, false, o.id, o.size, o.mode⟩) r w' ∧ Below w.heap.size w w' := by
  have ST := hidD (Ob.start w o)
  have HF : Hid (∀ u : World, Below w.heap.size w u → Calls Tryz.prog 162 #[.pointer (some ⟨vb, 0, none⟩), .string o.path] u fun e w' => e = .returned (.tuple #[.string (freeAns fold L o.path).1, .int .i64 (freeAns fold L o.path).2]) ∧ Below u.heap.size u w') := fun u hu => vfree (V.below hu).vol (V.below hu).row V.smallL o.path ho.1
  have k1 := ST.out.cell 1
  simp [OpD.cells] at k1
  rcases free_cases fold L o.path with ⟨ha, hA⟩ | ⟨ha, hpl, hA⟩ | ⟨ha, ⟨t, hpl⟩, hn, hA⟩ | ⟨ha, hn, t, hpl, hA⟩
  · have hM : mkL fold space L ⟨o.path, false, o.id, o.size, o.mode⟩ = .error 8 := by unfold mkL; exact if_pos ha
    rw [hM]
    rw [hA] at HF
    unfold OpD.val Ans
    go_enter Tryz.func125, Tryz.ntmps125
    go_wp2_with (go_at_call 162; refine (HF.out _ ST.out.bel).mono ?_; rintro r w1 ⟨rfl, hb1⟩)
    go_ret2
    exact ⟨rfl, (ST.out.below hb1).bel⟩
  · have hM : mkL fold space L ⟨o.path, false, o.id, o.size, o.mode⟩ = .error 2 := by
      unfold mkL
      rw [show (EntD.pl ⟨o.path, false, o.id, o.size, o.mode⟩) = o.path.data.toList from rfl, ha, if_neg (by simp), hpl]
    rw [hM]
    rw [hA] at HF
    unfold OpD.val Ans
    go_enter Tryz.func125, Tryz.ntmps125
    go_wp2_with (go_at_call 162; refine (HF.out _ ST.out.bel).mono ?_; rintro r w1 ⟨rfl, hb1⟩)
    go_ret2
    exact ⟨rfl, (ST.out.below hb1).bel⟩
  · have hM : mkL fold space L ⟨o.path, false, o.id, o.size, o.mode⟩ = .error 5 := by
      unfold mkL
      rw [show (EntD.pl ⟨o.path, false, o.id, o.size, o.mode⟩) = o.path.data.toList from rfl, ha, if_neg (by simp), hpl]
      simp only [hn, if_true]
    rw [hM]
    rw [hA] at HF
    unfold OpD.val Ans
    go_enter Tryz.func125, Tryz.ntmps125
    go_wp2_with (go_at_call 162; refine (HF.out _ ST.out.bel).mono ?_; rintro r w1 ⟨rfl, hb1⟩)
    go_ret2
    exact ⟨rfl, (ST.out.below hb1).bel⟩
  · rw [hA] at HF
    have hO := hot ⟨ofL t, false, o.id, o.size, o.mode⟩ rfl rfl
    have hM : mkL fold space L ⟨o.path, false, o.id, o.size, o.mode⟩ = if otherB L ⟨ofL t, false, o.id, o.size, o.mode⟩ = true then .error 6 else if space - usedL L < o.size then .error 11 else .ok (insL ⟨ofL t, false, o.id, o.size, o.mode⟩ L) := by
      unfold mkL
      rw [show (EntD.pl ⟨o.path, false, o.id, o.size, o.mode⟩) = o.path.data.toList from rfl, ha, if_neg (by simp), hpl, hO]
      simp only [hn, if_false, Bool.not_false, Bool.true_and, decide_eq_true_eq]
      congr 1
      by_cases hs : space - usedL L < o.size
      · rw [if_pos hs, if_pos (by omega)]
      · rw [if_neg hs, if_neg (by omega)]; rfl
    rw [hM]
    have hsm : (ofL t).size ≤ 1500000 := ofL_small (hp t hpl)
    have HO := hidD (vother V.row V.len ⟨ofL t, false, o.id, o.size, o.mode⟩)
    have HW := hidD (fun (u : World) (hu : Below w.heap.size w u) => vfilled (V.below hu).vol (V.below hu).row V.len V.small V.srt V.sizes V.sp0 V.sp1 ⟨ofL t, false, o.id, o.size, o.mode⟩ hsm (by have := free_ne ha hpl; simpa [EntD.pl, ofL] using this))
    have HV := hidD V.vol
    have hvlt := V.vol.lt
    obtain ⟨a, c, hv⟩ := V.row.val
    subst hv
    clear hM hO hot hp V ha hpl hA
    generalize insL ⟨ofL t, false, o.id, o.size, o.mode⟩ L = M at *
    generalize otherB L ⟨ofL t, false, o.id, o.size, o.mode⟩ = ot at *
    generalize ofL t = pt at *
    generalize usedL L = us at *
    generalize L.length = n at *
    cases ot
    · simp only [Bool.false_eq_true, if_false]
      by_cases hf : space - us < o.size
      · simp only [hf, if_true, ↓reduceIte] at HW ⊢
        unfold OpD.val Ans
        go_enter Tryz.func125, Tryz.ntmps125
        go_wp2_with (go_at_call 162; refine (HF.out _ ST.out.bel).mono ?_; rintro r w1 ⟨rfl, hb1⟩; have s1 := ST.out.below hb1; have d3 := s1.cell 3; have d4 := s1.cell 4; have d5 := s1.cell 5; simp [OpD.cells] at d3 d4 d5)
        have e1 := Eb.start w1 ⟨pt, false, o.id, o.size, o.mode⟩
        have bv := s1.bel.trans (e1.bel.mono s1.bel.size)
        have c0 := (HV.out.below bv hvlt).c0
        have E1 := hidD e1
        have BV := hidD bv
        have g0 := e1.cell 0
        have g1 := e1.cell 1
        have g2 := e1.cell 2
        have g3 := e1.cell 3
        have g4 := e1.cell 4
        simp [EntD.cells] at g0 g1 g2 g3 g4 c0
        clear e1 bv d3 d4 d5 k1
        go_region_held (fun u => u.cell? ⟨vb, 0, none⟩ = some (.slice a n c) ∧ u.cell? ⟨w1.heap.size, 0, none⟩ = some (.string pt) ∧ u.cell? ⟨w1.heap.size, 1, none⟩ = some (.bool false) ∧ u.cell? ⟨w1.heap.size, 2, none⟩ = some (.int .i64 o.id) ∧ u.cell? ⟨w1.heap.size, 3, none⟩ = some (.int .i64 o.size) ∧ u.cell? ⟨w1.heap.size, 4, none⟩ = some (.int .i64 o.mode)) (go_keep) (first | (go_at_call 91; refine (HO.out _ (BV.out.trans (below_drewE _ 1))).mono ?_; rintro r w2 ⟨rfl, hb2⟩; have e2 := (E1.out.drewN 1).below hb2; have f0 := e2.cell 0; have f1 := e2.cell 1; have f2 := e2.cell 2; have f3 := e2.cell 3; have f4 := e2.cell 4; simp [EntD.cells] at f0 f1 f2 f3 f4; have bw := s1.bel.trans (e2.bel.mono s1.bel.size); have fv := (HV.out.below bw hvlt).c0))
        all_goals go_wp2_with (go_at_call 168; refine (HW.out _ bw).mono ?_; rintro r w3 ⟨hb3, rfl⟩)
        all_goals go_ret2
        all_goals exact ⟨rfl, bw.trans (hb3.mono bw.size)⟩
      · simp only [hf, if_false, ↓reduceIte] at HW ⊢
        unfold OpD.val Ans
        go_enter Tryz.func125, Tryz.ntmps125
        go_wp2_with (go_at_call 162; refine (HF.out _ ST.out.bel).mono ?_; rintro r w1 ⟨rfl, hb1⟩; have s1 := ST.out.below hb1; have d3 := s1.cell 3; have d4 := s1.cell 4; have d5 := s1.cell 5; simp [OpD.cells] at d3 d4 d5)
        have e1 := Eb.start w1 ⟨pt, false, o.id, o.size, o.mode⟩
        have bv := s1.bel.trans (e1.bel.mono s1.bel.size)
        have c0 := (HV.out.below bv hvlt).c0
        have E1 := hidD e1
        have BV := hidD bv
        have g0 := e1.cell 0
        have g1 := e1.cell 1
        have g2 := e1.cell 2
        have g3 := e1.cell 3
        have g4 := e1.cell 4
        simp [EntD.cells] at g0 g1 g2 g3 g4 c0
        clear e1 bv d3 d4 d5 k1
        go_region_held (fun u => u.cell? ⟨vb, 0, none⟩ = some (.slice a n c) ∧ u.cell? ⟨w1.heap.size, 0, none⟩ = some (.string pt) ∧ u.cell? ⟨w1.heap.size, 1, none⟩ = some (.bool false) ∧ u.cell? ⟨w1.heap.size, 2, none⟩ = some (.int .i64 o.id) ∧ u.cell? ⟨w1.heap.size, 3, none⟩ = some (.int .i64 o.size) ∧ u.cell? ⟨w1.heap.size, 4, none⟩ = some (.int .i64 o.mode)) (go_keep) (first | (go_at_call 91; refine (HO.out _ (BV.out.trans (below_drewE _ 1))).mono ?_; rintro r w2 ⟨rfl, hb2⟩; have e2 := (E1.out.drewN 1).below hb2; have f0 := e2.cell 0; have f1 := e2.cell 1; have f2 := e2.cell 2; have f3 := e2.cell 3; have f4 := e2.cell 4; simp [EntD.cells] at f0 f1 f2 f3 f4; have bw := s1.bel.trans (e2.bel.mono s1.bel.size); have fv := (HV.out.below bw hvlt).c0))
        all_goals go_wp2_with (go_at_call 168; refine (HW.out _ bw).mono ?_; rintro r w3 ⟨hb3, v3, rfl, hown3⟩; obtain ⟨a3, m3, c3, rfl⟩ := own_shape hown3)
        all_goals go_ret2
        all_goals exact ⟨⟨_, rfl, own_mono hown3 bw.size⟩, bw.trans (hb3.mono bw.size)⟩
    · simp only [if_true]
      unfold OpD.val Ans
      go_enter Tryz.func125, Tryz.ntmps125
      go_wp2_with (go_at_call 162; refine (HF.out _ ST.out.bel).mono ?_; rintro r w1 ⟨rfl, hb1⟩; have s1 := ST.out.below hb1; have d3 := s1.cell 3; have d4 := s1.cell 4; have d5 := s1.cell 5; simp [OpD.cells] at d3 d4 d5)
      have e1 := Eb.start w1 ⟨pt, false, o.id, o.size, o.mode⟩
      have bv := s1.bel.trans (e1.bel.mono s1.bel.size)
      have c0 := (HV.out.below bv hvlt).c0
      have E1 := hidD e1
      have BV := hidD bv
      have g0 := e1.cell 0
      have g1 := e1.cell 1
      have g2 := e1.cell 2
      have g3 := e1.cell 3
      have g4 := e1.cell 4
      simp [EntD.cells] at g0 g1 g2 g3 g4 c0
      clear e1 bv d3 d4 d5 k1
      go_region_held (fun u => u.cell? ⟨vb, 0, none⟩ = some (.slice a n c) ∧ u.cell? ⟨w1.heap.size, 0, none⟩ = some (.string pt) ∧ u.cell? ⟨w1.heap.size, 1, none⟩ = some (.bool false) ∧ u.cell? ⟨w1.heap.size, 2, none⟩ = some (.int .i64 o.id) ∧ u.cell? ⟨w1.heap.size, 3, none⟩ = some (.int .i64 o.size) ∧ u.cell? ⟨w1.heap.size, 4, none⟩ = some (.int .i64 o.mode)) (go_keep) (first | (go_at_call 91; refine (HO.out _ (BV.out.trans (below_drewE _ 1))).mono ?_; rintro r w2 ⟨rfl, hb2⟩; have e2 := (E1.out.drewN 1).below hb2; have f0 := e2.cell 0; have f1 := e2.cell 1; have f2 := e2.cell 2; have f3 := e2.cell 3; have f4 := e2.cell 4; simp [EntD.cells] at f0 f1 f2 f3 f4; have bw := s1.bel.trans (e2.bel.mono s1.bel.size); have fv := (HV.out.below bw hvlt).c0))
      all_goals go_wp2
      all_goals go_ret2
      all_goals exact ⟨rfl, bw⟩
end Go.Proofs.YtpjjagalekolaaaGreatDoor

