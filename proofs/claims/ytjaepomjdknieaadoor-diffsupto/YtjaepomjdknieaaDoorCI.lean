/- The reference's Check, of trees that do not fold; it tells an error just where the program's does. -/
import Derived.Test.YtjaepomjdknieaaDoorCH
namespace Go.Proofs.YtjaepomjdknieaaDoor
open Go.RowKit
set_option linter.unusedVariables false
set_option linter.unusedSimpArgs false

theorem fieldsB_true (e : EntD) (h : fieldsB e = true) : 0 ≤ e.mode ∧ e.mode ≤ 511 ∧ ((e.dir = true ∧ e.id = 0 ∧ e.size = 0) ∨ (e.dir = false ∧ 1 ≤ e.id ∧ e.id ≤ 9999 ∧ 0 ≤ e.size ∧ e.size ≤ 100)) := by
  cases hd : e.dir
  · simp [fieldsB, hd] at h
    refine ⟨by omega, by omega, .inr ⟨rfl, by omega, by omega, by omega, by omega⟩⟩
  · simp [fieldsB, hd] at h
    refine ⟨by omega, by omega, .inl ⟨rfl, by omega, by omega⟩⟩

theorem refEntry_any (b off cap : Nat) (l : List EntD) (i : Nat) (e : EntD) (w : World) (hi : i < l.length) (hx : l[i] = e) (hl : l.length ≤ 2000000) (hs : ∀ o ∈ l, o.small) (hb : b < w.heap.size) (hc : EntsAt w b off l) :
    Calls Tryd.prog 54 #[.slice (some ⟨b, off, none⟩) l.length cap, .int .i64 i, .bool false, .bool false] w fun r w' => r = .returned (.int .i64 (refErr l i e)) ∧ Below w.heap.size w w' := by
  by_cases h1 : pathL e.path.data.toList = true
  · by_cases h2 : fieldsB e = true
    · obtain ⟨f1, f2, f3⟩ := fieldsB_true e h2
      obtain ⟨p, d, q, z, md⟩ := e
      dsimp only at *
      rcases f3 with ⟨rfl, rfl, rfl⟩ | ⟨rfl, g1, g2, g3, g4⟩
      · cases i with
        | zero => exact refEntry_d0 b off cap l p md w hi hx hl hs hb hc h1 f1 f2
        | succ m => exact refEntry_d1 b off cap m l p md w hi _ rfl hx hl hs hb hc h1 f1 f2
      · cases i with
        | zero => exact refEntry_f0 b off cap l p q z md w hi hx hl hs hb hc h1 f1 f2 g1 g2 g3 g4
        | succ m => exact refEntry_f1 b off cap m l p q z md w hi _ rfl hx hl hs hb hc h1 f1 f2 g1 g2 g3 g4
    · exact refEntry_bad b off cap l i e w hi hx hl hs hb hc h1 (by simpa using h2)
  · exact refEntry_name b off cap l i e w hi hx hl hs hb hc (by simpa using h1)

def refGo (l : List EntD) : List EntD → Nat → Int × Int
  | [], _ => (0, 0)
  | e :: t, i => if refErr l i e = 0 then refGo l t (i + 1) else (refErr l i e, i)
def refP (l : List EntD) : Int × Int := if 60 < l.length then (5, 0) else refGo l l 0
theorem refGo_at (l : List EntD) (k : Nat) (h : k < l.length) : refGo l (l.drop k) k = if refErr l k l[k] = 0 then refGo l (l.drop (k + 1)) (k + 1) else (refErr l k l[k], (k : Int)) := by
  rw [List.drop_eq_getElem_cons h, refGo]

set_option maxHeartbeats 2000000 in
theorem refcheck_any (b off cap : Nat) (l : List EntD) (w : World) (hl : l.length ≤ 2000000) (hs : ∀ o ∈ l, o.small) (hb : b < w.heap.size) (hc : EntsAt w b off l) :
    Calls Tryd.prog 31 #[.slice (some ⟨b, off, none⟩) l.length cap, .bool false, .int .i64 60, .bool false] w fun e w' => e = .returned (.tuple #[.int .i64 (refP l).1, .int .i64 (refP l).2]) ∧ Below w.heap.size w w' := by
  by_cases h6 : (60 : Int) < l.length
  · have hv : refP l = (5, 0) := by rw [refP, if_pos (by omega)]
    rw [hv]
    go_enter Tryd.func31, Tryd.ntmps31
    go_wp2
    go_ret2
    exact ⟨rfl, Below.refl _ _⟩
  · have hv : refP l = refGo l l 0 := by rw [refP, if_neg (by omega)]
    rw [hv]
    go_enter Tryd.func31, Tryd.ntmps31
    go_wp2
    go_loopw [10] (fun i wr => ∃ k : Nat, k ≤ l.length ∧ i = .int .i64 k ∧ refGo l l 0 = refGo l (l.drop k) k ∧ Below w.heap.size w wr) (fun i _ => l.length - (intOf i).toNat)
    case atStart => exact ⟨0, Nat.zero_le _, rfl, rfl, Below.refl _ _⟩
    case round =>
      obtain ⟨k, hk, rfl, hd, hbw⟩ := hrel
      have HD : Hid (refGo l l 0 = refGo l (l.drop k) k) := hd
      clear hd
      have hbs := hbw.size
      by_cases hlt : k < l.length
      · have HSN := refGo_at l k hlt
        generalize hx : l[k] = o at *
        have HS : Hid (refGo l (l.drop k) k = if refErr l k o = 0 then refGo l (l.drop (k + 1)) (k + 1) else (refErr l k o, (k : Int))) := HSN
        clear HSN
        by_cases he : refErr l k o = 0
        · go_wp2_with (go_at_call 54; refine (refEntry_any b off cap l k o _ hlt hx hl hs (by omega) (hc.below hbw hb)).mono ?_; rintro e w2 ⟨rfl, hb2⟩; rw [he])
          exact ⟨⟨k + 1, by omega, by go_num, by rw [HD.out, HS.out, if_pos he], hbw.trans (hb2.mono hbs)⟩, by simp [intOf]; omega⟩
        · have he' : (refErr l k o != 0) = true := by simpa using he
          go_wp2_with (go_at_call 54; refine (refEntry_any b off cap l k o _ hlt hx hl hs (by omega) (hc.below hbw hb)).mono ?_; rintro e w2 ⟨rfl, hb2⟩)
          go_ret2
          refine ⟨?_, hbw.trans (hb2.mono hbs)⟩
          rw [HD.out, HS.out, if_neg he]; rfl
      · go_wp2
        go_ret2
        refine ⟨?_, hbw⟩
        rw [HD.out, List.drop_of_length_le (by omega), refGo]; rfl

set_option maxHeartbeats 1000000 in
theorem refcheck_nil (w : World) :
    Calls Tryd.prog 31 #[.slice none 0 0, .bool false, .int .i64 60, .bool false] w fun e w' => e = .returned (.tuple #[.int .i64 0, .int .i64 0]) ∧ w' = w := by
  go_enter Tryd.func31, Tryd.ntmps31
  go_wp2
  refine wp_loop_rounds 1 ?_
  rw [rounds_succ]
  go_wp2
  go_ret2
  exact ⟨rfl, rfl⟩

set_option maxHeartbeats 1000000 in
theorem refCheck_any (b off cap : Nat) (l : List EntD) (w : World) (hl : l.length ≤ 2000000) (hs : ∀ o ∈ l, o.small) (hb : b < w.heap.size) (hc : EntsAt w b off l) :
    Calls Tryd.prog 10 #[.slice (some ⟨b, off, none⟩) l.length cap, .bool false] w fun e w' => e = .returned (.tuple #[.int .i64 (refP l).1, .int .i64 (refP l).2]) ∧ Below w.heap.size w w' := by
  go_enter Tryd.func10, Tryd.ntmps10
  go_wp2_with (go_at_call 31; refine (refcheck_any b off cap l _ hl hs hb hc).mono ?_; rintro e w1 ⟨rfl, hb1⟩)
  go_ret2
  exact ⟨rfl, hb1⟩
set_option maxHeartbeats 1000000 in
theorem refCheck_nil (w : World) :
    Calls Tryd.prog 10 #[.slice none 0 0, .bool false] w fun e w' => e = .returned (.tuple #[.int .i64 0, .int .i64 0]) ∧ w' = w := by
  go_enter Tryd.func10, Tryd.ntmps10
  go_wp2_with (go_at_call 31; refine (refcheck_nil _).mono ?_; rintro e w1 ⟨rfl, rfl⟩)
  go_ret2
  exact ⟨rfl, rfl⟩

/-! Plain: both tell an error of the same lists. -/
theorem chkGo_zero (l : List EntD) : ∀ (t : List EntD) (i : Nat), ((chkGo l t i).1 = 0 ↔ ∀ (k : Nat) (h : k < t.length), chkAt l (i + k) t[k] = 0) := by
  intro t
  induction t with
  | nil => intro i; simp [chkGo]
  | cons e t ih =>
    intro i
    rw [chkGo]
    split
    · next h0 =>
      rw [ih]
      constructor
      · intro h k hk
        cases k with
        | zero => exact h0
        | succ k => have := h k (by simpa using hk); rw [show i + (k + 1) = i + 1 + k by omega]; exact this
      · intro h k hk
        have := h (k + 1) (by simpa using hk)
        rw [show i + 1 + k = i + (k + 1) by omega]; exact this
    · next h0 =>
      constructor
      · intro h; exact absurd h h0
      · intro h; exact absurd (h 0 (by simp)) h0
theorem refGo_zero (l : List EntD) : ∀ (t : List EntD) (i : Nat), ((refGo l t i).1 = 0 ↔ ∀ (k : Nat) (h : k < t.length), refErr l (i + k) t[k] = 0) := by
  intro t
  induction t with
  | nil => intro i; simp [refGo]
  | cons e t ih =>
    intro i
    rw [refGo]
    split
    · next h0 =>
      rw [ih]
      constructor
      · intro h k hk
        cases k with
        | zero => exact h0
        | succ k => have := h k (by simpa using hk); rw [show i + (k + 1) = i + 1 + k by omega]; exact this
      · intro h k hk
        have := h (k + 1) (by simpa using hk)
        rw [show i + 1 + k = i + (k + 1) by omega]; exact this
    · next h0 =>
      constructor
      · intro h; exact absurd h h0
      · intro h; exact absurd (h 0 (by simp)) h0

/-- What a tree is, said plainly. -/
structure TreeOk (l : List EntD) : Prop where
  few : l.length ≤ 60
  names : ∀ o ∈ l, pathL o.path.data.toList = true
  fields : ∀ o ∈ l, fieldsB o = true
  order : ∀ (i j : Nat) (hi : i < l.length) (hj : j < l.length), i < j → key l[i].path.data.toList < key l[j].path.data.toList

theorem order_of_steps (l : List EntD) (h : ∀ (i : Nat) (hi : i + 1 < l.length), key l[i].path.data.toList < key l[i + 1].path.data.toList) : ∀ (i j : Nat) (hi : i < l.length) (hj : j < l.length), i < j → key l[i].path.data.toList < key l[j].path.data.toList := by
  intro i j hi
  induction j with
  | zero => intro hj h0; omega
  | succ j ih =>
    intro hj hij
    by_cases he : i = j
    · subst he; exact h i hj
    · exact List.lt_trans (ih (by omega) (by omega)) (h j hj)
end Go.Proofs.YtjaepomjdknieaaDoor
