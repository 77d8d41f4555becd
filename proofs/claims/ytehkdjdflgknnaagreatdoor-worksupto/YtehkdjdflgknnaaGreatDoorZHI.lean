/- The reference's Check of what a volume holds. -/
import Derived.Test.YtehkdjdflgknnaaGreatDoorZHGS
import Derived.Test.YtehkdjdflgknnaaGreatDoorZHS
import Derived.Test.YtehkdjdflgknnaaGreatDoorZHJ
namespace Go.Proofs.YtehkdjdflgknnaaGreatDoor
open Go.RowKit
set_option linter.unusedVariables false
set_option linter.unusedSimpArgs false

theorem refEntH_any (fold : Bool) (b off cap : Nat) (l : List EntD) (i : Nat) (e : EntD) (w : World) (hi : i < l.length) (hx : l[i] = e) (hl : l.length ≤ 2000000) (hs : ∀ o ∈ l, o.small) (hb : b < w.heap.size) (hc : EntsAt w b off l) :
    Calls Tryz.prog 59 #[.slice (some ⟨b, off, none⟩) l.length cap, .int .i64 i, .bool fold, .bool true] w fun r w' => r = .returned (.int .i64 (refErH fold l i e)) ∧ Below w.heap.size w w' := by
  by_cases hh : holdB e = true
  · by_cases h1 : pathL e.path.data.toList = true
    · by_cases h2 : fieldsB e = true
      · obtain ⟨f1, f2, f3⟩ := fieldsB_true e h2
        obtain ⟨p, d, q, z, md⟩ := e
        dsimp only at *
        rcases f3 with ⟨rfl, rfl, rfl⟩ | ⟨rfl, g1, g2, g3, g4⟩
        · cases i with
          | zero => exact refEntH_d0 fold b off cap l p md w hi hx hl hs hb hc h1 hh f1 f2
          | succ m => exact refEntH_d1 fold b off cap m l p md w hi _ rfl hx hl hs hb hc h1 hh f1 f2
        · cases i with
          | zero => exact refEntH_f0 fold b off cap l p q z md w hi hx hl hs hb hc h1 hh f1 f2 g1 g2 g3 g4
          | succ m => exact refEntH_f1 fold b off cap m l p q z md w hi _ rfl hx hl hs hb hc h1 hh f1 f2 g1 g2 g3 g4
      · exact refEntH_bad fold b off cap l i e w hi hx hl hs hb hc h1 hh (by simpa using h2)
    · simp only [Bool.not_eq_true] at h1
      have hh' : (pathL e.path.data.toList || (!e.dir && spareL e.path.data.toList)) = true := hh
      rw [h1, Bool.false_or, Bool.and_eq_true] at hh'
      obtain ⟨hd, hsp⟩ := hh'
      have hd : e.dir = false := by simpa using hd
      by_cases h2 : fieldsB e = true
      · obtain ⟨f1, f2, f3⟩ := fieldsB_true e h2
        obtain ⟨p, d, q, z, md⟩ := e
        dsimp only at *
        subst hd
        rcases f3 with ⟨h, _⟩ | ⟨_, g1, g2, g3, g4⟩
        · cases h
        · cases i with
          | zero => exact refEntS_f0 fold b off cap l p q z md w hi hx hl hs hb hc h1 hh hsp f1 f2 g1 g2 g3 g4
          | succ m => exact refEntS_f1 fold b off cap m l p q z md w hi _ rfl hx hl hs hb hc h1 hh hsp f1 f2 g1 g2 g3 g4
      · exact refEntS_bad fold b off cap l i e w hi hx hl hs hb hc h1 hh hsp hd (by simpa using h2)
  · obtain ⟨p, d, q, z, md⟩ := e
    exact refEntH_name fold b off cap l i p d q z md w hi hx hl hs hb hc (by simpa using hh)

def refGoH (fold : Bool) (l : List EntD) : List EntD → Nat → Int × Int
  | [], _ => (0, 0)
  | e :: t, i => if refErH fold l i e = 0 then refGoH fold l t (i + 1) else (refErH fold l i e, i)
def refPH (fold : Bool) (l : List EntD) : Int × Int := if 120 < l.length then (5, 0) else refGoH fold l l 0
theorem refGoH_at (fold : Bool) (l : List EntD) (k : Nat) (h : k < l.length) : refGoH fold l (l.drop k) k = if refErH fold l k l[k] = 0 then refGoH fold l (l.drop (k + 1)) (k + 1) else (refErH fold l k l[k], (k : Int)) := by
  rw [List.drop_eq_getElem_cons h, refGoH]

set_option maxHeartbeats 2000000 in
theorem refcheckH_any (fold : Bool) (b off cap : Nat) (l : List EntD) (w : World) (hl : l.length ≤ 2000000) (hs : ∀ o ∈ l, o.small) (hb : b < w.heap.size) (hc : EntsAt w b off l) :
    Calls Tryz.prog 38 #[.slice (some ⟨b, off, none⟩) l.length cap, .bool fold, .int .i64 120, .bool true] w fun e w' => e = .returned (.tuple #[.int .i64 (refPH fold l).1, .int .i64 (refPH fold l).2]) ∧ Below w.heap.size w w' := by
  by_cases h6 : (120 : Int) < l.length
  · have hv : refPH fold l = (5, 0) := by rw [refPH, if_pos (by omega)]
    rw [hv]
    go_enter Tryz.func38, Tryz.ntmps38
    go_wp2
    go_ret2
    exact ⟨rfl, Below.refl _ _⟩
  · have hv : refPH fold l = refGoH fold l l 0 := by rw [refPH, if_neg (by omega)]
    rw [hv]
    go_enter Tryz.func38, Tryz.ntmps38
    go_wp2
    go_loopw [10] (fun i wr => ∃ k : Nat, k ≤ l.length ∧ i = .int .i64 k ∧ refGoH fold l l 0 = refGoH fold l (l.drop k) k ∧ Below w.heap.size w wr) (fun i _ => l.length - (intOf i).toNat)
    case atStart => exact ⟨0, Nat.zero_le _, rfl, rfl, Below.refl _ _⟩
    case round =>
      obtain ⟨k, hk, rfl, hd, hbw⟩ := hrel
      have HD : Hid (refGoH fold l l 0 = refGoH fold l (l.drop k) k) := hd
      clear hd
      have hbs := hbw.size
      by_cases hlt : k < l.length
      · have HSN := refGoH_at fold l k hlt
        generalize hx : l[k] = o at *
        have HS : Hid (refGoH fold l (l.drop k) k = if refErH fold l k o = 0 then refGoH fold l (l.drop (k + 1)) (k + 1) else (refErH fold l k o, (k : Int))) := HSN
        clear HSN
        by_cases he : refErH fold l k o = 0
        · go_wp2_with (go_at_call 59; refine (refEntH_any fold b off cap l k o _ hlt hx hl hs (by omega) (hc.below hbw hb)).mono ?_; rintro e w2 ⟨rfl, hb2⟩; rw [he])
          exact ⟨⟨k + 1, by omega, by go_num, by rw [HD.out, HS.out, if_pos he], hbw.trans (hb2.mono hbs)⟩, by simp [intOf]; omega⟩
        · have he' : (refErH fold l k o != 0) = true := by simpa using he
          go_wp2_with (go_at_call 59; refine (refEntH_any fold b off cap l k o _ hlt hx hl hs (by omega) (hc.below hbw hb)).mono ?_; rintro e w2 ⟨rfl, hb2⟩)
          go_ret2
          refine ⟨?_, hbw.trans (hb2.mono hbs)⟩
          rw [HD.out, HS.out, if_neg he]; rfl
      · go_wp2
        go_ret2
        refine ⟨?_, hbw⟩
        rw [HD.out, List.drop_of_length_le (by omega), refGoH]; rfl

set_option maxHeartbeats 1000000 in
theorem refcheckH_nil (fold : Bool) (w : World) :
    Calls Tryz.prog 38 #[.slice none 0 0, .bool fold, .int .i64 120, .bool true] w fun e w' => e = .returned (.tuple #[.int .i64 0, .int .i64 0]) ∧ w' = w := by
  go_enter Tryz.func38, Tryz.ntmps38
  go_wp2
  refine wp_loop_rounds 1 ?_
  rw [rounds_succ]
  go_wp2
  go_ret2
  exact ⟨rfl, rfl⟩

theorem refGoH_zero (fold : Bool) (l : List EntD) : ∀ (t : List EntD) (i : Nat), ((refGoH fold l t i).1 = 0 ↔ ∀ (k : Nat) (h : k < t.length), refErH fold l (i + k) t[k] = 0) := by
  intro t
  induction t with
  | nil => intro i; simp [refGoH]
  | cons e t ih =>
    intro i
    rw [refGoH]
    split
    · next h0 =>
      rw [ih]
      constructor
      · intro h k hk
        cases k with
        | zero => exact h0
        | succ k => have := h k (by simpa using hk); rw [show i + (k + 1) = i + 1 + k by omega]; exact this
      · intro h k hk
        have := h (k + 1) (by simpa using hk)
        rw [show i + 1 + k = i + (k + 1) by omega]; exact this
    · next h0 =>
      constructor
      · intro h; exact absurd h h0
      · intro h; exact absurd (h 0 (by simp)) h0


theorem refPH_held (fold : Bool) (l : List EntD) : ((refPH fold l).1 == 0) = heldF fold l := by
  rw [Bool.eq_iff_iff, beq_iff_eq, held_iff]
  unfold refPH
  by_cases h6 : 120 < l.length
  · rw [if_pos h6]
    exact ⟨fun h => absurd h (by decide), fun h => by omega⟩
  · rw [if_neg h6, refGoH_zero]
    simp only [Nat.zero_add]
    exact ⟨fun h => ⟨by omega, fun k hk => (refErH_zero _ _ _ _).1 (h k hk)⟩, fun h k hk => (refErH_zero _ _ _ _).2 (h.2 k hk)⟩
theorem refHeldF {w : World} {v : Value} {L : List EntD} (fold : Bool) (hr : RowAt w v L) (hs : SmallL L) :
    Calls Tryz.prog 38 #[v, .bool fold, .int .i64 120, .bool true] w fun e w' => ∃ c k : Int, e = .returned (.tuple #[.int .i64 c, .int .i64 k]) ∧ (c == 0) = heldF fold L ∧ Below w.heap.size w w' := by
  cases hr with
  | nil => exact (refcheckH_nil fold w).mono (by rintro e w' ⟨rfl, rfl⟩; exact ⟨_, _, rfl, rfl, Below.refl _ _⟩)
  | row b off cap l hlb hc hm h => exact (refcheckH_any fold b off cap L w hs.1 hs.2 hlb h).mono (by rintro e w' ⟨rfl, hb⟩; exact ⟨_, _, rfl, refPH_held _ _, hb⟩)
end Go.Proofs.YtehkdjdflgknnaaGreatDoor
