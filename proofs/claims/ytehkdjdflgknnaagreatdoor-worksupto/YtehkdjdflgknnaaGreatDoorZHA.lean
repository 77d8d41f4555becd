/- The program's Check of what a volume holds. -/
import Derived.Test.YtehkdjdflgknnaaGreatDoorY17
import Derived.Test.YtehkdjdflgknnaaGreatDoorY10
namespace Go.Proofs.YtehkdjdflgknnaaGreatDoor
open Go.RowKit
set_option linter.unusedVariables false
set_option linter.unusedSimpArgs false

theorem entErrF_any (fold : Bool) (b off cap : Nat) (l : List EntD) (i : Nat) (e : EntD) (w : World) (hi : i < l.length) (hx : l[i] = e) (hl : l.length ≤ 2000000) (hcap : l.length ≤ cap) (hs : ∀ o ∈ l, o.small) (hb : b < w.heap.size) (hc : EntsAt w b off l) :
    Calls Tryz.prog 94 #[.slice (some ⟨b, off, none⟩) l.length cap, .int .i64 i, .bool fold] w fun r w' => r = .returned (.int .i64 (entErr l i e fold)) ∧ Below w.heap.size w w' := by
  cases fold
  · exact entryError_any b off cap l i e w hi hx hl hcap hs hb hc
  · exact entErrT_any b off cap l i e w hi hx hl hcap hs hb hc

def chkAtH (fold : Bool) (l : List EntD) (i : Nat) (e : EntD) : Int := if holdB e = false then 1 else entErr l i e fold
def chkGoH (fold : Bool) (l : List EntD) : List EntD → Nat → Int × Int
  | [], _ => (0, 0)
  | e :: t, i => if chkAtH fold l i e = 0 then chkGoH fold l t (i + 1) else (chkAtH fold l i e, i)
def chkPH (fold : Bool) (l : List EntD) : Int × Int := if 120 < l.length then (5, 0) else chkGoH fold l l 0
theorem chkGoH_at (fold : Bool) (l : List EntD) (k : Nat) (h : k < l.length) : chkGoH fold l (l.drop k) k = if chkAtH fold l k l[k] = 0 then chkGoH fold l (l.drop (k + 1)) (k + 1) else (chkAtH fold l k l[k], (k : Int)) := by
  rw [List.drop_eq_getElem_cons h, chkGoH]

set_option maxHeartbeats 2000000 in
theorem checkH_any (fold : Bool) (b off cap : Nat) (l : List EntD) (w : World) (hl : l.length ≤ 2000000) (hcap : l.length ≤ cap) (hs : ∀ o ∈ l, o.small) (hb : b < w.heap.size) (hc : EntsAt w b off l) :
    Calls Tryz.prog 68 #[.slice (some ⟨b, off, none⟩) l.length cap, .bool fold, .int .i64 120, .func (.func 77) #[] #[]] w fun e w' => e = .returned (.tuple #[.int .i64 (chkPH fold l).1, .int .i64 (chkPH fold l).2]) ∧ Below w.heap.size w w' := by
  by_cases h6 : (120 : Int) < l.length
  · have hv : chkPH fold l = (5, 0) := by rw [chkPH, if_pos (by omega)]
    rw [hv]
    go_enter Tryz.func68, Tryz.ntmps68
    go_wp2
    go_ret2
    exact ⟨rfl, Below.refl _ _⟩
  · have hv : chkPH fold l = chkGoH fold l l 0 := by rw [chkPH, if_neg (by omega)]
    rw [hv]
    go_enter Tryz.func68, Tryz.ntmps68
    go_wp2
    go_loopw [18] (fun i wr => ∃ k : Nat, k ≤ l.length ∧ i = .int .i64 k ∧ chkGoH fold l l 0 = chkGoH fold l (l.drop k) k ∧ Below w.heap.size w wr) (fun i _ => l.length - (intOf i).toNat)
    case atStart => exact ⟨0, Nat.zero_le _, rfl, rfl, Below.refl _ _⟩
    case round =>
      obtain ⟨k, hk, rfl, hd, hbw⟩ := hrel
      have HD : Hid (chkGoH fold l l 0 = chkGoH fold l (l.drop k) k) := hd
      clear hd
      have hbs := hbw.size
      by_cases hlt : k < l.length
      · have HSN := chkGoH_at fold l k hlt
        have hcw := (hc.below hbw hb) k hlt
        have hsm := hs _ (List.getElem_mem hlt)
        generalize hx : l[k] = o at *
        have HS : Hid (chkGoH fold l (l.drop k) k = if chkAtH fold l k o = 0 then chkGoH fold l (l.drop (k + 1)) (k + 1) else (chkAtH fold l k o, (k : Int))) := HSN
        clear HSN
        have c0 := hcw 0 _ rfl
        have c1 := hcw 1 _ rfl
        have c2 := hcw 2 _ rfl
        have c3 := hcw 3 _ rfl
        have c4 := hcw 4 _ rfl
        simp only [Nat.add_zero] at c0
        clear hcw
        by_cases hn : holdB o = true
        · have hA : chkAtH fold l k o = entErr l k o fold := by rw [chkAtH, hn, if_neg (by simp)]
          by_cases he : entErr l k o fold = 0
          · go_wp2_with (first | (go_at_call 77; refine (mayHold_any o _ hsm).mono ?_; rintro e w1 ⟨rfl, hb1⟩; rw [hn]) | (go_at_call 94; refine (entErrF_any fold b off cap l k o _ hlt hx hl hcap hs (by have := hb1.size; omega) (hc.below (hbw.trans (hb1.mono hbs)) hb)).mono ?_; rintro e w2 ⟨rfl, hb2⟩; rw [he]))
            have hb3 := (hbw.trans (hb1.mono hbs)).trans (hb2.mono (by have := hb1.size; omega))
            exact ⟨⟨k + 1, by omega, by go_num, by rw [HD.out, HS.out, hA, if_pos he], hb3⟩, by simp [intOf]; omega⟩
          · have he' : (entErr l k o fold != 0) = true := by simpa using he
            go_wp2_with (first | (go_at_call 77; refine (mayHold_any o _ hsm).mono ?_; rintro e w1 ⟨rfl, hb1⟩; rw [hn]) | (go_at_call 94; refine (entErrF_any fold b off cap l k o _ hlt hx hl hcap hs (by have := hb1.size; omega) (hc.below (hbw.trans (hb1.mono hbs)) hb)).mono ?_; rintro e w2 ⟨rfl, hb2⟩))
            go_ret2
            have hb3 := (hbw.trans (hb1.mono hbs)).trans (hb2.mono (by have := hb1.size; omega))
            refine ⟨?_, hb3⟩
            rw [HD.out, HS.out, hA, if_neg he]; rfl
        · simp only [Bool.not_eq_true] at hn
          have hA : chkAtH fold l k o = 1 := by rw [chkAtH, if_pos hn]
          go_wp2_with (go_at_call 77; refine (mayHold_any o _ hsm).mono ?_; rintro e w1 ⟨rfl, hb1⟩; rw [hn])
          go_ret2
          refine ⟨?_, hbw.trans (hb1.mono hbs)⟩
          rw [HD.out, HS.out, hA, if_neg (by omega)]; rfl
      · go_wp2
        go_ret2
        refine ⟨?_, hbw⟩
        rw [HD.out, List.drop_of_length_le (by omega), chkGoH]; rfl

set_option maxHeartbeats 1000000 in
theorem checkH_nil (fold : Bool) (w : World) :
    Calls Tryz.prog 68 #[.slice none 0 0, .bool fold, .int .i64 120, .func (.func 77) #[] #[]] w fun e w' => e = .returned (.tuple #[.int .i64 0, .int .i64 0]) ∧ w' = w := by
  go_enter Tryz.func68, Tryz.ntmps68
  go_wp2
  refine wp_loop_rounds 1 ?_
  rw [rounds_succ]
  go_wp2
  go_ret2
  exact ⟨rfl, rfl⟩

/-- May a volume hold it? -/
def heldF (fold : Bool) (l : List EntD) : Bool := (chkPH fold l).1 == 0
set_option maxHeartbeats 1000000 in
theorem checkHeld_of {w : World} {v : Value} {fold : Bool} {c k : Int} (H : Calls Tryz.prog 68 #[v, .bool fold, .int .i64 120, .func (.func 77) #[] #[]] w fun e w' => e = .returned (.tuple #[.int .i64 c, .int .i64 k]) ∧ Below w.heap.size w w') :
    Calls Tryz.prog 56 #[v, .bool fold] w fun e w' => e = .returned (.tuple #[.int .i64 c, .int .i64 k]) ∧ Below w.heap.size w w' := by
  have HH := hidD H
  clear H
  go_enter Tryz.func56, Tryz.ntmps56
  go_wp2_with (go_at_call 68; refine HH.out.mono ?_; rintro e w1 ⟨rfl, hb1⟩)
  go_ret2
  exact ⟨rfl, hb1⟩
theorem checkHeldF {w : World} {v : Value} {L : List EntD} (fold : Bool) (hr : RowAt w v L) (hs : SmallL L) :
    Calls Tryz.prog 56 #[v, .bool fold] w fun e w' => ∃ c k : Int, e = .returned (.tuple #[.int .i64 c, .int .i64 k]) ∧ (c == 0) = heldF fold L ∧ Below w.heap.size w w' := by
  cases hr with
  | nil => exact (checkHeld_of ((checkH_nil fold w).mono (by rintro e w' ⟨rfl, rfl⟩; exact ⟨rfl, Below.refl _ _⟩))).mono (by rintro e w' ⟨rfl, hb⟩; exact ⟨_, _, rfl, rfl, hb⟩)
  | row b off cap l hlb hc hm h => exact (checkHeld_of (checkH_any fold b off cap L w hs.1 hc hs.2 hlb h)).mono (by rintro e w' ⟨rfl, hb⟩; exact ⟨_, _, rfl, rfl, hb⟩)
end Go.Proofs.YtehkdjdflgknnaaGreatDoor
