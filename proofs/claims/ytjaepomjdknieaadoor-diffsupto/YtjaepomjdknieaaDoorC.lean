/- Spare names: the program's and the reference's tests. -/
import Derived.Test.YtjaepomjdknieaaDoorA
namespace Go.Proofs.YtjaepomjdknieaaDoor
open Go.RowKit

def tailDigits (l : List UInt8) : Bool := (l.drop 1).all fun c => digitB (c.toNat : Int)
def spareL (l : List UInt8) : Bool := decide (2 ≤ l.length) && decide (l.length ≤ 8) && (l.head? == some 126) && tailDigits l

theorem take_snoc' (s : ByteArray) (k : Nat) (h : k < s.size) : s.data.toList.take (k + 1) = s.data.toList.take k ++ [s[k]] := by
  rw [List.take_succ_eq_append_getElem (by simpa using h)]; rfl
theorem tail_snoc (s : ByteArray) (k : Nat) (h0 : 1 ≤ k) (h : k < s.size) : tailDigits (s.data.toList.take (k + 1)) = (tailDigits (s.data.toList.take k) && digitB (s[k].toNat : Int)) := by
  rw [take_snoc' s k h]
  unfold tailDigits
  have hl : s.data.toList.length = s.size := by rw [Array.length_toList]; rfl
  rw [List.drop_append_of_le_length (by rw [List.length_take]; omega)]
  simp
theorem tail_bad (s : ByteArray) (k : Nat) (h0 : 1 ≤ k) (h : k < s.size) (hb : digitB (s[k].toNat : Int) = false) : tailDigits s.data.toList = false := by
  have hl : s.data.toList.length = s.size := by rw [Array.length_toList]; rfl
  have e : s.data.toList = s.data.toList.take (k + 1) ++ s.data.toList.drop (k + 1) := (List.take_append_drop _ _).symm
  have h2 := tail_snoc s k h0 h
  rw [e]; unfold tailDigits at *
  rw [List.drop_append_of_le_length (by rw [List.length_take]; omega), List.all_append, h2, hb]; simp
theorem head_byte (s : ByteArray) (h : 0 < s.size) : (s.data.toList.head? == some 126) = decide ((s[0].toNat : Int) = 126) := by
  obtain ⟨⟨l⟩⟩ := s
  cases l with
  | nil => exact absurd h (by decide)
  | cons c l =>
    rw [Bool.eq_iff_iff]
    show (some c == some 126) = true ↔ decide ((c.toNat : Int) = 126) = true
    simp
    constructor
    · rintro rfl; rfl
    · intro h; exact UInt8.toNat_inj.1 (by show c.toNat = 126; omega)
theorem size_len (s : ByteArray) : s.data.toList.length = s.size := by rw [Array.length_toList]; rfl

set_option maxHeartbeats 1000000 in
theorem isSpare_any (s : ByteArray) (w : World) (hs : s.size ≤ 2000000) :
    Calls Tryd.prog 138 #[.string s] w fun e w' => e = .returned (.bool (spareL s.data.toList)) ∧ w' = w := by
  by_cases h1 : 2 ≤ (s.size : Int)
  · by_cases h2 : (s.size : Int) ≤ 8
    · have h0 : 0 < s.size := by omega
      have HB : Hid ((s.data.toList.head? == some 126) = decide ((s[0].toNat : Int) = 126)) := head_byte s h0
      by_cases h3 : ((s[0].toNat : Int) != 126) = false
      · have H3 : Hid ((s[0].toNat : Int) = 126) := (show (s[0].toNat : Int) = 126 from by simpa using h3)
        go_enter Tryd.func138, Tryd.ntmps138
        go_wp2
        go_loop [3] (fun i => ∃ k : Nat, 1 ≤ k ∧ k ≤ s.size ∧ i = .int .i64 k ∧ tailDigits (s.data.toList.take k) = true) (fun i => s.size - (intOf i).toNat)
        case atStart => exact ⟨1, by omega, by omega, rfl, by simp [tailDigits]⟩
        case round =>
          obtain ⟨k, hk1, hk, rfl, hd⟩ := hrel
          have HD : Hid (tailDigits (s.data.toList.take k) = true) := hd
          clear hd
          by_cases hlt : k < s.size
          · by_cases hb : digitB (s[k].toNat : Int) = true
            · go_wp2_with (go_at_call 137; refine (isDigit_any _ _).mono ?_; rintro e w' ⟨rfl, rfl⟩)
              go_round
              case rel => exact ⟨k + 1, by omega, by omega, by go_num, by rw [tail_snoc s k hk1 hlt, HD.out, hb]; rfl⟩
              case measure => simp [intOf]; omega
            · simp only [Bool.not_eq_true] at hb
              go_wp2_with (go_at_call 137; refine (isDigit_any _ _).mono ?_; rintro e w' ⟨rfl, rfl⟩)
              go_ret
              exact ⟨ret_bool (by simp [spareL, tail_bad s k hk1 hlt hb]), rfl⟩
          · go_wp2
            go_ret
            refine ⟨ret_bool ?_, rfl⟩
            have h := HD.out
            rw [List.take_of_length_le (by simp; omega)] at h
            have hl := size_len s
            have hb := HB.out
            rw [H3.out] at hb
            rw [spareL, h, hb, hl]
            simp; omega
      · have h3' : ((s[0].toNat : Int) != 126) = true := by simpa using h3
        have H3 : Hid (¬ (s[0].toNat : Int) = 126) := (show ¬ (s[0].toNat : Int) = 126 from by simpa using h3)
        clear h3
        go_enter Tryd.func138, Tryd.ntmps138
        go_wp2
        go_ret
        refine ⟨ret_bool ?_, rfl⟩
        have hb := HB.out
        rw [decide_eq_false H3.out] at hb
        simp [spareL, hb]
    · go_enter Tryd.func138, Tryd.ntmps138
      go_wp2
      go_ret
      exact ⟨ret_bool (by have hl := size_len s; simp [spareL]; omega), rfl⟩
  · go_enter Tryd.func138, Tryd.ntmps138
    go_wp2
    go_ret
    exact ⟨ret_bool (by have hl := size_len s; simp [spareL]; omega), rfl⟩

theorem spare_tail (s : ByteArray) (h : tailDigits s.data.toList = true) (h1 : 2 ≤ (s.size : Int)) (h2 : (s.size : Int) ≤ 8) (h0 : 0 < s.size) : ((s[0].toNat : Int) == 126) = spareL s.data.toList := by
  have hl := size_len s
  have hb := head_byte s h0
  have a1 : decide (2 ≤ s.size) = true := by simp; omega
  have a2 : decide (s.size ≤ 8) = true := by simp; omega
  rw [spareL, h, hb, hl, a1, a2]
  rw [Bool.eq_iff_iff]; simp

set_option maxHeartbeats 1000000 in
theorem refSpare_any (s : ByteArray) (w : World) (hs : s.size ≤ 2000000) :
    Calls Tryd.prog 74 #[.string s] w fun e w' => e = .returned (.bool (spareL s.data.toList)) ∧ w' = w := by
  by_cases hz : s.size = 0
  · have hf : spareL s.data.toList = false := by have hl := size_len s; simp [spareL]; omega
    have HF : Hid (spareL s.data.toList = false) := hf
    clear hf
    have hz' : (s.size : Int) < 1 := by omega
    clear hz
    go_enter Tryd.func74, Tryd.ntmps74
    go_wp2
    go_loop [3] (fun i => i = .int .i64 1) (fun _ => 0)
    case atStart => rfl
    case round =>
      subst hrel
      go_wp2
      go_ret
      exact ⟨ret_bool HF.out.symm, rfl⟩
  · have h0 : 0 < s.size := by omega
    clear hz
    go_enter Tryd.func74, Tryd.ntmps74
    go_wp2
    go_loop [3] (fun i => ∃ k : Nat, 1 ≤ k ∧ k ≤ s.size ∧ i = .int .i64 k ∧ tailDigits (s.data.toList.take k) = true) (fun i => s.size - (intOf i).toNat)
    case atStart => exact ⟨1, by omega, by omega, rfl, by simp [tailDigits]⟩
    case round =>
      obtain ⟨k, hk1, hk, rfl, hd⟩ := hrel
      have HD : Hid (tailDigits (s.data.toList.take k) = true) := hd
      clear hd
      by_cases hlt : k < s.size
      · have BAD : Hid (digitB (s[k].toNat : Int) = false → tailDigits s.data.toList = false) := fun h => tail_bad s k hk1 hlt h
        go_wp2
        all_goals first
          | (refine ⟨⟨k + 1, by omega, by omega, by go_num, ?_⟩, by simp [intOf]; omega⟩
             rw [tail_snoc s k hk1 hlt, HD.out]
             simp [digitB] at *
             omega)
          | (go_ret
             refine ⟨ret_bool ?_, rfl⟩
             have hb : digitB (s[k].toNat : Int) = false := by
               simp [digitB] at *
               omega
             simp [spareL, BAD.out hb])
      · have h := HD.out
        rw [List.take_of_length_le (by simp; omega)] at h
        have HN : Hid (tailDigits s.data.toList = true) := h
        clear h
        go_wp2
        all_goals
          go_ret
          refine ⟨ret_bool ?_, rfl⟩
          have h := HN.out
          have hl := size_len s
          first | exact spare_tail s h (by omega) (by omega) h0 | (simp [spareL, hl]; omega)
end Go.Proofs.YtjaepomjdknieaaDoor
