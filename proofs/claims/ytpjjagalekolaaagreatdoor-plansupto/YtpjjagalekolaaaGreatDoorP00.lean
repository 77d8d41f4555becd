/- A, B, C: in one text. -/
import Derived.Test.YtpjjagalekolaaaGreatDoorChecked
import Derived.WalkKit
import Derived.WalkLawsBesides
import Derived.WalkSpells
/- Leaves: bytes of names, digits, ranges of numbers. -/
namespace Go.Proofs.YtpjjagalekolaaaGreatDoor
open Go.RowKit

def digitB (c : Int) : Bool := decide (48 ≤ c) && decide (c ≤ 57)
def nameB (c : Int) : Bool := decide (97 ≤ c) && decide (c ≤ 122) || decide (65 ≤ c) && decide (c ≤ 90) || digitB c || decide (c = 46) || decide (c = 95) || decide (c = 45)
def withinB (n lo hi : Int) : Bool := decide (lo ≤ n) && decide (n ≤ hi)

theorem ret_bool {a b : Bool} (h : a = b) : Ending.returned (.bool a) = .returned (.bool b) := by rw [h]

set_option maxHeartbeats 400000 in
theorem isDigit_any (c : Int) (w : World) :
    Calls Tryz.prog 193 #[.int .u8 c] w fun e w' => e = .returned (.bool (digitB c)) ∧ w' = w := by
  by_cases h1 : 48 ≤ c <;> by_cases h2 : c ≤ 57
  all_goals
    go_enter Tryz.func193, Tryz.ntmps193
    go_wp2
    go_ret
    exact ⟨ret_bool (by simp [digitB, h1, h2]), rfl⟩

set_option maxHeartbeats 400000 in
theorem refWithin_any (n lo hi : Int) (w : World) :
    Calls Tryz.prog 108 #[.int .i64 n, .int .i64 lo, .int .i64 hi] w fun e w' => e = .returned (.bool (withinB n lo hi)) ∧ w' = w := by
  by_cases h1 : lo ≤ n <;> by_cases h2 : n ≤ hi
  all_goals
    go_enter Tryz.func108, Tryz.ntmps108
    go_wp2
    go_ret
    exact ⟨ret_bool (by simp [withinB, h1, h2]), rfl⟩

def fitsB (n : Int) (need : Bool) (lo hi : Int) : Bool := if need then withinB n lo hi else decide (n = 0)
set_option maxHeartbeats 1000000 in
theorem isNameByte_any (c : Int) (w : World) :
    Calls Tryz.prog 206 #[.int .u8 c] w fun e w' => e = .returned (.bool (nameB c)) ∧ w' = w := by
  go_enter Tryz.func206, Tryz.ntmps206
  go_wp2_with (go_at_call 193; refine (isDigit_any _ _).mono ?_; rintro e w' ⟨rfl, rfl⟩)
  all_goals
    go_ret
    refine ⟨ret_bool ?_, rfl⟩
    rw [Bool.eq_iff_iff]
    simp [nameB, digitB] at *
    try omega
end Go.Proofs.YtpjjagalekolaaaGreatDoor

/- Names: the program's and the reference's tests of one name. -/
namespace Go.Proofs.YtpjjagalekolaaaGreatDoor
open Go.RowKit

def nameBytes (l : List UInt8) : Bool := l.all fun c => nameB (c.toNat : Int)
def isNm (s : ByteArray) : Bool := decide (1 ≤ s.size) && decide (s.size ≤ 8) && !(s.toList == [46]) && !(s.toList == [46, 46]) && nameBytes s.data.toList

theorem take_snoc (s : ByteArray) (k : Nat) (h : k < s.size) : s.data.toList.take (k + 1) = s.data.toList.take k ++ [s[k]] := by
  rw [List.take_succ_eq_append_getElem (by simpa using h)]; rfl
theorem nameBytes_snoc (s : ByteArray) (k : Nat) (h : k < s.size) : nameBytes (s.data.toList.take (k + 1)) = (nameBytes (s.data.toList.take k) && nameB (s[k].toNat : Int)) := by
  rw [take_snoc s k h]; simp [nameBytes]
theorem nameBytes_bad (s : ByteArray) (k : Nat) (h : k < s.size) (hb : nameB (s[k].toNat : Int) = false) : nameBytes s.data.toList = false := by
  have e : s.data.toList = s.data.toList.take (k + 1) ++ s.data.toList.drop (k + 1) := (List.take_append_drop _ _).symm
  have h2 := nameBytes_snoc s k h
  rw [e]; unfold nameBytes at *; rw [List.all_append, h2, hb]; simp

set_option maxHeartbeats 400000 in
theorem isName_any (s : ByteArray) (w : World) (hs : s.size ≤ 2000000) :
    Calls Tryz.prog 180 #[.string s] w fun e w' => e = .returned (.bool (isNm s)) ∧ w' = w := by
  by_cases hg : (1 ≤ (s.size : Int) ∧ (s.size : Int) ≤ 8) ∧ (s.toList == [46]) = false ∧ (s.toList == [46, 46]) = false
  · obtain ⟨⟨h1, h2⟩, h3, h4⟩ := hg
    go_enter Tryz.func180, Tryz.ntmps180
    go_wp2
    go_loop [22] (fun i => ∃ k : Nat, k ≤ s.size ∧ i = .int .i64 k ∧ nameBytes (s.data.toList.take k) = true) (fun i => s.size - (intOf i).toNat)
    case atStart => exact ⟨0, Nat.zero_le _, rfl, rfl⟩
    case round =>
      obtain ⟨k, hk, rfl, hd⟩ := hrel
      have HD : Hid (nameBytes (s.data.toList.take k) = true) := hd
      clear hd
      by_cases hlt : k < s.size
      · by_cases hb : nameB (s[k].toNat : Int) = true
        · go_wp2_with (go_at_call 206; refine (isNameByte_any _ _).mono ?_; rintro e w' ⟨rfl, rfl⟩)
          go_round
          case rel => exact ⟨k + 1, by omega, by go_num, by rw [nameBytes_snoc s k hlt, HD.out, hb]; rfl⟩
          case measure => simp [intOf]; omega
        · simp only [Bool.not_eq_true] at hb
          go_wp2_with (go_at_call 206; refine (isNameByte_any _ _).mono ?_; rintro e w' ⟨rfl, rfl⟩)
          go_ret
          exact ⟨ret_bool (by simp [isNm, nameBytes_bad s k hlt hb]), rfl⟩
      · go_wp2
        go_ret
        refine ⟨ret_bool ?_, rfl⟩
        have h := HD.out
        rw [List.take_of_length_le (by simp; omega)] at h
        simp [isNm, h, h3, h4]; omega
  · have hf : isNm s = false := by
      cases h : isNm s
      · rfl
      · exfalso; apply hg; simp [isNm] at h; simp; exact ⟨⟨by omega, by omega⟩, h.1.1.2, h.1.2⟩
    have HF : Hid (isNm s = false) := hf
    clear hf
    by_cases h1 : 1 ≤ (s.size : Int)
    · by_cases h2 : (s.size : Int) ≤ 8
      · by_cases h3 : (s.toList == [46]) = false
        · have h4 : (s.toList == [46, 46]) = true := by
            by_cases h4 : (s.toList == [46, 46]) = false
            · exact absurd ⟨⟨h1, h2⟩, h3, h4⟩ hg
            · simpa using h4
          clear hg
          go_enter Tryz.func180, Tryz.ntmps180
          go_wp2
          go_ret
          exact ⟨ret_bool HF.out.symm, rfl⟩
        · clear hg
          simp only [Bool.not_eq_false] at h3
          go_enter Tryz.func180, Tryz.ntmps180
          go_wp2
          go_ret
          exact ⟨ret_bool HF.out.symm, rfl⟩
      · clear hg
        go_enter Tryz.func180, Tryz.ntmps180
        go_wp2
        go_ret
        exact ⟨ret_bool HF.out.symm, rfl⟩
    · clear hg
      go_enter Tryz.func180, Tryz.ntmps180
      go_wp2
      go_ret
      exact ⟨ret_bool HF.out.symm, rfl⟩

/-! The reference's. -/
theorem isNm_tail (s : ByteArray) (h : nameBytes s.data.toList = true) (h1 : 1 ≤ s.size) (h2 : (s.size : Int) ≤ 8) : (!s.toList == [46] && !s.toList == [46, 46]) = isNm s := by
  have a1 : decide (1 ≤ s.size) = true := by simpa using h1
  have a2 : decide (s.size ≤ 8) = true := by simp; omega
  simp [isNm, h, a1, a2]
set_option maxHeartbeats 1000000 in
theorem refName_any (s : ByteArray) (w : World) (hs : s.size ≤ 2000000) :
    Calls Tryz.prog 159 #[.string s] w fun e w' => e = .returned (.bool (isNm s)) ∧ w' = w := by
  go_enter Tryz.func159, Tryz.ntmps159
  go_wp2
  go_loop [3] (fun i => ∃ k : Nat, k ≤ s.size ∧ i = .int .i64 k ∧ nameBytes (s.data.toList.take k) = true) (fun i => s.size - (intOf i).toNat)
  case atStart => exact ⟨0, Nat.zero_le _, rfl, rfl⟩
  case round =>
    obtain ⟨k, hk, rfl, hd⟩ := hrel
    have HD : Hid (nameBytes (s.data.toList.take k) = true) := hd
    clear hd
    by_cases hlt : k < s.size
    · have bad := fun h => nameBytes_bad s k hlt h
      have BAD : Hid (nameB (s[k].toNat : Int) = false → nameBytes s.data.toList = false) := bad
      clear bad
      go_wp2
      all_goals first
        | (refine ⟨⟨k + 1, by omega, by go_num, ?_⟩, by simp [intOf]; omega⟩
           rw [nameBytes_snoc s k hlt, HD.out]
           simp [nameB, digitB] at *
           omega)
        | (go_ret
           refine ⟨ret_bool ?_, rfl⟩
           have hb : nameB (s[k].toNat : Int) = false := by
             simp [nameB, digitB] at *
             omega
           simp [isNm, BAD.out hb])
    · have h := HD.out
      rw [List.take_of_length_le (by simp; omega)] at h
      have HN : Hid (nameBytes s.data.toList = true) := h
      clear h
      go_wp2
      all_goals
        go_ret
        refine ⟨ret_bool ?_, rfl⟩
        have h := HN.out
        first | exact isNm_tail s h (by omega) (by omega) | (simp [isNm, *]; done) | (simp [isNm]; omega)
end Go.Proofs.YtpjjagalekolaaaGreatDoor

/- Spare names: the program's and the reference's tests. -/
namespace Go.Proofs.YtpjjagalekolaaaGreatDoor
open Go.RowKit

def tailDigits (l : List UInt8) : Bool := (l.drop 1).all fun c => digitB (c.toNat : Int)
def spareL (l : List UInt8) : Bool := decide (2 ≤ l.length) && decide (l.length ≤ 8) && (l.head? == some 126) && tailDigits l

theorem take_snoc' (s : ByteArray) (k : Nat) (h : k < s.size) : s.data.toList.take (k + 1) = s.data.toList.take k ++ [s[k]] := by
  rw [List.take_succ_eq_append_getElem (by simpa using h)]; rfl
theorem tail_snoc (s : ByteArray) (k : Nat) (h0 : 1 ≤ k) (h : k < s.size) : tailDigits (s.data.toList.take (k + 1)) = (tailDigits (s.data.toList.take k) && digitB (s[k].toNat : Int)) := by
  rw [take_snoc' s k h]
  unfold tailDigits
  have hl : s.data.toList.length = s.size := by rw [Array.length_toList]; rfl
  rw [List.drop_append_of_le_length (by rw [List.length_take]; omega)]
  simp
theorem tail_bad (s : ByteArray) (k : Nat) (h0 : 1 ≤ k) (h : k < s.size) (hb : digitB (s[k].toNat : Int) = false) : tailDigits s.data.toList = false := by
  have hl : s.data.toList.length = s.size := by rw [Array.length_toList]; rfl
  have e : s.data.toList = s.data.toList.take (k + 1) ++ s.data.toList.drop (k + 1) := (List.take_append_drop _ _).symm
  have h2 := tail_snoc s k h0 h
  rw [e]; unfold tailDigits at *
  rw [List.drop_append_of_le_length (by rw [List.length_take]; omega), List.all_append, h2, hb]; simp
theorem head_byte (s : ByteArray) (h : 0 < s.size) : (s.data.toList.head? == some 126) = decide ((s[0].toNat : Int) = 126) := by
  obtain ⟨⟨l⟩⟩ := s
  cases l with
  | nil => exact absurd h (by decide)
  | cons c l =>
    rw [Bool.eq_iff_iff]
    show (some c == some 126) = true ↔ decide ((c.toNat : Int) = 126) = true
    simp
    constructor
    · rintro rfl; rfl
    · intro h; exact UInt8.toNat_inj.1 (by show c.toNat = 126; omega)
theorem size_len (s : ByteArray) : s.data.toList.length = s.size := by rw [Array.length_toList]; rfl

theorem spare_tail (s : ByteArray) (h : tailDigits s.data.toList = true) (h1 : 2 ≤ (s.size : Int)) (h2 : (s.size : Int) ≤ 8) (h0 : 0 < s.size) : ((s[0].toNat : Int) == 126) = spareL s.data.toList := by
  have hl := size_len s
  have hb := head_byte s h0
  have a1 : decide (2 ≤ s.size) = true := by simp; omega
  have a2 : decide (s.size ≤ 8) = true := by simp; omega
  rw [spareL, h, hb, hl, a1, a2]
  rw [Bool.eq_iff_iff]; simp

set_option maxHeartbeats 1000000 in
theorem refSpare_any (s : ByteArray) (w : World) (hs : s.size ≤ 2000000) :
    Calls Tryz.prog 113 #[.string s] w fun e w' => e = .returned (.bool (spareL s.data.toList)) ∧ w' = w := by
  by_cases hz : s.size = 0
  · have hf : spareL s.data.toList = false := by have hl := size_len s; simp [spareL]; omega
    have HF : Hid (spareL s.data.toList = false) := hf
    clear hf
    have hz' : (s.size : Int) < 1 := by omega
    clear hz
    go_enter Tryz.func113, Tryz.ntmps113
    go_wp2
    go_loop [3] (fun i => i = .int .i64 1) (fun _ => 0)
    case atStart => rfl
    case round =>
      subst hrel
      go_wp2
      go_ret
      exact ⟨ret_bool HF.out.symm, rfl⟩
  · have h0 : 0 < s.size := by omega
    clear hz
    go_enter Tryz.func113, Tryz.ntmps113
    go_wp2
    go_loop [3] (fun i => ∃ k : Nat, 1 ≤ k ∧ k ≤ s.size ∧ i = .int .i64 k ∧ tailDigits (s.data.toList.take k) = true) (fun i => s.size - (intOf i).toNat)
    case atStart => exact ⟨1, by omega, by omega, rfl, by simp [tailDigits]⟩
    case round =>
      obtain ⟨k, hk1, hk, rfl, hd⟩ := hrel
      have HD : Hid (tailDigits (s.data.toList.take k) = true) := hd
      clear hd
      by_cases hlt : k < s.size
      · have BAD : Hid (digitB (s[k].toNat : Int) = false → tailDigits s.data.toList = false) := fun h => tail_bad s k hk1 hlt h
        go_wp2
        all_goals first
          | (refine ⟨⟨k + 1, by omega, by omega, by go_num, ?_⟩, by simp [intOf]; omega⟩
             rw [tail_snoc s k hk1 hlt, HD.out]
             simp [digitB] at *
             omega)
          | (go_ret
             refine ⟨ret_bool ?_, rfl⟩
             have hb : digitB (s[k].toNat : Int) = false := by
               simp [digitB] at *
               omega
             simp [spareL, BAD.out hb])
      · have h := HD.out
        rw [List.take_of_length_le (by simp; omega)] at h
        have HN : Hid (tailDigits s.data.toList = true) := h
        clear h
        go_wp2
        all_goals
          go_ret
          refine ⟨ret_bool ?_, rfl⟩
          have h := HN.out
          have hl := size_len s
          first | exact spare_tail s h (by omega) (by omega) h0 | (simp [spareL, hl]; omega)
end Go.Proofs.YtpjjagalekolaaaGreatDoor

