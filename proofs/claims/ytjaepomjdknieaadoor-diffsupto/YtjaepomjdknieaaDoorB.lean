/- Names: the program's and the reference's tests of one name. -/
import Derived.Test.YtjaepomjdknieaaDoorA
namespace Go.Proofs.YtjaepomjdknieaaDoor
open Go.RowKit

def nameBytes (l : List UInt8) : Bool := l.all fun c => nameB (c.toNat : Int)
def isNm (s : ByteArray) : Bool := decide (1 ≤ s.size) && decide (s.size ≤ 8) && !(s.toList == [46]) && !(s.toList == [46, 46]) && nameBytes s.data.toList

theorem take_snoc (s : ByteArray) (k : Nat) (h : k < s.size) : s.data.toList.take (k + 1) = s.data.toList.take k ++ [s[k]] := by
  rw [List.take_succ_eq_append_getElem (by simpa using h)]; rfl
theorem nameBytes_snoc (s : ByteArray) (k : Nat) (h : k < s.size) : nameBytes (s.data.toList.take (k + 1)) = (nameBytes (s.data.toList.take k) && nameB (s[k].toNat : Int)) := by
  rw [take_snoc s k h]; simp [nameBytes]
theorem nameBytes_bad (s : ByteArray) (k : Nat) (h : k < s.size) (hb : nameB (s[k].toNat : Int) = false) : nameBytes s.data.toList = false := by
  have e : s.data.toList = s.data.toList.take (k + 1) ++ s.data.toList.drop (k + 1) := (List.take_append_drop _ _).symm
  have h2 := nameBytes_snoc s k h
  rw [e]; unfold nameBytes at *; rw [List.all_append, h2, hb]; simp

set_option maxHeartbeats 400000 in
theorem isName_any (s : ByteArray) (w : World) (hs : s.size ≤ 2000000) :
    Calls Tryd.prog 102 #[.string s] w fun e w' => e = .returned (.bool (isNm s)) ∧ w' = w := by
  by_cases hg : (1 ≤ (s.size : Int) ∧ (s.size : Int) ≤ 8) ∧ (s.toList == [46]) = false ∧ (s.toList == [46, 46]) = false
  · obtain ⟨⟨h1, h2⟩, h3, h4⟩ := hg
    go_enter Tryd.func102, Tryd.ntmps102
    go_wp2
    go_loop [22] (fun i => ∃ k : Nat, k ≤ s.size ∧ i = .int .i64 k ∧ nameBytes (s.data.toList.take k) = true) (fun i => s.size - (intOf i).toNat)
    case atStart => exact ⟨0, Nat.zero_le _, rfl, rfl⟩
    case round =>
      obtain ⟨k, hk, rfl, hd⟩ := hrel
      have HD : Hid (nameBytes (s.data.toList.take k) = true) := hd
      clear hd
      by_cases hlt : k < s.size
      · by_cases hb : nameB (s[k].toNat : Int) = true
        · go_wp2_with (go_at_call 117; refine (isNameByte_any _ _).mono ?_; rintro e w' ⟨rfl, rfl⟩)
          go_round
          case rel => exact ⟨k + 1, by omega, by go_num, by rw [nameBytes_snoc s k hlt, HD.out, hb]; rfl⟩
          case measure => simp [intOf]; omega
        · simp only [Bool.not_eq_true] at hb
          go_wp2_with (go_at_call 117; refine (isNameByte_any _ _).mono ?_; rintro e w' ⟨rfl, rfl⟩)
          go_ret
          exact ⟨ret_bool (by simp [isNm, nameBytes_bad s k hlt hb]), rfl⟩
      · go_wp2
        go_ret
        refine ⟨ret_bool ?_, rfl⟩
        have h := HD.out
        rw [List.take_of_length_le (by simp; omega)] at h
        simp [isNm, h, h3, h4]; omega
  · have hf : isNm s = false := by
      cases h : isNm s
      · rfl
      · exfalso; apply hg; simp [isNm] at h; simp; exact ⟨⟨by omega, by omega⟩, h.1.1.2, h.1.2⟩
    have HF : Hid (isNm s = false) := hf
    clear hf
    by_cases h1 : 1 ≤ (s.size : Int)
    · by_cases h2 : (s.size : Int) ≤ 8
      · by_cases h3 : (s.toList == [46]) = false
        · have h4 : (s.toList == [46, 46]) = true := by
            by_cases h4 : (s.toList == [46, 46]) = false
            · exact absurd ⟨⟨h1, h2⟩, h3, h4⟩ hg
            · simpa using h4
          clear hg
          go_enter Tryd.func102, Tryd.ntmps102
          go_wp2
          go_ret
          exact ⟨ret_bool HF.out.symm, rfl⟩
        · clear hg
          simp only [Bool.not_eq_false] at h3
          go_enter Tryd.func102, Tryd.ntmps102
          go_wp2
          go_ret
          exact ⟨ret_bool HF.out.symm, rfl⟩
      · clear hg
        go_enter Tryd.func102, Tryd.ntmps102
        go_wp2
        go_ret
        exact ⟨ret_bool HF.out.symm, rfl⟩
    · clear hg
      go_enter Tryd.func102, Tryd.ntmps102
      go_wp2
      go_ret
      exact ⟨ret_bool HF.out.symm, rfl⟩

/-! The reference's. -/
theorem isNm_tail (s : ByteArray) (h : nameBytes s.data.toList = true) (h1 : 1 ≤ s.size) (h2 : (s.size : Int) ≤ 8) : (!s.toList == [46] && !s.toList == [46, 46]) = isNm s := by
  have a1 : decide (1 ≤ s.size) = true := by simpa using h1
  have a2 : decide (s.size ≤ 8) = true := by simp; omega
  simp [isNm, h, a1, a2]
set_option maxHeartbeats 1000000 in
theorem refName_any (s : ByteArray) (w : World) (hs : s.size ≤ 2000000) :
    Calls Tryd.prog 93 #[.string s] w fun e w' => e = .returned (.bool (isNm s)) ∧ w' = w := by
  go_enter Tryd.func93, Tryd.ntmps93
  go_wp2
  go_loop [3] (fun i => ∃ k : Nat, k ≤ s.size ∧ i = .int .i64 k ∧ nameBytes (s.data.toList.take k) = true) (fun i => s.size - (intOf i).toNat)
  case atStart => exact ⟨0, Nat.zero_le _, rfl, rfl⟩
  case round =>
    obtain ⟨k, hk, rfl, hd⟩ := hrel
    have HD : Hid (nameBytes (s.data.toList.take k) = true) := hd
    clear hd
    by_cases hlt : k < s.size
    · have bad := fun h => nameBytes_bad s k hlt h
      have BAD : Hid (nameB (s[k].toNat : Int) = false → nameBytes s.data.toList = false) := bad
      clear bad
      go_wp2
      all_goals first
        | (refine ⟨⟨k + 1, by omega, by go_num, ?_⟩, by simp [intOf]; omega⟩
           rw [nameBytes_snoc s k hlt, HD.out]
           simp [nameB, digitB] at *
           omega)
        | (go_ret
           refine ⟨ret_bool ?_, rfl⟩
           have hb : nameB (s[k].toNat : Int) = false := by
             simp [nameB, digitB] at *
             omega
           simp [isNm, BAD.out hb])
    · have h := HD.out
      rw [List.take_of_length_le (by simp; omega)] at h
      have HN : Hid (nameBytes s.data.toList = true) := h
      clear h
      go_wp2
      all_goals
        go_ret
        refine ⟨ret_bool ?_, rfl⟩
        have h := HN.out
        first | exact isNm_tail s h (by omega) (by omega) | (simp [isNm, *]; done) | (simp [isNm]; omega)
end Go.Proofs.YtjaepomjdknieaaDoor
