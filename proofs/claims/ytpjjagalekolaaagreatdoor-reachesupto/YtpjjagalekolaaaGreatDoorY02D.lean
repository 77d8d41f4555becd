/- The reference's pieces of a path. -/
import Derived.Test.YtpjjagalekolaaaGreatDoorY00
import Derived.Test.YtpjjagalekolaaaGreatDoorY01S
import Derived.Maps.AppendAt
import Derived.Lib.Strings
namespace Go.Proofs.YtpjjagalekolaaaGreatDoor
open Go.RowKit

theorem info9 : (Tryz.prog.info? 9).map (fun i => (i.zero, i.size, i.bytes)) = some (some (.string ByteArray.empty), 1, 16) := by kernel_rfl

theorem take_snocD (s : ByteArray) (k : Nat) (h : k < s.size) : s.data.toList.take (k + 1) = s.data.toList.take k ++ [s[k]] := by
  rw [List.take_succ_eq_append_getElem (by simpa using h)]; rfl
theorem lenD (s : ByteArray) : s.data.toList.length = s.size := by rw [Array.length_toList]; rfl

/-- What the loop knows behind k bytes. -/
def Pieces (s : ByteArray) (k fr : Nat) (out : List ByteArray) : Prop :=
  k ≤ s.size ∧ fr ≤ k ∧ out.length ≤ k ∧ out.map (·.data.toList) = (splSt (s.data.toList.take k)).1 ∧ (s.data.toList.drop fr).take (k - fr) = (splSt (s.data.toList.take k)).2

theorem Pieces.zero (s : ByteArray) : Pieces s 0 0 [] := by
  refine ⟨Nat.zero_le _, Nat.le_refl _, Nat.le_refl _, ?_, ?_⟩ <;> simp [splSt]

theorem byte47 (c : UInt8) : ((c.toNat : Int) == 47) = decide (c = 47) := by
  rw [Bool.eq_iff_iff]; simp
  constructor
  · intro h; exact UInt8.toNat_inj.1 (by show c.toNat = 47; omega)
  · rintro rfl; rfl

theorem Pieces.cut {s : ByteArray} {k fr : Nat} {out : List ByteArray} (h : Pieces s k fr out) (hlt : k < s.size) (hc : ((s[k].toNat : Int) == 47) = true) : Pieces s (k + 1) (k + 1) (out ++ [s.extract fr k]) := by
  obtain ⟨h1, h2, h3, h4, h5⟩ := h
  have e : s[k] = 47 := by rw [byte47] at hc; simpa using hc
  refine ⟨hlt, Nat.le_refl _, by simp; omega, ?_, ?_⟩
  · rw [take_snocD s k hlt, splSt_snoc, splStep, if_pos e]
    simp only [List.map_append, List.map_cons, List.map_nil, h4, Lib.extract_data, h5]
  · rw [take_snocD s k hlt, splSt_snoc, splStep, if_pos e]
    simp

theorem Pieces.step {s : ByteArray} {k fr : Nat} {out : List ByteArray} (h : Pieces s k fr out) (hlt : k < s.size) (hc : ((s[k].toNat : Int) == 47) = false) : Pieces s (k + 1) fr out := by
  obtain ⟨h1, h2, h3, h4, h5⟩ := h
  have e : ¬ s[k] = 47 := by rw [byte47] at hc; simpa using hc
  refine ⟨hlt, by omega, by omega, ?_, ?_⟩
  · rw [take_snocD s k hlt, splSt_snoc, splStep, if_neg e]; exact h4
  · rw [take_snocD s k hlt, splSt_snoc, splStep, if_neg e]
    show _ = _ ++ [s[k]]
    rw [← h5, show k + 1 - fr = (k - fr) + 1 by omega]
    have hl := lenD s
    rw [List.take_succ_eq_append_getElem (by rw [List.length_drop]; omega), List.getElem_drop]
    congr 1
    have : fr + (k - fr) = k := by omega
    simp only [this]; rfl

theorem Pieces.all {s : ByteArray} {k fr : Nat} {out : List ByteArray} (h : Pieces s k fr out) (hge : ¬ k < s.size) : (out ++ [s.extract fr s.size]).map (·.data.toList) = spl s.data.toList := by
  obtain ⟨h1, h2, h3, h4, h5⟩ := h
  have e : k = s.size := by omega
  subst e
  have hl := lenD s
  have e2 : s.data.toList.take s.size = s.data.toList := List.take_of_length_le (by omega)
  rw [e2] at h4 h5
  simp only [List.map_append, List.map_cons, List.map_nil, h4, Lib.extract_data, h5, spl]

end Go.Proofs.YtpjjagalekolaaaGreatDoor

