/- The reference's pieces of a path. -/
import Derived.Test.YtpjjagalekolaaaGreatDoorP00
import Derived.Test.YtpjjagalekolaaaGreatDoorP02S
import Derived.Maps.AppendAt
import Derived.Lib.Strings
namespace Go.Proofs.YtpjjagalekolaaaGreatDoor
open Go.RowKit

theorem info9 : (Tryz.prog.info? 9).map (fun i => (i.zero, i.size, i.bytes)) = some (some (.string ByteArray.empty), 1, 16) := by kernel_rfl

theorem take_snocD (s : ByteArray) (k : Nat) (h : k < s.size) : s.data.toList.take (k + 1) = s.data.toList.take k ++ [s[k]] := by
  rw [List.take_succ_eq_append_getElem (by simpa using h)]; rfl
theorem lenD (s : ByteArray) : s.data.toList.length = s.size := by rw [Array.length_toList]; rfl

/-- What the loop knows behind k bytes. -/
def Pieces (s : ByteArray) (k fr : Nat) (out : List ByteArray) : Prop :=
  k ≤ s.size ∧ fr ≤ k ∧ out.length ≤ k ∧ out.map (·.data.toList) = (splSt (s.data.toList.take k)).1 ∧ (s.data.toList.drop fr).take (k - fr) = (splSt (s.data.toList.take k)).2

theorem Pieces.zero (s : ByteArray) : Pieces s 0 0 [] := by
  refine ⟨Nat.zero_le _, Nat.le_refl _, Nat.le_refl _, ?_, ?_⟩ <;> simp [splSt]

theorem byte47 (c : UInt8) : ((c.toNat : Int) == 47) = decide (c = 47) := by
  rw [Bool.eq_iff_iff]; simp
  constructor
  · intro h; exact UInt8.toNat_inj.1 (by show c.toNat = 47; omega)
  · rintro rfl; rfl

theorem Pieces.cut {s : ByteArray} {k fr : Nat} {out : List ByteArray} (h : Pieces s k fr out) (hlt : k < s.size) (hc : ((s[k].toNat : Int) == 47) = true) : Pieces s (k + 1) (k + 1) (out ++ [s.extract fr k]) := by
  obtain ⟨h1, h2, h3, h4, h5⟩ := h
  have e : s[k] = 47 := by rw [byte47] at hc; simpa using hc
  refine ⟨hlt, Nat.le_refl _, by simp; omega, ?_, ?_⟩
  · rw [take_snocD s k hlt, splSt_snoc, splStep, if_pos e]
    simp only [List.map_append, List.map_cons, List.map_nil, h4, Lib.extract_data, h5]
  · rw [take_snocD s k hlt, splSt_snoc, splStep, if_pos e]
    simp

theorem Pieces.step {s : ByteArray} {k fr : Nat} {out : List ByteArray} (h : Pieces s k fr out) (hlt : k < s.size) (hc : ((s[k].toNat : Int) == 47) = false) : Pieces s (k + 1) fr out := by
  obtain ⟨h1, h2, h3, h4, h5⟩ := h
  have e : ¬ s[k] = 47 := by rw [byte47] at hc; simpa using hc
  refine ⟨hlt, by omega, by omega, ?_, ?_⟩
  · rw [take_snocD s k hlt, splSt_snoc, splStep, if_neg e]; exact h4
  · rw [take_snocD s k hlt, splSt_snoc, splStep, if_neg e]
    show _ = _ ++ [s[k]]
    rw [← h5, show k + 1 - fr = (k - fr) + 1 by omega]
    have hl := lenD s
    rw [List.take_succ_eq_append_getElem (by rw [List.length_drop]; omega), List.getElem_drop]
    congr 1
    have : fr + (k - fr) = k := by omega
    simp only [this]; rfl

theorem Pieces.all {s : ByteArray} {k fr : Nat} {out : List ByteArray} (h : Pieces s k fr out) (hge : ¬ k < s.size) : (out ++ [s.extract fr s.size]).map (·.data.toList) = spl s.data.toList := by
  obtain ⟨h1, h2, h3, h4, h5⟩ := h
  have e : k = s.size := by omega
  subst e
  have hl := lenD s
  have e2 : s.data.toList.take s.size = s.data.toList := List.take_of_length_le (by omega)
  rw [e2] at h4 h5
  simp only [List.map_append, List.map_cons, List.map_nil, h4, Lib.extract_data, h5, spl]

set_option maxHeartbeats 1000000 in
theorem names_any (s : ByteArray) (w : World) (hs : s.size ≤ 2000000) :
    Calls Tryz.prog 114 #[.string s] w fun e w' => ∃ v out, e = .returned v ∧ w'.ownsRow w.heap.size 9 1 v (out : List ByteArray).length (out.map Value.string) ∧ out.map (·.data.toList) = spl s.data.toList ∧ Below w.heap.size w w' := by
  obtain ⟨i0, hi, hz0, hz1, hz2⟩ := info_parts info9
  go_enter Tryz.func114, Tryz.ntmps114
  go_wp2
  go_loopw [3, 4, 5] (fun v f i wr => ∃ (k fr : Nat) (out : List ByteArray), i = .int .i64 k ∧ f = .int .i64 fr ∧ Pieces s k fr out ∧ wr.ownsRow w.heap.size 9 1 v out.length (out.map Value.string) ∧ Below w.heap.size w wr) (fun _ _ i _ => s.size - (intOf i).toNat)
  case atStart => exact ⟨0, 0, [], rfl, rfl, Pieces.zero s, World.ownsRow_nil _ _ _ _, Below.refl _ _⟩
  case round =>
    obtain ⟨k, fr, out, rfl, rfl, hp, hown, hb⟩ := hrel
    have hk : k ≤ s.size := hp.1
    have hfr : fr ≤ k := hp.2.1
    have hol : out.length ≤ k := hp.2.2.1
    have HP : Hid (Pieces s k fr out) := hp
    clear hp
    have hbs := hb.size
    by_cases hlt : k < s.size
    · by_cases hc : ((s[k].toNat : Int) == 47) = true
      · go_wp2_with (at_builtin; refine wpList_append_own _ rfl _ _ 170 rfl w.heap.size 9 i0 (.string ByteArray.empty) 1 16 Tryz.underlying170 hi hz0 hz1 hz2 rfl (by decide) _ _ _ rfl (hown.alloc _) ⟨_, 0, none⟩ 1 1 [.string (s.extract fr k)] rfl rfl (cell_one_new _ _ _) (fun x hx => by simp at hx; subst hx; rfl) (by unfold maxLen; omega) (by omega) (by simp; omega) ?_; intro v' w3 hown' hgrow3 hnil3)
        have hown2 : w3.ownsRow w.heap.size 9 1 v' (out ++ [s.extract fr k]).length ((out ++ [s.extract fr k]).map Value.string) := by simpa using hown'
        have hb3 : Below w.heap.size w w3 := (hb.alloc hbs _).grown hgrow3 (by simp; omega) (fun j hj => (hown.lt j hj).1)
        exact ⟨⟨k + 1, k + 1, _, by go_num, by go_num, HP.out.cut hlt hc, hown2, hb3⟩, by simp [intOf]; omega⟩
      · simp only [Bool.not_eq_true] at hc
        go_wp2
        exact ⟨⟨k + 1, fr, out, by go_num, rfl, HP.out.step hlt hc, hown, hb⟩, by simp [intOf]; omega⟩
    · go_wp2_with (at_builtin; refine wpList_append_own _ rfl _ _ 170 rfl w.heap.size 9 i0 (.string ByteArray.empty) 1 16 Tryz.underlying170 hi hz0 hz1 hz2 rfl (by decide) _ _ _ rfl (hown.alloc _) ⟨_, 0, none⟩ 1 1 [.string (s.extract fr s.size)] rfl rfl (cell_one_new _ _ _) (fun x hx => by simp at hx; subst hx; rfl) (by unfold maxLen; omega) (by omega) (by simp; omega) ?_; intro v' w3 hown' hgrow3 hnil3)
      go_ret
      have hown2 : w3.ownsRow w.heap.size 9 1 v' (out ++ [s.extract fr s.size]).length ((out ++ [s.extract fr s.size]).map Value.string) := by simpa using hown'
      have hb3 : Below w.heap.size w w3 := (hb.alloc hbs _).grown hgrow3 (by simp; omega) (fun j hj => (hown.lt j hj).1)
      exact ⟨v', _, rfl, hown2, HP.out.all hlt, hb3⟩
end Go.Proofs.YtpjjagalekolaaaGreatDoor

