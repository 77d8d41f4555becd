/- CA, CB: in one text. -/
import Derived.Test.YtpjjagalekolaaaGreatDoorP05
import Derived.Test.YtpjjagalekolaaaGreatDoorP07W0
import Derived.Maps.AppendAt
import Derived.Deep.QuietTactic
import Derived.BigQuiet
import Derived.RangeFuncBox
/- Entries of trees: the program's leaves: the order of paths, folding, parents, fields. -/
namespace Go.Proofs.YtpjjagalekolaaaGreatDoor
open Go.RowKit
set_option linter.unusedVariables false
set_option linter.unusedSimpArgs false

structure EntD where
  path : ByteArray
  dir : Bool
  id : Int
  size : Int
  mode : Int
def EntD.cells (o : EntD) : List Value := [.string o.path, .bool o.dir, .int .i64 o.id, .int .i64 o.size, .int .i64 o.mode]

/-- The order of paths, byte by byte. -/
def cmpL : List UInt8 → List UInt8 → Int
  | [], [] => 0
  | [], _ :: _ => -1
  | _ :: _, [] => 1
  | a :: xs, b :: ys => if a = b then cmpL xs ys else if a = 47 then -1 else if b = 47 then 1 else if a < b then -1 else 1

def foldB (c : UInt8) : UInt8 := if 65 ≤ c.toNat ∧ c.toNat ≤ 90 then c + 32 else c
def sameB (fold : Bool) (a b : List UInt8) : Bool := if fold then a.map foldB == b.map foldB else a == b

def cmp8 (x y : Int) : Int := if x < y then -1 else if y < x then 1 else 0
set_option maxHeartbeats 400000 in
theorem isNaN8 (x : Int) (w : World) : Calls Tryz.prog 218 #[.int .u8 x] w fun e w' => e = .returned (.bool false) ∧ w' = w := by
  go_enter Tryz.func218, Tryz.ntmps218
  go_wp2
  go_ret
  exact ⟨rfl, rfl⟩
set_option maxHeartbeats 400000 in
theorem cmp8_any (x y : Int) (w : World) : Calls Tryz.prog 203 #[.int .u8 x, .int .u8 y] w fun e w' => e = .returned (.int .i64 (cmp8 x y)) ∧ w' = w := by
  by_cases h1 : x < y
  · go_enter Tryz.func203, Tryz.ntmps203
    go_wp2_with (go_at_call 218; refine (isNaN8 _ _).mono ?_; rintro e w' ⟨rfl, rfl⟩)
    go_ret
    exact ⟨by simp [cmp8, h1], rfl⟩
  · by_cases h2 : y < x
    · go_enter Tryz.func203, Tryz.ntmps203
      go_wp2_with (go_at_call 218; refine (isNaN8 _ _).mono ?_; rintro e w' ⟨rfl, rfl⟩)
      go_ret
      exact ⟨by simp [cmp8, h1, h2], rfl⟩
    · go_enter Tryz.func203, Tryz.ntmps203
      go_wp2_with (go_at_call 218; refine (isNaN8 _ _).mono ?_; rintro e w' ⟨rfl, rfl⟩)
      go_ret
      exact ⟨by rw [cmp8, if_neg (by omega), if_neg (by omega)]; rfl, rfl⟩

theorem u8_eq (a b : UInt8) : (((a.toNat : Int)) == (b.toNat : Int)) = decide (a = b) := by
  rw [Bool.eq_iff_iff]; simp [← UInt8.toNat_inj]; omega
theorem u8_47 (a : UInt8) : (((a.toNat : Int)) == 47) = decide (a = 47) := u8_eq a 47

theorem cmpL_step (a b : ByteArray) (k : Nat) (ha : k < a.size) (hb : k < b.size) : cmpL (a.data.toList.drop k) (b.data.toList.drop k) =
    if a[k] = b[k] then cmpL (a.data.toList.drop (k + 1)) (b.data.toList.drop (k + 1)) else if a[k] = 47 then -1 else if b[k] = 47 then 1 else if a[k] < b[k] then -1 else 1 := by
  have e1 : a.data.toList.drop k = a[k] :: a.data.toList.drop (k + 1) := List.drop_eq_getElem_cons (by simpa using ha)
  have e2 : b.data.toList.drop k = b[k] :: b.data.toList.drop (k + 1) := List.drop_eq_getElem_cons (by simpa using hb)
  rw [e1, e2, cmpL]

set_option maxHeartbeats 1000000 in
theorem compare_any (a b : ByteArray) (w : World) (ha : a.size ≤ 2000000) (hb : b.size ≤ 2000000) :
    Calls Tryz.prog 177 #[.string a, .string b] w fun e w' => e = .returned (.int .i64 (cmpL a.data.toList b.data.toList)) ∧ ∃ n, w' = w.drewN n := by
  go_enter Tryz.func177, Tryz.ntmps177
  go_wp2
  go_loopw [11] (fun i wr => ∃ (k n : Nat), k ≤ a.size ∧ k ≤ b.size ∧ i = .int .i64 k ∧ wr = w.drewN n ∧ cmpL a.data.toList b.data.toList = cmpL (a.data.toList.drop k) (b.data.toList.drop k)) (fun i _ => a.size - (intOf i).toNat)
  case atStart => exact ⟨0, 0, Nat.zero_le _, Nat.zero_le _, rfl, rfl, rfl⟩
  case round =>
    obtain ⟨k, n, hka, hkb, rfl, rfl, hc⟩ := hrel
    have HC : Hid (cmpL a.data.toList b.data.toList = cmpL (a.data.toList.drop k) (b.data.toList.drop k)) := hc
    clear hc
    by_cases hlt : k < a.size ∧ k < b.size
    · obtain ⟨h1, h2⟩ := hlt
      have HS : Hid (cmpL (a.data.toList.drop k) (b.data.toList.drop k) = if a[k] = b[k] then cmpL (a.data.toList.drop (k + 1)) (b.data.toList.drop (k + 1)) else if a[k] = 47 then -1 else if b[k] = 47 then 1 else if a[k] < b[k] then -1 else 1) := cmpL_step a b k h1 h2
      have hmin : (k : Int) < min (a.size : Int) (b.size : Int) := by omega
      by_cases he : a[k] = b[k]
      · have he' : ((a[k].toNat : Int) == (b[k].toNat : Int)) = true := by rw [u8_eq]; simpa using he
        go_wp2
        go_quiet (fail)
        go_wp2
        exact ⟨⟨k + 1, n + nq, by omega, by omega, by go_num, rfl, by rw [HC.out, HS.out, if_pos he]⟩, by simp [intOf]; omega⟩
      · have he' : ((a[k].toNat : Int) == (b[k].toNat : Int)) = false := by rw [u8_eq]; simpa using he
        by_cases ha47 : a[k] = 47
        · have g1 : ((a[k].toNat : Int) == 47) = true := by rw [u8_47]; simpa using ha47
          go_wp2
          go_quiet (fail)
          go_wp2
          go_ret
          exact ⟨by rw [HC.out, HS.out, if_neg he, if_pos ha47]; rfl, _, rfl⟩
        · have g1 : ((a[k].toNat : Int) == 47) = false := by rw [u8_47]; simpa using ha47
          by_cases hb47 : b[k] = 47
          · have g2 : ((b[k].toNat : Int) == 47) = true := by rw [u8_47]; simpa using hb47
            go_wp2
            go_quiet (fail)
            go_wp2
            go_ret
            exact ⟨by rw [HC.out, HS.out, if_neg he, if_neg ha47, if_pos hb47]; rfl, _, rfl⟩
          · have g2 : ((b[k].toNat : Int) == 47) = false := by rw [u8_47]; simpa using hb47
            have HV : Hid ((if a[k] < b[k] then (-1 : Int) else 1) = cmp8 (a[k].toNat : Int) (b[k].toNat : Int)) := by
              show (if a[k] < b[k] then (-1 : Int) else 1) = cmp8 (a[k].toNat : Int) (b[k].toNat : Int)
              have hne : a[k].toNat ≠ b[k].toNat := fun e => he (UInt8.toNat_inj.1 e)
              have hlt : a[k] < b[k] ↔ a[k].toNat < b[k].toNat := UInt8.lt_iff_toNat_lt
              unfold cmp8
              by_cases hl : a[k].toNat < b[k].toNat
              · rw [if_pos (hlt.2 hl), if_pos (by omega)]
              · rw [if_neg (fun h => hl (hlt.1 h)), if_neg (by omega), if_pos (by omega)]
            go_wp2
            go_quiet (fail)
            go_wp2
            rename Nat => n2
            generalize hW : w.drewN (n + n2) = W
            go_quiet (first | (go_at_call 203; exact Calls.quiet_of_same (cmp8_any _ _ _)))
            go_wp2
            go_ret
            exact ⟨by rw [HC.out, HS.out, if_neg he, if_neg ha47, if_neg hb47, HV.out]; rfl, n + n2 + nq, by rw [← hW, World.drewN_drewN]⟩
    · have hmin : ¬ (k : Int) < min (a.size : Int) (b.size : Int) := by omega
      go_wp2_with (go_at_call 204; refine (Tryz.cmp_Compare_int _ _ _).mono ?_; rintro e w' ⟨rfl, rfl⟩)
      go_ret
      refine ⟨?_, _, rfl⟩
      rw [HC.out]
      by_cases h1 : a.size ≤ k
      · rw [List.drop_of_length_le (by simpa using h1)]
        by_cases h2 : b.size ≤ k
        · rw [List.drop_of_length_le (by simpa using h2)]
          have : Lib.compareInt (a.size : Int) (b.size : Int) = 0 := by rw [Lib.compareInt, if_neg (by omega), if_neg (by omega)]
          rw [cmpL]; simp [this]
        · rw [List.drop_eq_getElem_cons (by simp; omega : k < b.data.toList.length)]
          have : Lib.compareInt (a.size : Int) (b.size : Int) = -1 := by rw [Lib.compareInt, if_pos (by omega)]
          rw [cmpL]; simp [this]
      · rw [List.drop_of_length_le (l := b.data.toList) (by simp; omega), List.drop_eq_getElem_cons (by simp; omega : k < a.data.toList.length)]
        have : Lib.compareInt (a.size : Int) (b.size : Int) = 1 := by rw [Lib.compareInt, if_neg (by omega), if_pos (by omega)]
        rw [cmpL]; simp [this]

theorem foldB_up (c : UInt8) (h1 : 65 ≤ c.toNat) (h2 : c.toNat ≤ 90) : ((foldB c).toNat : Int) = (c.toNat : Int) + 32 := by
  rw [foldB, if_pos ⟨h1, h2⟩, UInt8.toNat_add]
  have : (32 : UInt8).toNat = 32 := rfl
  omega
set_option maxHeartbeats 400000 in
theorem folded_any (c : UInt8) (w : World) : Calls Tryz.prog 211 #[.int .u8 c.toNat] w fun e w' => e = .returned (.int .u8 (foldB c).toNat) ∧ w' = w := by
  by_cases h1 : (65 : Int) ≤ (c.toNat : Int)
  · by_cases h2 : (c.toNat : Int) ≤ 90
    · have hf := foldB_up c (by omega) (by omega)
      go_enter Tryz.func211, Tryz.ntmps211
      go_wp2
      go_ret
      exact ⟨by rw [hf]; simp [IntKind.wrap, IntKind.bits, IntKind.signed]; omega, rfl⟩
    · have hf : foldB c = c := by rw [foldB, if_neg (by omega)]
      go_enter Tryz.func211, Tryz.ntmps211
      go_wp2
      go_ret
      exact ⟨rfl, rfl⟩
  · have hf : foldB c = c := by rw [foldB, if_neg (by omega)]
    go_enter Tryz.func211, Tryz.ntmps211
    go_wp2
    go_ret
    exact ⟨rfl, rfl⟩

theorem ba_toList (a : ByteArray) : a.toList = a.data.toList := by
  exact Lib.toList_data a
theorem take_map_snoc (a : ByteArray) (k : Nat) (h : k < a.size) : (a.data.toList.take (k + 1)).map foldB = (a.data.toList.take k).map foldB ++ [foldB a[k]] := by
  rw [take_snoc a k h]; simp

set_option maxHeartbeats 1000000 in
theorem same_any (a b : ByteArray) (fold : Bool) (w : World) (ha : a.size ≤ 2000000) (hb : b.size ≤ 2000000) :
    Calls Tryz.prog 189 #[.string a, .string b, .bool fold] w fun e w' => e = .returned (.bool (sameB fold a.data.toList b.data.toList)) ∧ ∃ n, w' = w.drewN n := by
  cases fold
  · go_enter Tryz.func189, Tryz.ntmps189
    go_wp2
    go_ret
    exact ⟨ret_bool (by simp [sameB, ba_toList]), 0, rfl⟩
  · by_cases hl : a.size = b.size
    · have hl' : ((a.size : Int) != (b.size : Int)) = false := by simp; omega
      go_enter Tryz.func189, Tryz.ntmps189
      go_wp2
      go_loopw [22] (fun i wr => ∃ (k n : Nat), k ≤ a.size ∧ i = .int .i64 k ∧ wr = w.drewN n ∧ (a.data.toList.take k).map foldB = (b.data.toList.take k).map foldB) (fun i _ => a.size - (intOf i).toNat)
      case atStart => exact ⟨0, 0, Nat.zero_le _, rfl, rfl, rfl⟩
      case round =>
        obtain ⟨k, n, hka, rfl, rfl, hc⟩ := hrel
        have HC : Hid ((a.data.toList.take k).map foldB = (b.data.toList.take k).map foldB) := hc
        clear hc
        by_cases hlt : k < a.size
        · have h2 : k < b.size := by omega
          have HA : Hid ((a.data.toList.take (k + 1)).map foldB = (a.data.toList.take k).map foldB ++ [foldB a[k]]) := take_map_snoc a k hlt
          have HB : Hid ((b.data.toList.take (k + 1)).map foldB = (b.data.toList.take k).map foldB ++ [foldB b[k]]) := take_map_snoc b k h2
          generalize hW : w.drewN n = W
          by_cases he : foldB a[k] = foldB b[k]
          · have he' : (((foldB a[k]).toNat : Int) != ((foldB b[k]).toNat : Int)) = false := by rw [he]; simp
            go_wp2
            go_quiet (first | (go_at_call 211; exact Calls.quiet_of_same (folded_any _ _)))
            go_wp2
            exact ⟨⟨k + 1, n + nq, by omega, by go_num, by rw [← hW, World.drewN_drewN], by rw [HA.out, HB.out, HC.out, he]⟩, by simp [intOf]; omega⟩
          · have he' : (((foldB a[k]).toNat : Int) != ((foldB b[k]).toNat : Int)) = true := by
              simp; intro e; exact he (UInt8.toNat_inj.1 (by omega))
            have HV : Hid (sameB true a.data.toList b.data.toList = false) := by
              show sameB true a.data.toList b.data.toList = false
              cases hs : sameB true a.data.toList b.data.toList with
              | false => rfl
              | true =>
                exfalso
                simp only [sameB, if_true] at hs
                have hs' := eq_of_beq hs
                apply he
                have e1 := congrArg (fun l => l[k]?) hs'
                have e2 : foldB (a.data[k]'hlt) = foldB (b.data[k]'h2) := by simpa [hlt, h2] using e1
                exact e2
            go_wp2
            go_quiet (first | (go_at_call 211; exact Calls.quiet_of_same (folded_any _ _)))
            go_wp2
            go_ret
            exact ⟨ret_bool HV.out.symm, n + nq, by rw [← hW, World.drewN_drewN]⟩
        · go_wp2
          go_ret
          refine ⟨ret_bool ?_, n, rfl⟩
          have h := HC.out
          rw [List.take_of_length_le (by simp; omega), List.take_of_length_le (by simp; omega)] at h
          simp [sameB, h]
    · have hl' : ((a.size : Int) != (b.size : Int)) = true := by simp; omega
      have HV : Hid (sameB true a.data.toList b.data.toList = (a.toList == b.toList)) := by
        show sameB true a.data.toList b.data.toList = (a.toList == b.toList)
        have h1 : sameB true a.data.toList b.data.toList = false := by
          cases hs : sameB true a.data.toList b.data.toList with
          | false => rfl
          | true =>
            exfalso
            simp only [sameB, if_true] at hs
            have := congrArg List.length (eq_of_beq hs)
            simp at this
            omega
        have h2 : (a.toList == b.toList) = false := by
          cases hs : (a.toList == b.toList) with
          | false => rfl
          | true =>
            exfalso
            have := congrArg List.length (eq_of_beq hs)
            simp [ba_toList] at this
            omega
        rw [h1, h2]
      go_enter Tryz.func189, Tryz.ntmps189
      go_wp2
      go_ret
      exact ⟨ret_bool HV.out.symm, 0, rfl⟩

/-- The path above: all ahead of the last slash. -/
def parentB (s : ByteArray) : ByteArray := if Lib.lastIndexByte s 47 < 0 then ⟨#[]⟩ else s.extract 0 (Lib.lastIndexByte s 47).toNat
set_option maxHeartbeats 400000 in
theorem parent_any (s : ByteArray) (w : World) (hs : s.size ≤ 2000000) (hl : Lib.lastIndexByte s 47 ≤ s.size) : Calls Tryz.prog 156 #[.string s] w fun e w' => e = .returned (.string (parentB s)) ∧ w' = w := by
  by_cases h : Lib.lastIndexByte s 47 < 0
  · have hv : parentB s = ⟨#[]⟩ := by rw [parentB, if_pos h]
    go_enter Tryz.func156, Tryz.ntmps156
    go_wp2_with (go_at_call 190; refine (Tryz.strings_LastIndexByte _ _ (by omega) _).mono ?_; rintro e w' ⟨rfl, rfl⟩)
    go_ret
    exact ⟨by rw [hv]; rfl, rfl⟩
  · obtain ⟨i, hi⟩ := Int.eq_ofNat_of_zero_le (by omega : 0 ≤ Lib.lastIndexByte s 47)
    have hv : parentB s = s.extract 0 i := by rw [parentB, if_neg h, hi]; simp
    go_enter Tryz.func156, Tryz.ntmps156
    go_wp2_with (go_at_call 190; refine (Tryz.strings_LastIndexByte _ _ (by omega) _).mono ?_; rintro e w' ⟨rfl, rfl⟩; rw [hi])
    go_ret
    exact ⟨by rw [hv]; rfl, rfl⟩

def fieldsB (o : EntD) : Bool := decide (0 ≤ o.mode) && decide (o.mode ≤ 511) && (if o.dir then decide (o.id = 0) && decide (o.size = 0) else decide (1 ≤ o.id) && decide (o.id ≤ 9999) && decide (0 ≤ o.size) && decide (o.size ≤ 100))
set_option maxHeartbeats 1000000 in
theorem fieldsFit_any (o : EntD) (w : World) : Calls Tryz.prog 176 #[.agg #[.string o.path, .bool o.dir, .int .i64 o.id, .int .i64 o.size, .int .i64 o.mode]] w fun e w' => e = .returned (.bool (fieldsB o)) ∧ Below w.heap.size w w' := by
  obtain ⟨p, d, i, z, m⟩ := o
  have hb : ∀ ob, Below w.heap.size w (w.alloc ob) := fun ob => (Below.refl _ _).alloc (Nat.le_refl _) ob
  cases d
  all_goals
    go_enter Tryz.func176, Tryz.ntmps176
    go_wp2
    all_goals go_ret
    all_goals refine ⟨ret_bool ?_, hb _⟩
    all_goals (rw [Bool.eq_iff_iff]; simp [fieldsB] at *; try omega)
end Go.Proofs.YtpjjagalekolaaaGreatDoor

/- Entries in memory, and what is looked for among them: the program's. -/
namespace Go.Proofs.YtpjjagalekolaaaGreatDoor
open Go.RowKit
set_option linter.unusedVariables false
set_option linter.unusedSimpArgs false

/-- A row of entries in memory. -/
def EntsAt (w : World) (b off : Nat) (l : List EntD) : Prop := ∀ (k : Nat) (h : k < l.length), ∀ j v, l[k].cells[j]? = some v → w.cell? ⟨b, off + k * 5 + j, none⟩ = some v
theorem EntsAt.below {w w' : World} {b off : Nat} {l : List EntD} (h : EntsAt w b off l) {B : Nat} (hb : Below B w w') (hB : b < B) : EntsAt w' b off l :=
  fun k hk j v hv => cell_kept hb hB (h k hk j v hv)
theorem EntsAt.take {w : World} {b off : Nat} {l : List EntD} (h : EntsAt w b off l) (n : Nat) : EntsAt w b off (l.take n) := by
  intro k hk j v hv
  have hk' : k < l.length := by simp at hk; omega
  exact h k hk' j v (by simpa using hv)
def EntD.small (o : EntD) : Prop := o.path.size ≤ 1500000

def otherB (l : List EntD) (e : EntD) : Bool := l.any fun o => decide (o.id = e.id) && decide (o.size ≠ e.size)
theorem otherB_snoc (l : List EntD) (e : EntD) (k : Nat) (h : k < l.length) : otherB (l.take (k + 1)) e = (otherB (l.take k) e || (decide (l[k].id = e.id) && decide (l[k].size ≠ e.size))) := by
  rw [otherB, List.take_succ_eq_append_getElem h, List.any_append]; simp [otherB]
theorem otherB_hit (l : List EntD) (e : EntD) (k : Nat) (h : k < l.length) (hx : (decide (l[k].id = e.id) && decide (l[k].size ≠ e.size)) = true) : otherB l e = true := by
  rw [otherB, List.any_eq_true]; exact ⟨l[k], List.getElem_mem h, hx⟩

set_option maxHeartbeats 1000000 in
theorem hasOther_any (b off cap : Nat) (l : List EntD) (e : EntD) (w : World) (hl : l.length ≤ 2000000) (hb : b < w.heap.size) (hc : EntsAt w b off l) :
    Calls Tryz.prog 91 #[.slice (some ⟨b, off, none⟩) l.length cap, .agg #[.string e.path, .bool e.dir, .int .i64 e.id, .int .i64 e.size, .int .i64 e.mode]] w fun r w' => r = .returned (.bool (otherB l e)) ∧ Below w.heap.size w w' := by
  have hb1 : Below w.heap.size w (w.alloc (.cells #[.string e.path, .bool e.dir, .int .i64 e.id, .int .i64 e.size, .int .i64 e.mode] 56)) := (Below.refl _ _).alloc (Nat.le_refl _) _
  go_enter Tryz.func91, Tryz.ntmps91
  go_wp2
  go_loopw [9] (fun i wr => ∃ k : Nat, k ≤ l.length ∧ i = .int .i64 k ∧ otherB (l.take k) e = false ∧ Below w.heap.size w wr ∧ Below (w.heap.size + 1) (w.alloc (.cells #[.string e.path, .bool e.dir, .int .i64 e.id, .int .i64 e.size, .int .i64 e.mode] 56)) wr) (fun i _ => l.length - (intOf i).toNat)
  case atStart => exact ⟨0, Nat.zero_le _, rfl, rfl, hb1, Below.refl _ _⟩
  case round =>
    obtain ⟨k, hk, rfl, hd, hbw, hbw2⟩ := hrel
    have HD : Hid (otherB (l.take k) e = false) := hd
    clear hd
    have hbs := hbw2.size
    simp only [World.size_alloc] at hbs
    have hx : ∀ j, wr.cell? ⟨w.heap.size, j, none⟩ = (w.alloc (.cells #[.string e.path, .bool e.dir, .int .i64 e.id, .int .i64 e.size, .int .i64 e.mode] 56)).cell? ⟨w.heap.size, j, none⟩ := fun j => hbw2.cell (p := ⟨w.heap.size, j, none⟩) (Nat.lt_succ_self _)
    have d2 : wr.cell? ⟨w.heap.size, 2, none⟩ = some (.int .i64 e.id) := by rw [hx 2]; simp
    have d3 : wr.cell? ⟨w.heap.size, 3, none⟩ = some (.int .i64 e.size) := by rw [hx 3]; simp
    have d2' := past1 (by omega) d2
    have d3' := past1 (by omega) d3
    have n1 : ¬ wr.heap.size = w.heap.size := by omega
    have n2 : ¬ w.heap.size = wr.heap.size := by omega
    by_cases hlt : k < l.length
    · have HSN : Hid (otherB (l.take (k + 1)) e = (otherB (l.take k) e || (decide (l[k].id = e.id) && decide (l[k].size ≠ e.size)))) := otherB_snoc l e k hlt
      have HHT : Hid ((decide (l[k].id = e.id) && decide (l[k].size ≠ e.size)) = true → otherB l e = true) := otherB_hit l e k hlt
      have hcw := (hc.below hbw hb) k hlt
      generalize l[k] = o at *
      have c0 := hcw 0 _ rfl
      have c1 := hcw 1 _ rfl
      have c2 := hcw 2 _ rfl
      have c3 := hcw 3 _ rfl
      have c4 := hcw 4 _ rfl
      simp only [Nat.add_zero] at c0
      clear hcw
      have hbn : ∀ ob, Below w.heap.size w (wr.alloc ob) ∧ Below (w.heap.size + 1) (w.alloc (.cells #[.string e.path, .bool e.dir, .int .i64 e.id, .int .i64 e.size, .int .i64 e.mode] 56)) (wr.alloc ob) := fun ob => ⟨hbw.alloc (by omega) _, hbw2.alloc (by omega) _⟩
      by_cases h1 : o.id = e.id
      · by_cases h2 : o.size = e.size
        · have g1 : (o.id == e.id) = true := by simpa using h1
          have g2 : (o.size != e.size) = false := by simpa using h2
          go_wp2
          exact ⟨⟨k + 1, by omega, by go_num, by rw [HSN.out, HD.out]; simp [h2], hbn _⟩, by simp [intOf]; omega⟩
        · have g1 : (o.id == e.id) = true := by simpa using h1
          have g2 : (o.size != e.size) = true := by simpa using h2
          go_wp2
          go_ret
          exact ⟨ret_bool (HHT.out (by simp [h1, h2])).symm, (hbn _).1⟩
      · have g1 : (o.id == e.id) = false := by simpa using h1
        go_wp2
        exact ⟨⟨k + 1, by omega, by go_num, by rw [HSN.out, HD.out]; simp [h1], hbn _⟩, by simp [intOf]; omega⟩
    · go_wp2
      go_ret
      refine ⟨ret_bool ?_, hbw⟩
      have h := HD.out
      rw [List.take_of_length_le (by omega)] at h
      exact h.symm

def fstI (pr : EntD → Bool) (l : List EntD) : Int := if l.any pr then (l.findIdx pr : Int) else -1
theorem fstI_hit (pr : EntD → Bool) (l : List EntD) (k : Nat) (h : k < l.length) (hp : pr l[k] = true) (hn : (l.take k).any pr = false) : fstI pr l = k := by
  have ha : l.any pr = true := List.any_eq_true.2 ⟨l[k], List.getElem_mem h, hp⟩
  rw [fstI, if_pos ha]
  congr 1
  rw [List.findIdx_eq h]
  refine ⟨hp, fun j hj => ?_⟩
  cases hx : pr l[j] with
  | false => rfl
  | true =>
    exfalso
    have : (l.take k).any pr = true := List.any_eq_true.2 ⟨l[j], List.mem_take_iff_getElem.2 ⟨j, by omega, rfl⟩, hx⟩
    rw [hn] at this; cases this
theorem fstI_none (pr : EntD → Bool) (l : List EntD) (h : l.any pr = false) : fstI pr l = -1 := by rw [fstI, h]; rfl
theorem any_snoc (pr : EntD → Bool) (l : List EntD) (k : Nat) (h : k < l.length) : (l.take (k + 1)).any pr = ((l.take k).any pr || pr l[k]) := by
  rw [List.take_succ_eq_append_getElem h, List.any_append]; simp

set_option maxHeartbeats 1000000 in
theorem indexFunc114 (b off cap : Nat) (l : List EntD) (pr : EntD → Bool) (P0 P1 : Addr) (w : World) (hl : l.length ≤ 2000000) (hs : ∀ o ∈ l, o.small) (hb : b < w.heap.size) (hc : EntsAt w b off l)
    (hcl : ∀ (o : EntD) (wr : World), o.small → Below w.heap.size w wr → Calls Tryz.prog 191 #[.agg #[.string o.path, .bool o.dir, .int .i64 o.id, .int .i64 o.size, .int .i64 o.mode], .pointer (some P0), .pointer (some P1)] wr fun e w' => e = .returned (.bool (pr o)) ∧ Below wr.heap.size wr w') :
    Calls Tryz.prog 181 #[.slice (some ⟨b, off, none⟩) l.length cap, .func (.func 191) #[] #[.pointer (some P0), .pointer (some P1)]] w fun e w' => e = .returned (.int .i64 (fstI pr l)) ∧ Below w.heap.size w w' := by
  have HCL : Hid (∀ (o : EntD) (wr : World), o.small → Below w.heap.size w wr → Calls Tryz.prog 191 #[.agg #[.string o.path, .bool o.dir, .int .i64 o.id, .int .i64 o.size, .int .i64 o.mode], .pointer (some P0), .pointer (some P1)] wr fun e w' => e = .returned (.bool (pr o)) ∧ Below wr.heap.size wr w') := hcl
  clear hcl
  go_enter Tryz.func181, Tryz.ntmps181
  go_wp2
  go_loopw [8] (fun i wr => ∃ k : Nat, k ≤ l.length ∧ i = .int .i64 k ∧ (l.take k).any pr = false ∧ Below w.heap.size w wr) (fun i _ => l.length - (intOf i).toNat)
  case atStart => exact ⟨0, Nat.zero_le _, rfl, rfl, Below.refl _ _⟩
  case round =>
    obtain ⟨k, hk, rfl, hd, hbw⟩ := hrel
    have HD : Hid ((l.take k).any pr = false) := hd
    clear hd
    have hbs := hbw.size
    by_cases hlt : k < l.length
    · have HSN : Hid ((l.take (k + 1)).any pr = ((l.take k).any pr || pr l[k])) := any_snoc pr l k hlt
      have HHT : Hid (pr l[k] = true → fstI pr l = k) := fun h => fstI_hit pr l k hlt h HD.out
      have hcw := (hc.below hbw hb) k hlt
      have hsm := hs _ (List.getElem_mem hlt)
      generalize l[k] = o at *
      have c0 := hcw 0 _ rfl
      have c1 := hcw 1 _ rfl
      have c2 := hcw 2 _ rfl
      have c3 := hcw 3 _ rfl
      have c4 := hcw 4 _ rfl
      simp only [Nat.add_zero] at c0
      clear hcw
      by_cases hp : pr o = true
      · go_wp2_with (go_at_call 191; refine (HCL.out o _ hsm hbw).mono ?_; rintro e w1 ⟨rfl, hb1⟩; rw [hp])
        go_ret
        exact ⟨by rw [HHT.out hp]; rfl, hbw.trans (hb1.mono hbs)⟩
      · simp only [Bool.not_eq_true] at hp
        go_wp2_with (go_at_call 191; refine (HCL.out o _ hsm hbw).mono ?_; rintro e w1 ⟨rfl, hb1⟩; rw [hp])
        exact ⟨⟨k + 1, by omega, by go_num, by rw [HSN.out, HD.out, hp]; rfl, hbw.trans (hb1.mono hbs)⟩, by simp [intOf]; omega⟩
    · go_wp2
      go_ret
      refine ⟨?_, hbw⟩
      have h := HD.out
      rw [List.take_of_length_le (by omega)] at h
      rw [fstI_none pr l h]; rfl

set_option maxHeartbeats 1000000 in
theorem findC_any (o : EntD) (B : Nat) (p : ByteArray) (fold : Bool) (w : World) (hp : p.size ≤ 1500000) (ho : o.small) (hB : B + 1 < w.heap.size) (c0 : w.cell? ⟨B, 0, none⟩ = some (.string p)) (c1 : w.cell? ⟨B + 1, 0, none⟩ = some (.bool fold)) :
    Calls Tryz.prog 191 #[.agg #[.string o.path, .bool o.dir, .int .i64 o.id, .int .i64 o.size, .int .i64 o.mode], .pointer (some ⟨B, 0, none⟩), .pointer (some ⟨B + 1, 0, none⟩)] w fun e w' => e = .returned (.bool (sameB fold o.path.data.toList p.data.toList)) ∧ Below w.heap.size w w' := by
  have d0 := past1 (by omega) c0
  have d1 := past1 (by omega) c1
  have hb : ∀ ob, Below w.heap.size w (w.alloc ob) := fun ob => (Below.refl _ _).alloc (Nat.le_refl _) ob
  unfold EntD.small at ho
  go_enter Tryz.func191, Tryz.ntmps191
  go_wp2_with (go_at_call 189; refine (same_any _ _ _ _ (by omega) (by omega)).mono ?_; rintro e w1 ⟨rfl, n, rfl⟩)
  go_ret
  exact ⟨rfl, (hb _).trans ⟨rfl, rfl, rfl, Nat.le_refl _, fun _ _ => rfl⟩⟩

set_option maxHeartbeats 1000000 in
theorem find_any (b off cap : Nat) (l : List EntD) (p : ByteArray) (fold : Bool) (w : World) (hl : l.length ≤ 2000000) (hs : ∀ o ∈ l, o.small) (hp : p.size ≤ 1500000) (hb : b < w.heap.size) (hc : EntsAt w b off l) :
    Calls Tryz.prog 155 #[.slice (some ⟨b, off, none⟩) l.length cap, .string p, .bool fold] w fun e w' => e = .returned (.int .i64 (fstI (fun o => sameB fold o.path.data.toList p.data.toList) l)) ∧ Below w.heap.size w w' := by
  have hmf : ∀ (fn : Fn) (first cap : Array Value) (w : World), (Instr.makeFunc fn first cap).run Tryz.prog w = .ok (.func fn first cap) w := fun _ _ _ _ => rfl
  have hb2 : Below w.heap.size w ((w.alloc (.cells #[.string p] 9)).alloc (.cells #[.bool fold] 4)) := ((Below.refl _ _).alloc (Nat.le_refl _) _).alloc (by simp) _
  have B0 : Boxed ((w.alloc (.cells #[.string p] 9)).alloc (.cells #[.bool fold] 4)) w.heap.size 9 (.string p) := (Boxed.new w 9 _).alloc _
  have B1 : Boxed ((w.alloc (.cells #[.string p] 9)).alloc (.cells #[.bool fold] 4)) (w.heap.size + 1) 4 (.bool fold) := by
    have := Boxed.new (w.alloc (.cells #[.string p] 9)) 4 (.bool fold); rwa [World.size_alloc] at this
  have HC := indexFunc114 b off cap l (fun o => sameB fold o.path.data.toList p.data.toList) ⟨w.heap.size, 0, none⟩ ⟨w.heap.size + 1, 0, none⟩ _ hl hs (by simp; omega) (hc.below hb2 hb) (fun o wr ho hbw => findC_any o w.heap.size p fold wr hp ho (by have := hbw.size; simp at this; omega) ((hbw.block _ B0.lt).trans B0 |> fun h => Boxed.cell (t := 9) h) ((hbw.block _ B1.lt).trans B1 |> fun h => Boxed.cell (t := 4) h))
  go_enter Tryz.func155, Tryz.ntmps155
  go_wp2_with (go_at_call 181; refine HC.mono ?_; rintro e w1 ⟨rfl, hb1⟩)
  go_ret
  exact ⟨rfl, hb2.trans (hb1.mono (by simp; omega))⟩
end Go.Proofs.YtpjjagalekolaaaGreatDoor

