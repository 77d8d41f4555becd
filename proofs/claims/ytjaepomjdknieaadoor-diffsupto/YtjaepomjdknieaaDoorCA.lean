/- Entries of trees: the program's leaves: the order of paths, folding, parents, fields. -/
import Derived.Test.YtjaepomjdknieaaDoorE
import Derived.Test.YtjaepomjdknieaaDoorRA
namespace Go.Proofs.YtjaepomjdknieaaDoor
open Go.RowKit
set_option linter.unusedVariables false
set_option linter.unusedSimpArgs false

structure EntD where
  path : ByteArray
  dir : Bool
  id : Int
  size : Int
  mode : Int
def EntD.cells (o : EntD) : List Value := [.string o.path, .bool o.dir, .int .i64 o.id, .int .i64 o.size, .int .i64 o.mode]

/-- The order of paths, byte by byte. -/
def cmpL : List UInt8 → List UInt8 → Int
  | [], [] => 0
  | [], _ :: _ => -1
  | _ :: _, [] => 1
  | a :: xs, b :: ys => if a = b then cmpL xs ys else if a = 47 then -1 else if b = 47 then 1 else if a < b then -1 else 1

def foldB (c : UInt8) : UInt8 := if 65 ≤ c.toNat ∧ c.toNat ≤ 90 then c + 32 else c
def sameB (fold : Bool) (a b : List UInt8) : Bool := if fold then a.map foldB == b.map foldB else a == b

def cmp8 (x y : Int) : Int := if x < y then -1 else if y < x then 1 else 0
set_option maxHeartbeats 400000 in
theorem isNaN8 (x : Int) (w : World) : Calls Tryd.prog 118 #[.int .u8 x] w fun e w' => e = .returned (.bool false) ∧ w' = w := by
  go_enter Tryd.func118, Tryd.ntmps118
  go_wp2
  go_ret
  exact ⟨rfl, rfl⟩
set_option maxHeartbeats 400000 in
theorem cmp8_any (x y : Int) (w : World) : Calls Tryd.prog 104 #[.int .u8 x, .int .u8 y] w fun e w' => e = .returned (.int .i64 (cmp8 x y)) ∧ w' = w := by
  by_cases h1 : x < y
  · go_enter Tryd.func104, Tryd.ntmps104
    go_wp2_with (go_at_call 118; refine (isNaN8 _ _).mono ?_; rintro e w' ⟨rfl, rfl⟩)
    go_ret
    exact ⟨by simp [cmp8, h1], rfl⟩
  · by_cases h2 : y < x
    · go_enter Tryd.func104, Tryd.ntmps104
      go_wp2_with (go_at_call 118; refine (isNaN8 _ _).mono ?_; rintro e w' ⟨rfl, rfl⟩)
      go_ret
      exact ⟨by simp [cmp8, h1, h2], rfl⟩
    · go_enter Tryd.func104, Tryd.ntmps104
      go_wp2_with (go_at_call 118; refine (isNaN8 _ _).mono ?_; rintro e w' ⟨rfl, rfl⟩)
      go_ret
      exact ⟨by rw [cmp8, if_neg (by omega), if_neg (by omega)]; rfl, rfl⟩

theorem quiet0 {f : Nat} {args : Array Value} {v : Value} {w : World} (h : Calls Tryd.prog f args w fun e w' => e = .returned v ∧ w' = w) : Calls Tryd.prog f args w fun e w' => e = .returned v ∧ ∃ n, w' = w.drewN n :=
  h.mono (fun e w' he => ⟨he.1, 0, he.2⟩)

theorem u8_eq (a b : UInt8) : (((a.toNat : Int)) == (b.toNat : Int)) = decide (a = b) := by
  rw [Bool.eq_iff_iff]; simp [← UInt8.toNat_inj]; omega
theorem u8_47 (a : UInt8) : (((a.toNat : Int)) == 47) = decide (a = 47) := u8_eq a 47

theorem cmpL_step (a b : ByteArray) (k : Nat) (ha : k < a.size) (hb : k < b.size) : cmpL (a.data.toList.drop k) (b.data.toList.drop k) =
    if a[k] = b[k] then cmpL (a.data.toList.drop (k + 1)) (b.data.toList.drop (k + 1)) else if a[k] = 47 then -1 else if b[k] = 47 then 1 else if a[k] < b[k] then -1 else 1 := by
  have e1 : a.data.toList.drop k = a[k] :: a.data.toList.drop (k + 1) := List.drop_eq_getElem_cons (by simpa using ha)
  have e2 : b.data.toList.drop k = b[k] :: b.data.toList.drop (k + 1) := List.drop_eq_getElem_cons (by simpa using hb)
  rw [e1, e2, cmpL]

set_option maxHeartbeats 1000000 in
theorem compare_any (a b : ByteArray) (w : World) (ha : a.size ≤ 2000000) (hb : b.size ≤ 2000000) :
    Calls Tryd.prog 83 #[.string a, .string b] w fun e w' => e = .returned (.int .i64 (cmpL a.data.toList b.data.toList)) ∧ ∃ n, w' = w.drewN n := by
  go_enter Tryd.func83, Tryd.ntmps83
  go_wp2
  go_loopw [11] (fun i wr => ∃ (k n : Nat), k ≤ a.size ∧ k ≤ b.size ∧ i = .int .i64 k ∧ wr = w.drewN n ∧ cmpL a.data.toList b.data.toList = cmpL (a.data.toList.drop k) (b.data.toList.drop k)) (fun i _ => a.size - (intOf i).toNat)
  case atStart => exact ⟨0, 0, Nat.zero_le _, Nat.zero_le _, rfl, rfl, rfl⟩
  case round =>
    obtain ⟨k, n, hka, hkb, rfl, rfl, hc⟩ := hrel
    have HC : Hid (cmpL a.data.toList b.data.toList = cmpL (a.data.toList.drop k) (b.data.toList.drop k)) := hc
    clear hc
    by_cases hlt : k < a.size ∧ k < b.size
    · obtain ⟨h1, h2⟩ := hlt
      have HS : Hid (cmpL (a.data.toList.drop k) (b.data.toList.drop k) = if a[k] = b[k] then cmpL (a.data.toList.drop (k + 1)) (b.data.toList.drop (k + 1)) else if a[k] = 47 then -1 else if b[k] = 47 then 1 else if a[k] < b[k] then -1 else 1) := cmpL_step a b k h1 h2
      have hmin : (k : Int) < min (a.size : Int) (b.size : Int) := by omega
      by_cases he : a[k] = b[k]
      · have he' : ((a[k].toNat : Int) == (b[k].toNat : Int)) = true := by rw [u8_eq]; simpa using he
        go_wp2
        go_quiet (fail)
        go_wp2
        exact ⟨⟨k + 1, n + nq, by omega, by omega, by go_num, rfl, by rw [HC.out, HS.out, if_pos he]⟩, by simp [intOf]; omega⟩
      · have he' : ((a[k].toNat : Int) == (b[k].toNat : Int)) = false := by rw [u8_eq]; simpa using he
        by_cases ha47 : a[k] = 47
        · have g1 : ((a[k].toNat : Int) == 47) = true := by rw [u8_47]; simpa using ha47
          go_wp2
          go_quiet (fail)
          go_wp2
          go_ret
          exact ⟨by rw [HC.out, HS.out, if_neg he, if_pos ha47]; rfl, _, rfl⟩
        · have g1 : ((a[k].toNat : Int) == 47) = false := by rw [u8_47]; simpa using ha47
          by_cases hb47 : b[k] = 47
          · have g2 : ((b[k].toNat : Int) == 47) = true := by rw [u8_47]; simpa using hb47
            go_wp2
            go_quiet (fail)
            go_wp2
            go_ret
            exact ⟨by rw [HC.out, HS.out, if_neg he, if_neg ha47, if_pos hb47]; rfl, _, rfl⟩
          · have g2 : ((b[k].toNat : Int) == 47) = false := by rw [u8_47]; simpa using hb47
            have HV : Hid ((if a[k] < b[k] then (-1 : Int) else 1) = cmp8 (a[k].toNat : Int) (b[k].toNat : Int)) := by
              show (if a[k] < b[k] then (-1 : Int) else 1) = cmp8 (a[k].toNat : Int) (b[k].toNat : Int)
              have hne : a[k].toNat ≠ b[k].toNat := fun e => he (UInt8.toNat_inj.1 e)
              have hlt : a[k] < b[k] ↔ a[k].toNat < b[k].toNat := UInt8.lt_iff_toNat_lt
              unfold cmp8
              by_cases hl : a[k].toNat < b[k].toNat
              · rw [if_pos (hlt.2 hl), if_pos (by omega)]
              · rw [if_neg (fun h => hl (hlt.1 h)), if_neg (by omega), if_pos (by omega)]
            go_wp2
            go_quiet (fail)
            go_wp2
            rename Nat => n2
            generalize hW : w.drewN (n + n2) = W
            go_quiet (first | (go_at_call 104; exact Calls.quiet_of_same (cmp8_any _ _ _)))
            go_wp2
            go_ret
            exact ⟨by rw [HC.out, HS.out, if_neg he, if_neg ha47, if_neg hb47, HV.out]; rfl, n + n2 + nq, by rw [← hW, World.drewN_drewN]⟩
    · have hmin : ¬ (k : Int) < min (a.size : Int) (b.size : Int) := by omega
      go_wp2_with (go_at_call 105; refine (Tryd.cmp_Compare_int _ _ _).mono ?_; rintro e w' ⟨rfl, rfl⟩)
      go_ret
      refine ⟨?_, _, rfl⟩
      rw [HC.out]
      by_cases h1 : a.size ≤ k
      · rw [List.drop_of_length_le (by simpa using h1)]
        by_cases h2 : b.size ≤ k
        · rw [List.drop_of_length_le (by simpa using h2)]
          have : Lib.compareInt (a.size : Int) (b.size : Int) = 0 := by rw [Lib.compareInt, if_neg (by omega), if_neg (by omega)]
          rw [cmpL]; simp [this]
        · rw [List.drop_eq_getElem_cons (by simp; omega : k < b.data.toList.length)]
          have : Lib.compareInt (a.size : Int) (b.size : Int) = -1 := by rw [Lib.compareInt, if_pos (by omega)]
          rw [cmpL]; simp [this]
      · rw [List.drop_of_length_le (l := b.data.toList) (by simp; omega), List.drop_eq_getElem_cons (by simp; omega : k < a.data.toList.length)]
        have : Lib.compareInt (a.size : Int) (b.size : Int) = 1 := by rw [Lib.compareInt, if_neg (by omega), if_pos (by omega)]
        rw [cmpL]; simp [this]

theorem foldB_up (c : UInt8) (h1 : 65 ≤ c.toNat) (h2 : c.toNat ≤ 90) : ((foldB c).toNat : Int) = (c.toNat : Int) + 32 := by
  rw [foldB, if_pos ⟨h1, h2⟩, UInt8.toNat_add]
  have : (32 : UInt8).toNat = 32 := rfl
  omega
set_option maxHeartbeats 400000 in
theorem folded_any (c : UInt8) (w : World) : Calls Tryd.prog 133 #[.int .u8 c.toNat] w fun e w' => e = .returned (.int .u8 (foldB c).toNat) ∧ w' = w := by
  by_cases h1 : (65 : Int) ≤ (c.toNat : Int)
  · by_cases h2 : (c.toNat : Int) ≤ 90
    · have hf := foldB_up c (by omega) (by omega)
      go_enter Tryd.func133, Tryd.ntmps133
      go_wp2
      go_ret
      exact ⟨by rw [hf]; simp [IntKind.wrap, IntKind.bits, IntKind.signed]; omega, rfl⟩
    · have hf : foldB c = c := by rw [foldB, if_neg (by omega)]
      go_enter Tryd.func133, Tryd.ntmps133
      go_wp2
      go_ret
      exact ⟨rfl, rfl⟩
  · have hf : foldB c = c := by rw [foldB, if_neg (by omega)]
    go_enter Tryd.func133, Tryd.ntmps133
    go_wp2
    go_ret
    exact ⟨rfl, rfl⟩

theorem ba_toList (a : ByteArray) : a.toList = a.data.toList := by
  exact Lib.toList_data a
theorem take_map_snoc (a : ByteArray) (k : Nat) (h : k < a.size) : (a.data.toList.take (k + 1)).map foldB = (a.data.toList.take k).map foldB ++ [foldB a[k]] := by
  rw [take_snoc a k h]; simp

set_option maxHeartbeats 1000000 in
theorem same_any (a b : ByteArray) (fold : Bool) (w : World) (ha : a.size ≤ 2000000) (hb : b.size ≤ 2000000) :
    Calls Tryd.prog 115 #[.string a, .string b, .bool fold] w fun e w' => e = .returned (.bool (sameB fold a.data.toList b.data.toList)) ∧ ∃ n, w' = w.drewN n := by
  cases fold
  · go_enter Tryd.func115, Tryd.ntmps115
    go_wp2
    go_ret
    exact ⟨ret_bool (by simp [sameB, ba_toList]), 0, rfl⟩
  · by_cases hl : a.size = b.size
    · have hl' : ((a.size : Int) != (b.size : Int)) = false := by simp; omega
      go_enter Tryd.func115, Tryd.ntmps115
      go_wp2
      go_loopw [22] (fun i wr => ∃ (k n : Nat), k ≤ a.size ∧ i = .int .i64 k ∧ wr = w.drewN n ∧ (a.data.toList.take k).map foldB = (b.data.toList.take k).map foldB) (fun i _ => a.size - (intOf i).toNat)
      case atStart => exact ⟨0, 0, Nat.zero_le _, rfl, rfl, rfl⟩
      case round =>
        obtain ⟨k, n, hka, rfl, rfl, hc⟩ := hrel
        have HC : Hid ((a.data.toList.take k).map foldB = (b.data.toList.take k).map foldB) := hc
        clear hc
        by_cases hlt : k < a.size
        · have h2 : k < b.size := by omega
          have HA : Hid ((a.data.toList.take (k + 1)).map foldB = (a.data.toList.take k).map foldB ++ [foldB a[k]]) := take_map_snoc a k hlt
          have HB : Hid ((b.data.toList.take (k + 1)).map foldB = (b.data.toList.take k).map foldB ++ [foldB b[k]]) := take_map_snoc b k h2
          generalize hW : w.drewN n = W
          by_cases he : foldB a[k] = foldB b[k]
          · have he' : (((foldB a[k]).toNat : Int) != ((foldB b[k]).toNat : Int)) = false := by rw [he]; simp
            go_wp2
            go_quiet (first | (go_at_call 133; exact Calls.quiet_of_same (folded_any _ _)))
            go_wp2
            exact ⟨⟨k + 1, n + nq, by omega, by go_num, by rw [← hW, World.drewN_drewN], by rw [HA.out, HB.out, HC.out, he]⟩, by simp [intOf]; omega⟩
          · have he' : (((foldB a[k]).toNat : Int) != ((foldB b[k]).toNat : Int)) = true := by
              simp; intro e; exact he (UInt8.toNat_inj.1 (by omega))
            have HV : Hid (sameB true a.data.toList b.data.toList = false) := by
              show sameB true a.data.toList b.data.toList = false
              cases hs : sameB true a.data.toList b.data.toList with
              | false => rfl
              | true =>
                exfalso
                simp only [sameB, if_true] at hs
                have hs' := eq_of_beq hs
                apply he
                have e1 := congrArg (fun l => l[k]?) hs'
                have e2 : foldB (a.data[k]'hlt) = foldB (b.data[k]'h2) := by simpa [hlt, h2] using e1
                exact e2
            go_wp2
            go_quiet (first | (go_at_call 133; exact Calls.quiet_of_same (folded_any _ _)))
            go_wp2
            go_ret
            exact ⟨ret_bool HV.out.symm, n + nq, by rw [← hW, World.drewN_drewN]⟩
        · go_wp2
          go_ret
          refine ⟨ret_bool ?_, n, rfl⟩
          have h := HC.out
          rw [List.take_of_length_le (by simp; omega), List.take_of_length_le (by simp; omega)] at h
          simp [sameB, h]
    · have hl' : ((a.size : Int) != (b.size : Int)) = true := by simp; omega
      have HV : Hid (sameB true a.data.toList b.data.toList = (a.toList == b.toList)) := by
        show sameB true a.data.toList b.data.toList = (a.toList == b.toList)
        have h1 : sameB true a.data.toList b.data.toList = false := by
          cases hs : sameB true a.data.toList b.data.toList with
          | false => rfl
          | true =>
            exfalso
            simp only [sameB, if_true] at hs
            have := congrArg List.length (eq_of_beq hs)
            simp at this
            omega
        have h2 : (a.toList == b.toList) = false := by
          cases hs : (a.toList == b.toList) with
          | false => rfl
          | true =>
            exfalso
            have := congrArg List.length (eq_of_beq hs)
            simp [ba_toList] at this
            omega
        rw [h1, h2]
      go_enter Tryd.func115, Tryd.ntmps115
      go_wp2
      go_ret
      exact ⟨ret_bool HV.out.symm, 0, rfl⟩

/-- The path above: all ahead of the last slash. -/
def parentB (s : ByteArray) : ByteArray := if Lib.lastIndexByte s 47 < 0 then ⟨#[]⟩ else s.extract 0 (Lib.lastIndexByte s 47).toNat
set_option maxHeartbeats 400000 in
theorem parent_any (s : ByteArray) (w : World) (hs : s.size ≤ 2000000) (hl : Lib.lastIndexByte s 47 ≤ s.size) : Calls Tryd.prog 113 #[.string s] w fun e w' => e = .returned (.string (parentB s)) ∧ w' = w := by
  by_cases h : Lib.lastIndexByte s 47 < 0
  · have hv : parentB s = ⟨#[]⟩ := by rw [parentB, if_pos h]
    go_enter Tryd.func113, Tryd.ntmps113
    go_wp2_with (go_at_call 132; refine (Tryd.strings_LastIndexByte _ _ (by omega) _).mono ?_; rintro e w' ⟨rfl, rfl⟩)
    go_ret
    exact ⟨by rw [hv]; rfl, rfl⟩
  · obtain ⟨i, hi⟩ := Int.eq_ofNat_of_zero_le (by omega : 0 ≤ Lib.lastIndexByte s 47)
    have hv : parentB s = s.extract 0 i := by rw [parentB, if_neg h, hi]; simp
    go_enter Tryd.func113, Tryd.ntmps113
    go_wp2_with (go_at_call 132; refine (Tryd.strings_LastIndexByte _ _ (by omega) _).mono ?_; rintro e w' ⟨rfl, rfl⟩; rw [hi])
    go_ret
    exact ⟨by rw [hv]; rfl, rfl⟩

def fieldsB (o : EntD) : Bool := decide (0 ≤ o.mode) && decide (o.mode ≤ 511) && (if o.dir then decide (o.id = 0) && decide (o.size = 0) else decide (1 ≤ o.id) && decide (o.id ≤ 9999) && decide (0 ≤ o.size) && decide (o.size ≤ 100))
set_option maxHeartbeats 1000000 in
theorem fieldsFit_any (o : EntD) (w : World) : Calls Tryd.prog 97 #[.agg #[.string o.path, .bool o.dir, .int .i64 o.id, .int .i64 o.size, .int .i64 o.mode]] w fun e w' => e = .returned (.bool (fieldsB o)) ∧ Below w.heap.size w w' := by
  obtain ⟨p, d, i, z, m⟩ := o
  have hb : ∀ ob, Below w.heap.size w (w.alloc ob) := fun ob => (Below.refl _ _).alloc (Nat.le_refl _) ob
  cases d
  all_goals
    go_enter Tryd.func97, Tryd.ntmps97
    go_wp2
    all_goals go_ret
    all_goals refine ⟨ret_bool ?_, hb _⟩
    all_goals (rw [Bool.eq_iff_iff]; simp [fieldsB] at *; try omega)
end Go.Proofs.YtjaepomjdknieaaDoor
