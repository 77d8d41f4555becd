/- The reference's order of paths, its parent, and whether two texts are one. -/
import Derived.Test.YtjaepomjdknieaaDoorCD
namespace Go.Proofs.YtjaepomjdknieaaDoor
open Go.RowKit
set_option linter.unusedVariables false
set_option linter.unusedSimpArgs false

/-- The order of lists of names. -/
def lessN : List (List UInt8) → List (List UInt8) → Bool
  | [], [] => false
  | [], _ :: _ => true
  | _ :: _, [] => false
  | a :: xs, b :: ys => if a = b then lessN xs ys else Op.bytesLess a b

theorem lessN_step (x y : List ByteArray) (k : Nat) (ha : k < x.length) (hb : k < y.length) : lessN ((x.drop k).map (·.data.toList)) ((y.drop k).map (·.data.toList)) =
    if x[k].data.toList = y[k].data.toList then lessN ((x.drop (k + 1)).map (·.data.toList)) ((y.drop (k + 1)).map (·.data.toList)) else Op.bytesLess x[k].data.toList y[k].data.toList := by
  rw [List.drop_eq_getElem_cons ha, List.drop_eq_getElem_cons hb, List.map_cons, List.map_cons, lessN]

set_option maxHeartbeats 1000000 in
theorem less_any (a b : ByteArray) (w : World) (ha : a.size ≤ 1500000) (hb : b.size ≤ 1500000) :
    Calls Tryd.prog 34 #[.string a, .string b] w fun e w' => e = .returned (.bool (lessN (spl a.data.toList) (spl b.data.toList))) ∧ Below w.heap.size w w' := by
  have hA1 : (1 : Nat) = 1 := rfl
  go_enter Tryd.func34, Tryd.ntmps34
  go_wp2_with (first | (go_at_call 59; clear hA1; refine (names_row _ _ (by omega)).mono ?_; rintro e w1 ⟨g1, cap1, x, rfl, hrow1, hmap1, hb1⟩) | (go_at_call 59; refine (names_row _ _ (by omega)).mono ?_; rintro e w2 ⟨g2, cap2, y, rfl, hrow2, hmap2, hb2⟩))
  have hx1 : x.length ≤ 1500001 := by
    have h1 := spl_length_le a.data.toList
    rw [← hmap1, List.length_map, lenD] at h1
    omega
  have hy1 : y.length ≤ 1500001 := by
    have h1 := spl_length_le b.data.toList
    rw [← hmap2, List.length_map, lenD] at h1
    omega
  have HX : Hid (x.map (·.data.toList) = spl a.data.toList) := hmap1
  have HY : Hid (y.map (·.data.toList) = spl b.data.toList) := hmap2
  have HRX : Hid (∀ (j : Nat) (h : j < x.length), w2.cell? ⟨g1, j, none⟩ = some (.string x[j])) := fun j h => cell_kept hb2 hrow1.2.1 (hrow1.2.2 j h)
  have HRY : Hid (∀ (j : Nat) (h : j < y.length), w2.cell? ⟨g2, j, none⟩ = some (.string y[j])) := fun j h => hrow2.2.2 j h
  have hbb : Below w.heap.size w w2 := hb1.trans (hb2.mono hb1.size)
  clear hmap1 hmap2 hrow1 hrow2
  go_loopw [7] (fun i wr => ∃ (k n : Nat), k ≤ x.length ∧ k ≤ y.length ∧ i = .int .i64 k ∧ wr = w2.drewN n ∧ lessN (spl a.data.toList) (spl b.data.toList) = lessN ((x.drop k).map (·.data.toList)) ((y.drop k).map (·.data.toList))) (fun i _ => x.length - (intOf i).toNat)
  case atStart => exact ⟨0, 0, Nat.zero_le _, Nat.zero_le _, rfl, rfl, by rw [← HX.out, ← HY.out]; rfl⟩
  case round =>
    obtain ⟨k, n, hkx, hky, rfl, rfl, hd⟩ := hrel
    have HD : Hid (lessN (spl a.data.toList) (spl b.data.toList) = lessN ((x.drop k).map (·.data.toList)) ((y.drop k).map (·.data.toList))) := hd
    clear hd
    have hbn : Below w.heap.size w (w2.drewN n) := hbb.trans ⟨rfl, rfl, rfl, Nat.le_refl _, fun _ _ => rfl⟩
    by_cases hlt : k < x.length
    · by_cases hlt2 : k < y.length
      · have HS := lessN_step x y k hlt hlt2
        have cx : (w2.drewN n).cell? ⟨g1, k, none⟩ = some (.string x[k]) := HRX.out k hlt
        have cy : (w2.drewN n).cell? ⟨g2, k, none⟩ = some (.string y[k]) := HRY.out k hlt2
        generalize x[k] = p at *
        generalize y[k] = q at *
        have HSS : Hid (lessN ((x.drop k).map (·.data.toList)) ((y.drop k).map (·.data.toList)) = if p.data.toList = q.data.toList then lessN ((x.drop (k + 1)).map (·.data.toList)) ((y.drop (k + 1)).map (·.data.toList)) else Op.bytesLess p.data.toList q.data.toList) := HS
        clear HS
        generalize hW : w2.drewN n = W at *
        by_cases he : p = q
        · subst he
          go_wp2
          go_quiet (fail)
          go_wp2
          exact ⟨⟨k + 1, n + nq, by omega, by omega, by go_num, by rw [← hW, World.drewN_drewN], by rw [HD.out, HSS.out, if_pos (by trivial)]⟩, by simp [intOf]; omega⟩
        · have he' : (!p.toList == q.toList) = true := by
            have h2 : p.data.toList ≠ q.data.toList := fun e => he (by rw [← eta p, ← eta q, e])
            simpa [ba_toList] using h2
          go_wp2
          go_quiet (fail)
          go_wp2
          rename Nat => n1
          go_quiet (fail)
          go_wp2
          go_ret
          refine ⟨ret_bool ?_, hbn.trans ⟨rfl, rfl, rfl, Nat.le_refl _, fun _ _ => rfl⟩⟩
          rw [HD.out, HSS.out, if_neg (fun e => he (by rw [← eta p, ← eta q, e]))]
          rw [ba_toList, ba_toList]
      · go_wp2
        go_ret
        refine ⟨ret_bool ?_, hbn⟩
        rw [HD.out, List.drop_of_length_le (by omega : y.length ≤ k), List.drop_eq_getElem_cons hlt, List.map_cons, List.map_nil, lessN]
        simp; omega
    · go_wp2
      go_ret
      refine ⟨ret_bool ?_, hbn⟩
      rw [HD.out, List.drop_of_length_le (by omega : x.length ≤ k), List.map_nil]
      by_cases hlt2 : k < y.length
      · rw [List.drop_eq_getElem_cons hlt2, List.map_cons, lessN]; simp; omega
      · rw [List.drop_of_length_le (by omega : y.length ≤ k), List.map_nil, lessN]; simp; omega

/-- Names, as a path. -/
def joinL : List (List UInt8) → List UInt8
  | [] => []
  | [x] => x
  | x :: y :: t => x ++ 47 :: joinL (y :: t)
theorem joinL_snoc (l : List (List UInt8)) (x : List UInt8) (h : l ≠ []) : joinL (l ++ [x]) = joinL l ++ 47 :: x := by
  induction l with
  | nil => exact absurd rfl h
  | cons a t ih =>
    cases t with
    | nil => rfl
    | cons b t => 
      have := ih (by simp)
      simp only [List.cons_append] at this ⊢
      rw [joinL, this, joinL]; simp
theorem joinL_take (l : List (List UInt8)) (k : Nat) (h : k < l.length) : joinL (l.take (k + 1)) = joinL (l.take k) ++ ((if 0 < k then [47] else []) ++ l[k]) := by
  rw [List.take_succ_eq_append_getElem h]
  cases k with
  | zero => simp [joinL]
  | succ k => rw [joinL_snoc _ _ (by intro e; have := congrArg List.length e; rw [List.length_take] at this; simp only [List.length_nil] at this; omega), if_pos (by omega)]; simp
theorem joinL_le (l : List (List UInt8)) (k : Nat) : (joinL (l.take k)).length ≤ (joinL l).length := by
  by_cases h : k < l.length
  · have key : ∀ n, k + n ≤ l.length → (joinL (l.take k)).length ≤ (joinL (l.take (k + n))).length := by
      intro n
      induction n with
      | zero => intro _; exact Nat.le_refl _
      | succ n ih =>
        intro hn
        have := ih (by omega)
        rw [← Nat.add_assoc, joinL_take l (k + n) (by omega)]
        simp only [List.length_append]
        omega
    have := key (l.length - k) (by omega)
    rwa [show k + (l.length - k) = l.length by omega, List.take_length] at this
  · rw [List.take_of_length_le (by omega)]; exact Nat.le_refl _
theorem joinL_spl (l : List UInt8) : joinL (spl l) = l := by
  suffices h : ∀ n (l : List UInt8), l.length = n → joinL (spl l) = l from h _ l rfl
  intro n
  induction n with
  | zero => intro l hl; rw [List.length_eq_zero_iff.1 hl]; rfl
  | succ n ih =>
    intro l hl
    have hne : l ≠ [] := by intro e; rw [e] at hl; cases hl
    obtain ⟨p, c, rfl⟩ : ∃ p c, l = p ++ [c] := ⟨l.dropLast, l.getLast hne, (List.dropLast_concat_getLast hne).symm⟩
    have hp := ih p (by simpa using hl)
    unfold spl at hp ⊢
    rw [splSt_snoc, splStep]
    split
    · next hc =>
      rw [joinL_snoc _ _ (by simp), hp, hc]
    · by_cases h0 : (splSt p).1 = []
      · rw [h0] at hp ⊢
        simp only [List.nil_append, joinL] at hp ⊢
        rw [hp]
      · rw [joinL_snoc _ _ h0] at hp ⊢
        show joinL (splSt p).1 ++ 47 :: ((splSt p).2 ++ [c]) = p ++ [c]
        rw [← List.cons_append, ← List.append_assoc, hp]
def parentL (l : List UInt8) : List UInt8 := joinL (splSt l).1
theorem parentL_none (l : List UInt8) (h : ∀ c ∈ l, c ≠ 47) : parentL l = [] := by
  have := fold_none l h []
  simp [parentL, splSt, this, joinL]
theorem parentL_cut (a b : List UInt8) (h : ∀ c ∈ b, c ≠ 47) : parentL (a ++ 47 :: b) = a := by
  have e := fold_none b h []
  have : (splSt (a ++ 47 :: b)).1 = spl a := by
    simp only [splSt, List.foldl_append, List.foldl_cons]
    rw [splStep, if_pos rfl, fold_pre b, e]
    simp [spl, splSt]
  rw [parentL, this, joinL_spl]
theorem u8_not47 (c : UInt8) (h : (c.toNat : Int) ≠ 47) : c ≠ 47 := by rintro rfl; exact h rfl
theorem getB (s : ByteArray) (j : Nat) (h : j < s.size) : s.data[j]! = s.data.toList[j]'(by rw [lenD]; exact h) := by
  rw [Array.getElem_toList, getElem!_pos s.data j h]
theorem parentB_eq (s : ByteArray) : (parentB s).data.toList = parentL s.data.toList := by
  rcases Lib.lastIndexByte_spec s 47 with ⟨h, h1⟩ | ⟨i, hi, h, h1, h2⟩
  · rw [parentL_none, parentB, if_pos (by omega)]
    intro c hc
    obtain ⟨j, hj, rfl⟩ := List.mem_iff_getElem.1 hc
    have := h1 j (by rw [← lenD]; exact hj)
    rw [getB s j (by rw [← lenD]; exact hj)] at this
    exact u8_not47 _ this
  · have hi' : i < s.data.toList.length := by rw [lenD]; exact hi
    have hc : s.data.toList[i] = 47 := by
      rw [getB s i hi] at h1
      apply UInt8.toNat_inj.1
      have : (47 : UInt8).toNat = 47 := rfl
      omega
    have e : s.data.toList = s.data.toList.take i ++ 47 :: s.data.toList.drop (i + 1) := by
      rw [← hc, ← List.drop_eq_getElem_cons hi', List.take_append_drop]
    have hp : parentL s.data.toList = s.data.toList.take i := by
      rw [e, parentL_cut]
      · rw [← e]
      · intro c hc
        obtain ⟨j, hj, rfl⟩ := List.mem_iff_getElem.1 hc
        rw [List.getElem_drop]
        have hj' : i + 1 + j < s.size := by rw [List.length_drop, lenD] at hj; omega
        have := h2 (i + 1 + j) (by omega) hj'
        rw [getB s _ hj'] at this
        exact u8_not47 _ this
    rw [hp, parentB, if_neg (by omega), h]
    simp

set_option maxHeartbeats 1000000 in
theorem joined_any (g cap n : Nat) (out : List ByteArray) (w : World) (hn : n ≤ out.length) (hl : out.length ≤ 2000000) (hj : (joinL (out.map (·.data.toList))).length ≤ 1500000) (hr : ∀ (j : Nat) (h : j < out.length), w.cell? ⟨g, j, none⟩ = some (.string out[j])) :
    Calls Tryd.prog 103 #[.slice (some ⟨g, 0, none⟩) n cap] w fun e w' => ∃ s, e = .returned (.string s) ∧ s.data.toList = joinL ((out.map (·.data.toList)).take n) ∧ ∃ n, w' = w.drewN n := by
  have HJ : Hid (∀ k, (joinL ((out.map (·.data.toList)).take k)).length ≤ 1500000) := fun k => Nat.le_trans (joinL_le _ k) hj
  have HR : Hid (∀ (j : Nat) (h : j < out.length), w.cell? ⟨g, j, none⟩ = some (.string out[j])) := hr
  clear hj hr
  go_enter Tryd.func103, Tryd.ntmps103
  go_wp2
  go_loopw [3, 4] (fun s i wr => ∃ (k m : Nat) (t : ByteArray), k ≤ n ∧ s = .string t ∧ i = .int .i64 k ∧ wr = w.drewN m ∧ t.data.toList = joinL ((out.map (·.data.toList)).take k)) (fun s i _ => n - (intOf i).toNat)
  case atStart => exact ⟨0, 0, _, Nat.zero_le _, rfl, rfl, rfl, rfl⟩
  case round =>
    obtain ⟨k, m, t, hk, rfl, rfl, rfl, hd⟩ := hrel
    have hts : t.size ≤ 1500000 := by rw [← lenD, hd]; exact HJ.out k
    have HD : Hid (t.data.toList = joinL ((out.map (·.data.toList)).take k)) := hd
    clear hd
    by_cases hlt : k < n
    · have cx : (w.drewN m).cell? ⟨g, k, none⟩ = some (.string (out[k]'(by omega))) := HR.out k (by omega)
      have HT : Hid (joinL ((out.map (·.data.toList)).take (k + 1)) = joinL ((out.map (·.data.toList)).take k) ++ ((if 0 < k then [47] else []) ++ (out[k]'(by omega)).data.toList)) := by
        show joinL ((out.map (·.data.toList)).take (k + 1)) = joinL ((out.map (·.data.toList)).take k) ++ ((if 0 < k then [47] else []) ++ (out[k]'(by omega)).data.toList)
        have := joinL_take (out.map (·.data.toList)) k (by simp; omega)
        simpa using this
      generalize out[k]'(by omega) = p at *
      have hps : p.size ≤ 1500000 := by
        have h1 := HJ.out (k + 1)
        rw [HT.out] at h1
        simp only [List.length_append, lenD] at h1
        omega
      generalize hW : w.drewN m = W at *
      by_cases h0 : 0 < k
      · go_wp2
        exact ⟨⟨k + 1, m, _, by omega, rfl, by go_num, hW.symm, by rw [HT.out, if_pos h0]; simp [HD.out]⟩, by simp [intOf]; omega⟩
      · go_wp2
        exact ⟨⟨k + 1, m, _, by omega, rfl, by go_num, hW.symm, by rw [HT.out, if_neg h0]; simp [HD.out]⟩, by simp [intOf]; omega⟩
    · go_wp2
      go_ret
      exact ⟨t, rfl, by rw [HD.out, show k = n by omega], m, rfl⟩

theorem splSt_take (l : List UInt8) : (splSt l).1 = (spl l).take ((spl l).length - 1) := by
  simp [spl]

theorem names_row2 (s : ByteArray) (w : World) (hs : s.size ≤ 2000000) :
    Calls Tryd.prog 59 #[.string s] w fun e w' => ∃ g cap out, e = .returned (.slice (some ⟨g, 0, none⟩) (out : List ByteArray).length cap) ∧ out.length ≤ cap ∧ StrRow w' w.heap.size g out ∧ out.map (·.data.toList) = spl s.data.toList ∧ Below w.heap.size w w' := by
  refine (names_any s w hs).mono ?_
  rintro e w' ⟨v, out, rfl, hown, hmap, hb⟩
  have hpos : 1 ≤ out.length := by have := spl_pos s.data.toList; rw [← hmap] at this; simpa using this
  obtain ⟨hlen, h2⟩ := hown
  rcases h2 with ⟨rfl, h0⟩ | ⟨g, cap, cur, rfl, hbg, hg, hn, hm, hsz, htake⟩
  · omega
  · refine ⟨g, cap, out, rfl, by omega, ⟨hbg, (Array.getElem?_eq_some_iff.1 hg).1, fun j hj => ?_⟩, hmap, hb⟩
    have e1 : (cur.toList.take (out.length * 1))[j]? = some (.string out[j]) := by rw [htake]; simp [hj]
    rw [List.getElem?_take, if_pos (by omega)] at e1
    simp only [World.cell?, hg]
    simpa using e1
set_option maxHeartbeats 1000000 in
theorem refParent_any (s : ByteArray) (w : World) (hs : s.size ≤ 1500000) :
    Calls Tryd.prog 81 #[.string s] w fun e w' => e = .returned (.string (parentB s)) ∧ Below w.heap.size w w' := by
  go_enter Tryd.func81, Tryd.ntmps81
  go_wp2_with (first | (go_at_call 59; refine (names_row2 _ _ (by omega)).mono ?_; rintro e w1 ⟨g, cap, out, rfl, hcap, hrow, hmap, hb⟩; have hpos : 1 ≤ out.length := (by have := spl_pos s.data.toList; rw [← hmap] at this; simpa using this); have hol : out.length ≤ 1500001 := (by have h1 := spl_length_le s.data.toList; rw [← hmap, List.length_map, lenD] at h1; omega)) | (go_at_call 103; refine Calls.mono (joined_any g _ (out.length - 1) out _ (by omega) (by omega) (by rw [hmap, joinL_spl, lenD]; exact hs) hrow.2.2) ?_; rintro e w2 ⟨t, rfl, ht, n, rfl⟩))
  go_ret
  refine ⟨?_, hb.trans ⟨rfl, rfl, rfl, Nat.le_refl _, fun _ _ => rfl⟩⟩
  have : parentB s = t := by
    rw [← eta (parentB s), ← eta t, parentB_eq, ht, hmap, parentL, splSt_take, ← hmap, List.length_map]
  rw [this]; rfl

theorem one_any (a b : ByteArray) (w : World) (ha : a.size ≤ 1500000) (hb : b.size ≤ 1500000) :
    Calls Tryd.prog 82 #[.string a, .string b, .bool false] w fun e w' => e = .returned (.bool (a.data.toList == b.data.toList)) ∧ ∃ n, w' = w.drewN n := by
  by_cases hl : a.size = b.size
  · have hl' : ((a.size : Int) != (b.size : Int)) = false := by simp; omega
    have HL : Hid (a.size = b.size) := hl
    clear hl
    go_enter Tryd.func82, Tryd.ntmps82
    go_wp2
    go_loopw [7] (fun i wr => ∃ (k n : Nat), k ≤ a.size ∧ i = .int .i64 k ∧ wr = w.drewN n ∧ a.data.toList.take k = b.data.toList.take k) (fun i _ => a.size - (intOf i).toNat)
    case atStart => exact ⟨0, 0, Nat.zero_le _, rfl, rfl, rfl⟩
    case round =>
      obtain ⟨k, n, hka, rfl, rfl, hc⟩ := hrel
      have HC : Hid (a.data.toList.take k = b.data.toList.take k) := hc
      clear hc
      by_cases hlt : k < a.size
      · have h2 : k < b.size := by have := HL.out; omega
        have HA : Hid (a.data.toList.take (k + 1) = a.data.toList.take k ++ [a[k]]) := take_snoc a k hlt
        have HB : Hid (b.data.toList.take (k + 1) = b.data.toList.take k ++ [b[k]]) := take_snoc b k h2
        generalize hW : w.drewN n = W
        by_cases he : a[k] = b[k]
        · have he' : (((a[k]).toNat : Int) != ((b[k]).toNat : Int)) = false := by rw [he]; simp
          have HE : Hid (a[k] = b[k]) := he
          clear he
          go_wp2
          exact ⟨⟨k + 1, n, by omega, by go_num, hW.symm, by rw [HA.out, HB.out, HC.out, HE.out]⟩, by simp [intOf]; omega⟩
        · have he' : (((a[k]).toNat : Int) != ((b[k]).toNat : Int)) = true := by
            simp; intro e; exact he (UInt8.toNat_inj.1 (by omega))
          have HV : Hid ((a.data.toList == b.data.toList) = false) := by
            show (a.data.toList == b.data.toList) = false
            cases hs : (a.data.toList == b.data.toList) with
            | false => rfl
            | true =>
              exfalso
              have hs' := eq_of_beq hs
              apply he
              have e1 := congrArg (fun l => l[k]?) hs'
              have e2 : (a.data[k]'hlt) = (b.data[k]'h2) := by simpa [hlt, h2] using e1
              exact e2
          go_wp2
          go_ret
          exact ⟨ret_bool HV.out.symm, n, hW.symm⟩
      · go_wp2
        go_ret
        refine ⟨ret_bool ?_, n, rfl⟩
        have h := HC.out
        rw [List.take_of_length_le (by simp; omega), List.take_of_length_le (by simp; have := HL.out; omega)] at h
        simp [h]
  · have hl' : ((a.size : Int) != (b.size : Int)) = true := by simp; omega
    have HV : Hid ((a.data.toList == b.data.toList) = false) := by
      show (a.data.toList == b.data.toList) = false
      cases hs : (a.data.toList == b.data.toList) with
      | false => rfl
      | true =>
        exfalso
        have := congrArg List.length (eq_of_beq hs)
        rw [lenD, lenD] at this
        omega
    go_enter Tryd.func82, Tryd.ntmps82
    go_wp2
    go_ret
    exact ⟨ret_bool HV.out.symm, 0, rfl⟩
end Go.Proofs.YtjaepomjdknieaaDoor
