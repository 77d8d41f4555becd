/- The reference's Diff of two trees. -/
import Derived.Test.YtjaepomjdknieaaDoorDK0
namespace Go.Proofs.YtjaepomjdknieaaDoor
open Go.RowKit
set_option linter.unusedVariables false
set_option linter.unusedSimpArgs false

theorem new_ch' (w : World) (c : ChD) (n : Nat) (hn : n = w.heap.size) : ∀ j u, c.cells[j]? = some u → (w.alloc (.cells #[.string c.path, .int .i64 c.kind, .string c.src] 64)).cell? ((⟨n, 0, none⟩ : Addr).add j) = some u := by
  subst hn; exact new_ch w c
theorem less_d (a b : ByteArray) (w : World) (ha : a.size ≤ 1500000) (hb : b.size ≤ 1500000) :
    Calls Tryd.prog 34 #[.string a, .string b] w fun e w' => e = .returned (.bool (decide (cmpL a.data.toList b.data.toList < 0))) ∧ Below w.heap.size w w' := by
  have := less_any a b w ha hb
  rwa [less_cmp] at this
theorem cmp_flip (a b : List UInt8) : (cmpL a b < 0 → ¬ cmpL b a < 0) ∧ (0 < cmpL a b → cmpL b a < 0) ∧ (cmpL a b = 0 → ¬ cmpL b a < 0) := by
  have h1 := cmpL_key a b
  have h2 := cmpL_key b a
  refine ⟨fun h h' => ?_, fun h => ?_, fun h h' => ?_⟩
  · exact List.lt_irrefl _ (List.lt_trans (h1.1.1 h) (h2.1.1 h'))
  · exact h2.1.2 (h1.2.1.1 h)
  · have e := h1.2.2.1 h
    rw [e] at h'
    exact List.lt_irrefl _ ((cmpL_key b b).1.1 h')
theorem cmp_ne {a b : ByteArray} (h : cmpL a.data.toList b.data.toList ≠ 0) : (a.toList == b.toList) = false ∧ (b.toList == a.toList) = false := by
  have hne : a.data.toList ≠ b.data.toList := fun e => h ((cmpL_key _ _).2.2.2 e)
  rw [ba_toList, ba_toList]
  exact ⟨beq_false_of_ne hne, beq_false_of_ne (fun e => hne e.symm)⟩
theorem ne_empty {a : ByteArray} (h : pathL a.data.toList = true) : a.toList.isEmpty = false ∧ (a.toList == []) = false := by
  have := path_nonempty h
  rw [ba_toList]
  refine ⟨by simpa using this, by simpa using this⟩

set_option maxHeartbeats 8000000 in
set_option maxRecDepth 100000 in
theorem rdiff_nn (a1 : Option Addr) (c1 : Nat) (a2 : Option Addr) (c2 : Nat) (y1 y2 : Int) (w : World) 
    (HC1 : Hid (∀ u : World, Below w.heap.size w u → Calls Tryd.prog 10 #[.slice a1 0 c1, .bool false] u fun e u' => e = .returned (.tuple #[.int .i64 0, .int .i64 y1]) ∧ Below u.heap.size u u'))
    (HC2 : Hid (∀ u : World, Below w.heap.size w u → Calls Tryd.prog 10 #[.slice a2 0 c2, .bool false] u fun e u' => e = .returned (.tuple #[.int .i64 0, .int .i64 y2]) ∧ Below u.heap.size u u')) :
    Calls Tryd.prog 14 #[.slice a1 0 c1, .slice a2 0 c2] w fun e w' => ∃ v, e = .returned (.tuple #[v, .int .i64 0]) ∧ w'.ownsRow w.heap.size 64 3 v (diffL [] [] []).length (flatC (diffL [] [] [])) ∧ Below w.heap.size w w' := by
  have hS : TreeOk [] := ⟨by simp, fun o ho => by simp at ho, fun o ho => by simp at ho, fun i j hi => by simp at hi⟩
  have hT : TreeOk [] := ⟨by simp, fun o ho => by simp at ho, fun o ho => by simp at ho, fun i j hi => by simp at hi⟩
  obtain ⟨i0, hi, hz0, hz1, hz2⟩ := info_parts info64b
  have HL := hidD (diffL_len [] _ [] [] (Nat.le_refl _))
  have HSO := hidD hS
  have HTO := hidD hT
  have fewS := hS.few
  have fewT := hT.few
  clear hS hT
  go_enter Tryd.func14, Tryd.ntmps14
  go_wp2_with fail
  refine (HC1.out w (Below.refl _ _)).mono ?_
  rintro e w1 ⟨rfl, hb1'⟩
  go_wp2_with fail
  refine (HC2.out w1 hb1').mono ?_
  rintro e w2 ⟨rfl, hb2'⟩
  have HB2 : Hid (Below w.heap.size w w2) := hb1'.trans (hb2'.mono hb1'.size)
  clear hb1' hb2' HC1 HC2
  go_wp2
  go_loopw [10, 11, 12, 13, 14, 15] (fun vc vi vj vp va vq wr => ∃ (i j : Nat) (out : List ChD), i ≤ ([] : List EntD).length ∧ j ≤ ([] : List EntD).length ∧ vi = .int .i64 i ∧ vj = .int .i64 j ∧ wr.ownsRow w.heap.size 64 3 vc out.length (flatC out) ∧ Below w.heap.size w wr ∧ diffL [] [] [] = out ++ diffL [] (([] : List EntD).drop i) (([] : List EntD).drop j) ∧ Mrg [] [] i j) (fun _ vi vj _ _ _ _ => (([] : List EntD).length - (intOf vi).toNat) + (([] : List EntD).length - (intOf vj).toNat))
  case atStart => exact ⟨0, 0, [], by simp, by simp, rfl, rfl, World.ownsRow_nil _ _ _ _, HB2.out, rfl, Mrg.start _ _⟩
  case round =>
    obtain ⟨i, j, out, hi1, hj1, rfl, rfl, hown, hbel, hd, hmrg⟩ := hrel
    have HD := hidD hd
    have HM := hidD hmrg
    have hol : out.length ≤ ([] : List EntD).length + ([] : List EntD).length := by
      have := HL.out
      rw [hd, List.length_append] at this
      omega
    (try simp only [List.length_nil] at hol hi1 hj1)
    clear hd hmrg
    have HO := hidD hown
    have hbs := hbel.size
    have HBE := hidD hbel

    obtain rfl : i = 0 := by simpa using hi1

    obtain rfl : j = 0 := by simpa using hj1

    have HE := hidD (diffL_end [] [] [] 0 0 (by first | simp | omega) (by first | simp | omega))
    clear hown hbel
    go_wp2
    go_ret2
    have hL : diffL [] [] [] = out := by rw [HD.out, HE.out, List.append_nil]
    exact ⟨_, rfl, by rw [hL]; exact HO.out, HBE.out⟩

set_option maxHeartbeats 8000000 in
set_option maxRecDepth 100000 in
theorem rdiff_rn (b1 o1 c1 : Nat) (S : List EntD) (a2 : Option Addr) (c2 : Nat) (y1 y2 : Int) (w : World) (hb1 : b1 < w.heap.size) (h1 : EntsAt w b1 o1 S) (hs1 : ∀ o ∈ S, o.small) (hS : TreeOk S) 
    (HC1 : Hid (∀ u : World, Below w.heap.size w u → Calls Tryd.prog 10 #[.slice (some ⟨b1, o1, none⟩) S.length c1, .bool false] u fun e u' => e = .returned (.tuple #[.int .i64 0, .int .i64 y1]) ∧ Below u.heap.size u u'))
    (HC2 : Hid (∀ u : World, Below w.heap.size w u → Calls Tryd.prog 10 #[.slice a2 0 c2, .bool false] u fun e u' => e = .returned (.tuple #[.int .i64 0, .int .i64 y2]) ∧ Below u.heap.size u u')) :
    Calls Tryd.prog 14 #[.slice (some ⟨b1, o1, none⟩) S.length c1, .slice a2 0 c2] w fun e w' => ∃ v, e = .returned (.tuple #[v, .int .i64 0]) ∧ w'.ownsRow w.heap.size 64 3 v (diffL S S []).length (flatC (diffL S S [])) ∧ Below w.heap.size w w' := by
  have hT : TreeOk [] := ⟨by simp, fun o ho => by simp at ho, fun o ho => by simp at ho, fun i j hi => by simp at hi⟩
  obtain ⟨i0, hi, hz0, hz1, hz2⟩ := info_parts info64b
  have HL := hidD (diffL_len S _ S [] (Nat.le_refl _))
  have HSO := hidD hS
  have HTO := hidD hT
  have fewS := hS.few
  have fewT := hT.few
  clear hS hT
  go_enter Tryd.func14, Tryd.ntmps14
  go_wp2_with fail
  refine (HC1.out w (Below.refl _ _)).mono ?_
  rintro e w1 ⟨rfl, hb1'⟩
  go_wp2_with fail
  refine (HC2.out w1 hb1').mono ?_
  rintro e w2 ⟨rfl, hb2'⟩
  have HB2 : Hid (Below w.heap.size w w2) := hb1'.trans (hb2'.mono hb1'.size)
  clear hb1' hb2' HC1 HC2
  go_wp2
  go_loopw [10, 11, 12, 13, 14, 15] (fun vc vi vj vp va vq wr => ∃ (i j : Nat) (out : List ChD), i ≤ (S : List EntD).length ∧ j ≤ ([] : List EntD).length ∧ vi = .int .i64 i ∧ vj = .int .i64 j ∧ wr.ownsRow w.heap.size 64 3 vc out.length (flatC out) ∧ Below w.heap.size w wr ∧ diffL S S [] = out ++ diffL S ((S : List EntD).drop i) (([] : List EntD).drop j) ∧ Mrg S [] i j) (fun _ vi vj _ _ _ _ => ((S : List EntD).length - (intOf vi).toNat) + (([] : List EntD).length - (intOf vj).toNat))
  case atStart => exact ⟨0, 0, [], by simp, by simp, rfl, rfl, World.ownsRow_nil _ _ _ _, HB2.out, rfl, Mrg.start _ _⟩
  case round =>
    obtain ⟨i, j, out, hi1, hj1, rfl, rfl, hown, hbel, hd, hmrg⟩ := hrel
    have HD := hidD hd
    have HM := hidD hmrg
    have hol : out.length ≤ (S : List EntD).length + ([] : List EntD).length := by
      have := HL.out
      rw [hd, List.length_append] at this
      omega
    (try simp only [List.length_nil] at hol hi1 hj1)
    clear hd hmrg
    have HO := hidD hown
    have hbs := hbel.size
    have HBE := hidD hbel

    obtain rfl : j = 0 := by simpa using hj1

    by_cases hlt : i < S.length
    · have HPS : Hid (∀ u : World, Below w.heap.size w u → u.cell? ⟨b1, o1 + i * 5, none⟩ = some (.string S[i].path)) := fun u hu => (h1.below hu hb1) i hlt 0 _ rfl
      have hsS : S[i].path.size ≤ 1500000 := hs1 _ (List.getElem_mem hlt)
      have hnS := ne_empty (HSO.out.names _ (List.getElem_mem hlt))
      have HG := hidD (diffL_gone S S [] i 0 hlt (fun h => by simp at h))
      have HM2 := hidD (HM.out.gone HTO.out hlt (fun h => by simp at h))
      have HCH : Hid (∀ u : World, Below w.heap.size w u → Calls Tryd.prog 35 #[.slice (some ⟨b1, o1, none⟩) S.length c1, .slice a2 0 c2, .string S[i].path] u fun r w' => r = .returned (.agg #[.string S[i].path, .int .i64 2, .string ⟨#[]⟩]) ∧ Below u.heap.size u w') := fun u hu => step_gone (.row b1 o1 c1 S (by have := hu.size; omega) (h1.below hu hb1)) (.none a2 c2) HSO.out HTO.out HM.out hlt (fun h => by simp at h)
      generalize S[i].path = pS at *
      have s0 := HPS.out wr HBE.out
      obtain ⟨ns1, ns2⟩ := hnS
      clear hown hbel
      have B3 := HBE.out
      have O3 := HO.out
      have hb3s := hbs
      have HB3 := hidD B3
      have HO3 := hidD O3
      clear B3 O3
      go_wp2_with fail
      refine (HCH.out wr HB3.out).mono ?_
      rintro e w4 ⟨rfl, hb4⟩
      have B1 := HB3.out.trans (hb4.mono hb3s)
      have O1 := own_below hb4 HO3.out
      have hb4s := B1.size
      have a0 := HPS.out _ (B1.alloc hb4s (.cells #[.string pS, .int .i64 2, .string ⟨#[]⟩] 64))
      go_wp2_with (at_builtin; refine wpList_append_own _ rfl (.tmp 79) (.tmp 81) 39 rfl w.heap.size 64 i0 _ 3 40 Tryd.underlying39 hi hz0 hz1 hz2 rfl (by decide) _ _ _ rfl ((O1.alloc _).alloc _) ⟨_, 0, none⟩ 1 1 (ChD.cells ⟨pS, 2, ⟨#[]⟩⟩) rfl rfl (new_ch' _ _ _ (by simp only [World.size_alloc])) (chCells_one _) (by unfold maxLen; omega) (by omega) (by simp only [World.size_alloc]; omega) ?_; intro v1 w5 hown5 hg5 _; have R := grew (w1 := w4.alloc (.cells #[.string (ChD.path ⟨pS, 2, ⟨#[]⟩⟩), .int .i64 (ChD.kind ⟨pS, 2, ⟨#[]⟩⟩), .string (ChD.src ⟨pS, 2, ⟨#[]⟩⟩)] 64)) (c := ⟨pS, 2, ⟨#[]⟩⟩) (O1.alloc _) (B1.alloc hb4s _) hown5 hg5; have z0 := HPS.out w5 R.2)
      exact ⟨⟨i + 1, 0, _, by omega, by simp, by go_num, rfl, R.1, R.2, by rw [HD.out, HG.out]; simp, HM2.out⟩, by simp [intOf]; omega⟩
    · have HE := hidD (diffL_end S S [] i 0 (by first | simp | omega) (by first | simp | omega))
      clear hown hbel
      go_wp2
      go_ret2
      have hL : diffL S S [] = out := by rw [HD.out, HE.out, List.append_nil]
      exact ⟨_, rfl, by rw [hL]; exact HO.out, HBE.out⟩

set_option maxHeartbeats 8000000 in
set_option maxRecDepth 100000 in
theorem rdiff_nr (a1 : Option Addr) (c1 : Nat) (b2 o2 c2 : Nat) (T : List EntD) (y1 y2 : Int) (w : World) (hb2 : b2 < w.heap.size) (h2 : EntsAt w b2 o2 T) (hs2 : ∀ o ∈ T, o.small) (hT : TreeOk T) 
    (HC1 : Hid (∀ u : World, Below w.heap.size w u → Calls Tryd.prog 10 #[.slice a1 0 c1, .bool false] u fun e u' => e = .returned (.tuple #[.int .i64 0, .int .i64 y1]) ∧ Below u.heap.size u u'))
    (HC2 : Hid (∀ u : World, Below w.heap.size w u → Calls Tryd.prog 10 #[.slice (some ⟨b2, o2, none⟩) T.length c2, .bool false] u fun e u' => e = .returned (.tuple #[.int .i64 0, .int .i64 y2]) ∧ Below u.heap.size u u')) :
    Calls Tryd.prog 14 #[.slice a1 0 c1, .slice (some ⟨b2, o2, none⟩) T.length c2] w fun e w' => ∃ v, e = .returned (.tuple #[v, .int .i64 0]) ∧ w'.ownsRow w.heap.size 64 3 v (diffL [] [] T).length (flatC (diffL [] [] T)) ∧ Below w.heap.size w w' := by
  have hS : TreeOk [] := ⟨by simp, fun o ho => by simp at ho, fun o ho => by simp at ho, fun i j hi => by simp at hi⟩
  obtain ⟨i0, hi, hz0, hz1, hz2⟩ := info_parts info64b
  have HL := hidD (diffL_len [] _ [] T (Nat.le_refl _))
  have HSO := hidD hS
  have HTO := hidD hT
  have fewS := hS.few
  have fewT := hT.few
  clear hS hT
  go_enter Tryd.func14, Tryd.ntmps14
  go_wp2_with fail
  refine (HC1.out w (Below.refl _ _)).mono ?_
  rintro e w1 ⟨rfl, hb1'⟩
  go_wp2_with fail
  refine (HC2.out w1 hb1').mono ?_
  rintro e w2 ⟨rfl, hb2'⟩
  have HB2 : Hid (Below w.heap.size w w2) := hb1'.trans (hb2'.mono hb1'.size)
  clear hb1' hb2' HC1 HC2
  go_wp2
  go_loopw [10, 11, 12, 13, 14, 15] (fun vc vi vj vp va vq wr => ∃ (i j : Nat) (out : List ChD), i ≤ ([] : List EntD).length ∧ j ≤ (T : List EntD).length ∧ vi = .int .i64 i ∧ vj = .int .i64 j ∧ wr.ownsRow w.heap.size 64 3 vc out.length (flatC out) ∧ Below w.heap.size w wr ∧ diffL [] [] T = out ++ diffL [] (([] : List EntD).drop i) ((T : List EntD).drop j) ∧ Mrg [] T i j) (fun _ vi vj _ _ _ _ => (([] : List EntD).length - (intOf vi).toNat) + ((T : List EntD).length - (intOf vj).toNat))
  case atStart => exact ⟨0, 0, [], by simp, by simp, rfl, rfl, World.ownsRow_nil _ _ _ _, HB2.out, rfl, Mrg.start _ _⟩
  case round =>
    obtain ⟨i, j, out, hi1, hj1, rfl, rfl, hown, hbel, hd, hmrg⟩ := hrel
    have HD := hidD hd
    have HM := hidD hmrg
    have hol : out.length ≤ ([] : List EntD).length + (T : List EntD).length := by
      have := HL.out
      rw [hd, List.length_append] at this
      omega
    (try simp only [List.length_nil] at hol hi1 hj1)
    clear hd hmrg
    have HO := hidD hown
    have hbs := hbel.size
    have HBE := hidD hbel

    obtain rfl : i = 0 := by simpa using hi1

    by_cases hlt2 : j < T.length
    · have HPT : Hid (∀ u : World, Below w.heap.size w u → u.cell? ⟨b2, o2 + j * 5, none⟩ = some (.string T[j].path)) := fun u hu => (h2.below hu hb2) j hlt2 0 _ rfl
      have hsT : T[j].path.size ≤ 1500000 := hs2 _ (List.getElem_mem hlt2)
      have hnT := ne_empty (HTO.out.names _ (List.getElem_mem hlt2))
      have HG := hidD (diffL_made [] [] T 0 j hlt2 (fun h => by simp at h))
      have HM2 := hidD (HM.out.made HSO.out hlt2 (fun h => by simp at h))
      have HCH : Hid (∀ u : World, Below w.heap.size w u → Calls Tryd.prog 35 #[.slice a1 0 c1, .slice (some ⟨b2, o2, none⟩) T.length c2, .string T[j].path] u fun r w' => r = .returned (.agg #[.string T[j].path, .int .i64 1, .string (srcB [] T[j])]) ∧ Below u.heap.size u w') := fun u hu => step_made (.none a1 c1) (.row b2 o2 c2 T (by have := hu.size; omega) (h2.below hu hb2)) HSO.out HTO.out HM.out hlt2 (fun h => by simp at h)
      generalize srcB [] T[j] = src at *
      generalize T[j].path = pT at *
      have t0 := HPT.out wr HBE.out
      obtain ⟨nt1, nt2⟩ := hnT
      clear hown hbel
      have B3 := HBE.out
      have O3 := HO.out
      have hb3s := hbs
      have HB3 := hidD B3
      have HO3 := hidD O3
      clear B3 O3
      go_wp2_with fail
      refine (HCH.out wr HB3.out).mono ?_
      rintro e w4 ⟨rfl, hb4⟩
      have B1 := HB3.out.trans (hb4.mono hb3s)
      have O1 := own_below hb4 HO3.out
      have hb4s := B1.size
      have a1 := HPT.out _ (B1.alloc hb4s (.cells #[.string pT, .int .i64 1, .string src] 64))
      go_wp2_with (at_builtin; refine wpList_append_own _ rfl (.tmp 79) (.tmp 81) 39 rfl w.heap.size 64 i0 _ 3 40 Tryd.underlying39 hi hz0 hz1 hz2 rfl (by decide) _ _ _ rfl ((O1.alloc _).alloc _) ⟨_, 0, none⟩ 1 1 (ChD.cells ⟨pT, 1, src⟩) rfl rfl (new_ch' _ _ _ (by simp only [World.size_alloc])) (chCells_one _) (by unfold maxLen; omega) (by omega) (by simp only [World.size_alloc]; omega) ?_; intro v1 w5 hown5 hg5 _; have R := grew (w1 := w4.alloc (.cells #[.string (ChD.path ⟨pT, 1, src⟩), .int .i64 (ChD.kind ⟨pT, 1, src⟩), .string (ChD.src ⟨pT, 1, src⟩)] 64)) (c := ⟨pT, 1, src⟩) (O1.alloc _) (B1.alloc hb4s _) hown5 hg5; have z1 := HPT.out w5 R.2)
      exact ⟨⟨0, j + 1, _, by simp, by omega, rfl, by go_num, R.1, R.2, by rw [HD.out, HG.out]; simp, HM2.out⟩, by simp [intOf]; omega⟩
    · have HE := hidD (diffL_end [] [] T 0 j (by first | simp | omega) (by first | simp | omega))
      clear hown hbel
      go_wp2
      go_ret2
      have hL : diffL [] [] T = out := by rw [HD.out, HE.out, List.append_nil]
      exact ⟨_, rfl, by rw [hL]; exact HO.out, HBE.out⟩

set_option maxHeartbeats 8000000 in
set_option maxRecDepth 100000 in
theorem rdiff_rr (b1 o1 c1 : Nat) (S : List EntD) (b2 o2 c2 : Nat) (T : List EntD) (y1 y2 : Int) (w : World) (hb1 : b1 < w.heap.size) (h1 : EntsAt w b1 o1 S) (hs1 : ∀ o ∈ S, o.small) (hS : TreeOk S) (hb2 : b2 < w.heap.size) (h2 : EntsAt w b2 o2 T) (hs2 : ∀ o ∈ T, o.small) (hT : TreeOk T) 
    (HC1 : Hid (∀ u : World, Below w.heap.size w u → Calls Tryd.prog 10 #[.slice (some ⟨b1, o1, none⟩) S.length c1, .bool false] u fun e u' => e = .returned (.tuple #[.int .i64 0, .int .i64 y1]) ∧ Below u.heap.size u u'))
    (HC2 : Hid (∀ u : World, Below w.heap.size w u → Calls Tryd.prog 10 #[.slice (some ⟨b2, o2, none⟩) T.length c2, .bool false] u fun e u' => e = .returned (.tuple #[.int .i64 0, .int .i64 y2]) ∧ Below u.heap.size u u')) :
    Calls Tryd.prog 14 #[.slice (some ⟨b1, o1, none⟩) S.length c1, .slice (some ⟨b2, o2, none⟩) T.length c2] w fun e w' => ∃ v, e = .returned (.tuple #[v, .int .i64 0]) ∧ w'.ownsRow w.heap.size 64 3 v (diffL S S T).length (flatC (diffL S S T)) ∧ Below w.heap.size w w' := by
  obtain ⟨i0, hi, hz0, hz1, hz2⟩ := info_parts info64b
  have HL := hidD (diffL_len S _ S T (Nat.le_refl _))
  have HSO := hidD hS
  have HTO := hidD hT
  have fewS := hS.few
  have fewT := hT.few
  clear hS hT
  go_enter Tryd.func14, Tryd.ntmps14
  go_wp2_with fail
  refine (HC1.out w (Below.refl _ _)).mono ?_
  rintro e w1 ⟨rfl, hb1'⟩
  go_wp2_with fail
  refine (HC2.out w1 hb1').mono ?_
  rintro e w2 ⟨rfl, hb2'⟩
  have HB2 : Hid (Below w.heap.size w w2) := hb1'.trans (hb2'.mono hb1'.size)
  clear hb1' hb2' HC1 HC2
  go_wp2
  go_loopw [10, 11, 12, 13, 14, 15] (fun vc vi vj vp va vq wr => ∃ (i j : Nat) (out : List ChD), i ≤ (S : List EntD).length ∧ j ≤ (T : List EntD).length ∧ vi = .int .i64 i ∧ vj = .int .i64 j ∧ wr.ownsRow w.heap.size 64 3 vc out.length (flatC out) ∧ Below w.heap.size w wr ∧ diffL S S T = out ++ diffL S ((S : List EntD).drop i) ((T : List EntD).drop j) ∧ Mrg S T i j) (fun _ vi vj _ _ _ _ => ((S : List EntD).length - (intOf vi).toNat) + ((T : List EntD).length - (intOf vj).toNat))
  case atStart => exact ⟨0, 0, [], by simp, by simp, rfl, rfl, World.ownsRow_nil _ _ _ _, HB2.out, rfl, Mrg.start _ _⟩
  case round =>
    obtain ⟨i, j, out, hi1, hj1, rfl, rfl, hown, hbel, hd, hmrg⟩ := hrel
    have HD := hidD hd
    have HM := hidD hmrg
    have hol : out.length ≤ (S : List EntD).length + (T : List EntD).length := by
      have := HL.out
      rw [hd, List.length_append] at this
      omega
    (try simp only [List.length_nil] at hol hi1 hj1)
    clear hd hmrg
    have HO := hidD hown
    have hbs := hbel.size
    have HBE := hidD hbel

    by_cases hlt : i < S.length
    · by_cases hlt2 : j < T.length
      · rcases Int.lt_trichotomy (cmpL S[i].path.data.toList T[j].path.data.toList) 0 with hcm | hcm | hcm
        · have HPS : Hid (∀ u : World, Below w.heap.size w u → u.cell? ⟨b1, o1 + i * 5, none⟩ = some (.string S[i].path)) := fun u hu => (h1.below hu hb1) i hlt 0 _ rfl
          have hsS : S[i].path.size ≤ 1500000 := hs1 _ (List.getElem_mem hlt)
          have hnS := ne_empty (HSO.out.names _ (List.getElem_mem hlt))
          have HPT : Hid (∀ u : World, Below w.heap.size w u → u.cell? ⟨b2, o2 + j * 5, none⟩ = some (.string T[j].path)) := fun u hu => (h2.below hu hb2) j hlt2 0 _ rfl
          have hsT : T[j].path.size ≤ 1500000 := hs2 _ (List.getElem_mem hlt2)
          have hnT := ne_empty (HTO.out.names _ (List.getElem_mem hlt2))
          have HG := hidD (diffL_gone S S T i j hlt (fun h => hcm))
          have HM2 := hidD (HM.out.gone HTO.out hlt (fun h => hcm))
          have HCH : Hid (∀ u : World, Below w.heap.size w u → Calls Tryd.prog 35 #[.slice (some ⟨b1, o1, none⟩) S.length c1, .slice (some ⟨b2, o2, none⟩) T.length c2, .string S[i].path] u fun r w' => r = .returned (.agg #[.string S[i].path, .int .i64 2, .string ⟨#[]⟩]) ∧ Below u.heap.size u w') := fun u hu => step_gone (.row b1 o1 c1 S (by have := hu.size; omega) (h1.below hu hb1)) (.row b2 o2 c2 T (by have := hu.size; omega) (h2.below hu hb2)) HSO.out HTO.out HM.out hlt (fun h => hcm)
          have hles := (cmp_flip _ _).1 hcm
          have hne := (cmp_ne (a := S[i].path) (b := T[j].path) (by omega)).2
          clear hcm
          generalize S[i].path = pS at *
          generalize T[j].path = pT at *
          have s0 := HPS.out wr HBE.out
          have t0 := HPT.out wr HBE.out
          obtain ⟨ns1, ns2⟩ := hnS
          obtain ⟨nt1, nt2⟩ := hnT
          clear hown hbel
          go_wp2_with fail
          refine (less_d pT pS wr hsT hsS).mono ?_
          rintro e w3 ⟨rfl, hb3⟩
          rw [show decide (cmpL pT.data.toList pS.data.toList < 0) = false by simpa using hles]
          have B3 := HBE.out.trans (hb3.mono hbs)
          have O3 := own_below hb3 HO.out
          have u0 := HPS.out w3 B3
          have u1 := HPT.out w3 B3
          have hb3s := B3.size
          clear s0 t0 hb3
          have HB3 := hidD B3
          have HO3 := hidD O3
          clear B3 O3
          go_wp2_with fail
          refine (HCH.out w3 HB3.out).mono ?_
          rintro e w4 ⟨rfl, hb4⟩
          have B1 := HB3.out.trans (hb4.mono hb3s)
          have O1 := own_below hb4 HO3.out
          have hb4s := B1.size
          have a0 := HPS.out _ (B1.alloc hb4s (.cells #[.string pS, .int .i64 2, .string ⟨#[]⟩] 64))
          have a1 := HPT.out _ (B1.alloc hb4s (.cells #[.string pS, .int .i64 2, .string ⟨#[]⟩] 64))
          go_wp2_with (at_builtin; refine wpList_append_own _ rfl (.tmp 79) (.tmp 81) 39 rfl w.heap.size 64 i0 _ 3 40 Tryd.underlying39 hi hz0 hz1 hz2 rfl (by decide) _ _ _ rfl ((O1.alloc _).alloc _) ⟨_, 0, none⟩ 1 1 (ChD.cells ⟨pS, 2, ⟨#[]⟩⟩) rfl rfl (new_ch' _ _ _ (by simp only [World.size_alloc])) (chCells_one _) (by unfold maxLen; omega) (by omega) (by simp only [World.size_alloc]; omega) ?_; intro v1 w5 hown5 hg5 _; have R := grew (w1 := w4.alloc (.cells #[.string (ChD.path ⟨pS, 2, ⟨#[]⟩⟩), .int .i64 (ChD.kind ⟨pS, 2, ⟨#[]⟩⟩), .string (ChD.src ⟨pS, 2, ⟨#[]⟩⟩)] 64)) (c := ⟨pS, 2, ⟨#[]⟩⟩) (O1.alloc _) (B1.alloc hb4s _) hown5 hg5; have z0 := HPS.out w5 R.2; have z1 := HPT.out w5 R.2)
          exact ⟨⟨i + 1, j, _, by omega, by omega, by go_num, rfl, R.1, R.2, by rw [HD.out, HG.out]; simp, HM2.out⟩, by simp [intOf]; omega⟩
        · have HPS : Hid (∀ u : World, Below w.heap.size w u → u.cell? ⟨b1, o1 + i * 5, none⟩ = some (.string S[i].path)) := fun u hu => (h1.below hu hb1) i hlt 0 _ rfl
          have hsS : S[i].path.size ≤ 1500000 := hs1 _ (List.getElem_mem hlt)
          have hnS := ne_empty (HSO.out.names _ (List.getElem_mem hlt))
          have HPT : Hid (∀ u : World, Below w.heap.size w u → u.cell? ⟨b2, o2 + j * 5, none⟩ = some (.string T[j].path)) := fun u hu => (h2.below hu hb2) j hlt2 0 _ rfl
          have hsT : T[j].path.size ≤ 1500000 := hs2 _ (List.getElem_mem hlt2)
          have hnT := ne_empty (HTO.out.names _ (List.getElem_mem hlt2))
          have hpe : S[i].path = T[j].path := ba_ext ((cmpL_key _ _).2.2.1 hcm)
          have HG := hidD (diffL_both S S T i j hlt hlt2 hcm)
          have HM2 := hidD (HM.out.both HSO.out HTO.out hlt hlt2 hcm)
          have HCH0 : Hid (∀ u : World, Below w.heap.size w u → Calls Tryd.prog 35 #[.slice (some ⟨b1, o1, none⟩) S.length c1, .slice (some ⟨b2, o2, none⟩) T.length c2, .string S[i].path] u fun r w' => r = .returned (.agg (if eqB S[i] T[j] then #[.string S[i].path, .int .i64 0, .string ⟨#[]⟩] else #[.string (chgB S S[i] T[j]).path, .int .i64 (chgB S S[i] T[j]).kind, .string (chgB S S[i] T[j]).src])) ∧ Below u.heap.size u w') := fun u hu => step_both (.row b1 o1 c1 S (by have := hu.size; omega) (h1.below hu hb1)) (.row b2 o2 c2 T (by have := hu.size; omega) (h2.below hu hb2)) HSO.out HTO.out hlt hlt2 hpe
          have hles := (cmp_flip _ _).2.2 hcm
          have HKD : Hid ((chgB S S[i] T[j]).kind ≠ 0) := by
            show (chgB S S[i] T[j]).kind ≠ 0
            unfold chgB
            split
            · simp
            · split <;> simp
          clear hcm
          rw [← hpe] at HPT hsT hnT hles
          cases hq : eqB S[i] T[j] with
          | true =>
            rw [hq] at HG HCH0
            have HCH : Hid (∀ u : World, Below w.heap.size w u → Calls Tryd.prog 35 #[.slice (some ⟨b1, o1, none⟩) S.length c1, .slice (some ⟨b2, o2, none⟩) T.length c2, .string S[i].path] u fun r w' => r = .returned (.agg #[.string S[i].path, .int .i64 0, .string ⟨#[]⟩]) ∧ Below u.heap.size u w') := fun u hu => HCH0.out u hu
            clear hpe HCH0 HKD hq
            generalize S[i].path = pS at *
            have s0 := HPS.out wr HBE.out
            have t0 := HPT.out wr HBE.out
            obtain ⟨ns1, ns2⟩ := hnS
            obtain ⟨nt1, nt2⟩ := hnT
            clear hown hbel
            go_wp2_with fail
            refine (less_d pS pS wr hsT hsS).mono ?_
            rintro e w3 ⟨rfl, hb3⟩
            rw [show decide (cmpL pS.data.toList pS.data.toList < 0) = false by simpa using hles]
            have B3 := HBE.out.trans (hb3.mono hbs)
            have O3 := own_below hb3 HO.out
            have u0 := HPS.out w3 B3
            have u1 := HPT.out w3 B3
            have hb3s := B3.size
            clear s0 t0 hb3
            have HB3 := hidD B3
            have HO3 := hidD O3
            clear B3 O3
            go_wp2_with fail
            refine (HCH.out w3 HB3.out).mono ?_
            rintro e w4 ⟨rfl, hb4⟩
            have B1 := HB3.out.trans (hb4.mono hb3s)
            have O1 := own_below hb4 HO3.out
            have hb4s := B1.size
            have a0 := HPS.out _ (B1.alloc hb4s (.cells #[.string pS, .int .i64 0, .string ⟨#[]⟩] 64))
            have a1 := HPT.out _ (B1.alloc hb4s (.cells #[.string pS, .int .i64 0, .string ⟨#[]⟩] 64))
            go_wp2
            exact ⟨⟨i + 1, j + 1, out, by omega, by omega, by go_num, by go_num, O1.alloc _, B1.alloc hb4s _, by rw [HD.out, HG.out]; simp, HM2.out⟩, by simp [intOf]; omega⟩
          | false =>
            rw [hq] at HG HCH0
            have HCH : Hid (∀ u : World, Below w.heap.size w u → Calls Tryd.prog 35 #[.slice (some ⟨b1, o1, none⟩) S.length c1, .slice (some ⟨b2, o2, none⟩) T.length c2, .string S[i].path] u fun r w' => r = .returned (.agg #[.string (chgB S S[i] T[j]).path, .int .i64 (chgB S S[i] T[j]).kind, .string (chgB S S[i] T[j]).src]) ∧ Below u.heap.size u w') := fun u hu => HCH0.out u hu
            clear hpe HCH0 hq
            generalize chgB S S[i] T[j] = cg at *
            obtain ⟨cp, ck, cf⟩ := cg
            dsimp only at *
            have hkn : (ck == 0) = false := by have := HKD.out; simpa using this
            clear HKD
            generalize S[i].path = pS at *
            have s0 := HPS.out wr HBE.out
            have t0 := HPT.out wr HBE.out
            obtain ⟨ns1, ns2⟩ := hnS
            obtain ⟨nt1, nt2⟩ := hnT
            clear hown hbel
            go_wp2_with fail
            refine (less_d pS pS wr hsT hsS).mono ?_
            rintro e w3 ⟨rfl, hb3⟩
            rw [show decide (cmpL pS.data.toList pS.data.toList < 0) = false by simpa using hles]
            have B3 := HBE.out.trans (hb3.mono hbs)
            have O3 := own_below hb3 HO.out
            have u0 := HPS.out w3 B3
            have u1 := HPT.out w3 B3
            have hb3s := B3.size
            clear s0 t0 hb3
            have HB3 := hidD B3
            have HO3 := hidD O3
            clear B3 O3
            go_wp2_with fail
            refine (HCH.out w3 HB3.out).mono ?_
            rintro e w4 ⟨rfl, hb4⟩
            have B1 := HB3.out.trans (hb4.mono hb3s)
            have O1 := own_below hb4 HO3.out
            have hb4s := B1.size
            have a0 := HPS.out _ (B1.alloc hb4s (.cells #[.string cp, .int .i64 ck, .string cf] 64))
            have a1 := HPT.out _ (B1.alloc hb4s (.cells #[.string cp, .int .i64 ck, .string cf] 64))
            go_wp2_with (at_builtin; refine wpList_append_own _ rfl (.tmp 79) (.tmp 81) 39 rfl w.heap.size 64 i0 _ 3 40 Tryd.underlying39 hi hz0 hz1 hz2 rfl (by decide) _ _ _ rfl ((O1.alloc _).alloc _) ⟨_, 0, none⟩ 1 1 (ChD.cells ⟨cp, ck, cf⟩) rfl rfl (new_ch' _ _ _ (by simp only [World.size_alloc])) (chCells_one _) (by unfold maxLen; omega) (by omega) (by simp only [World.size_alloc]; omega) ?_; intro v1 w5 hown5 hg5 _; have R := grew (w1 := w4.alloc (.cells #[.string (ChD.path ⟨cp, ck, cf⟩), .int .i64 (ChD.kind ⟨cp, ck, cf⟩), .string (ChD.src ⟨cp, ck, cf⟩)] 64)) (c := ⟨cp, ck, cf⟩) (O1.alloc _) (B1.alloc hb4s _) hown5 hg5; have z0 := HPS.out w5 R.2; have z1 := HPT.out w5 R.2)
            exact ⟨⟨i + 1, j + 1, _, by omega, by omega, by go_num, by go_num, R.1, R.2, by rw [HD.out, HG.out]; simp, HM2.out⟩, by simp [intOf]; omega⟩
        · have HPS : Hid (∀ u : World, Below w.heap.size w u → u.cell? ⟨b1, o1 + i * 5, none⟩ = some (.string S[i].path)) := fun u hu => (h1.below hu hb1) i hlt 0 _ rfl
          have hsS : S[i].path.size ≤ 1500000 := hs1 _ (List.getElem_mem hlt)
          have hnS := ne_empty (HSO.out.names _ (List.getElem_mem hlt))
          have HPT : Hid (∀ u : World, Below w.heap.size w u → u.cell? ⟨b2, o2 + j * 5, none⟩ = some (.string T[j].path)) := fun u hu => (h2.below hu hb2) j hlt2 0 _ rfl
          have hsT : T[j].path.size ≤ 1500000 := hs2 _ (List.getElem_mem hlt2)
          have hnT := ne_empty (HTO.out.names _ (List.getElem_mem hlt2))
          have HG := hidD (diffL_made S S T i j hlt2 (fun h => hcm))
          have HM2 := hidD (HM.out.made HSO.out hlt2 (fun h => hcm))
          have HCH : Hid (∀ u : World, Below w.heap.size w u → Calls Tryd.prog 35 #[.slice (some ⟨b1, o1, none⟩) S.length c1, .slice (some ⟨b2, o2, none⟩) T.length c2, .string T[j].path] u fun r w' => r = .returned (.agg #[.string T[j].path, .int .i64 1, .string (srcB S T[j])]) ∧ Below u.heap.size u w') := fun u hu => step_made (.row b1 o1 c1 S (by have := hu.size; omega) (h1.below hu hb1)) (.row b2 o2 c2 T (by have := hu.size; omega) (h2.below hu hb2)) HSO.out HTO.out HM.out hlt2 (fun h => hcm)
          generalize srcB S T[j] = src at *
          have hles := (cmp_flip _ _).2.1 hcm
          have hne := (cmp_ne (a := S[i].path) (b := T[j].path) (by omega)).1
          clear hcm
          generalize S[i].path = pS at *
          generalize T[j].path = pT at *
          have s0 := HPS.out wr HBE.out
          have t0 := HPT.out wr HBE.out
          obtain ⟨ns1, ns2⟩ := hnS
          obtain ⟨nt1, nt2⟩ := hnT
          clear hown hbel
          go_wp2_with fail
          refine (less_d pT pS wr hsT hsS).mono ?_
          rintro e w3 ⟨rfl, hb3⟩
          rw [show decide (cmpL pT.data.toList pS.data.toList < 0) = true by simpa using hles]
          have B3 := HBE.out.trans (hb3.mono hbs)
          have O3 := own_below hb3 HO.out
          have u0 := HPS.out w3 B3
          have u1 := HPT.out w3 B3
          have hb3s := B3.size
          clear s0 t0 hb3
          have HB3 := hidD B3
          have HO3 := hidD O3
          clear B3 O3
          go_wp2_with fail
          refine (HCH.out w3 HB3.out).mono ?_
          rintro e w4 ⟨rfl, hb4⟩
          have B1 := HB3.out.trans (hb4.mono hb3s)
          have O1 := own_below hb4 HO3.out
          have hb4s := B1.size
          have a0 := HPS.out _ (B1.alloc hb4s (.cells #[.string pT, .int .i64 1, .string src] 64))
          have a1 := HPT.out _ (B1.alloc hb4s (.cells #[.string pT, .int .i64 1, .string src] 64))
          go_wp2_with (at_builtin; refine wpList_append_own _ rfl (.tmp 79) (.tmp 81) 39 rfl w.heap.size 64 i0 _ 3 40 Tryd.underlying39 hi hz0 hz1 hz2 rfl (by decide) _ _ _ rfl ((O1.alloc _).alloc _) ⟨_, 0, none⟩ 1 1 (ChD.cells ⟨pT, 1, src⟩) rfl rfl (new_ch' _ _ _ (by simp only [World.size_alloc])) (chCells_one _) (by unfold maxLen; omega) (by omega) (by simp only [World.size_alloc]; omega) ?_; intro v1 w5 hown5 hg5 _; have R := grew (w1 := w4.alloc (.cells #[.string (ChD.path ⟨pT, 1, src⟩), .int .i64 (ChD.kind ⟨pT, 1, src⟩), .string (ChD.src ⟨pT, 1, src⟩)] 64)) (c := ⟨pT, 1, src⟩) (O1.alloc _) (B1.alloc hb4s _) hown5 hg5; have z1 := HPT.out w5 R.2; have z0 := HPS.out w5 R.2)
          exact ⟨⟨i, j + 1, _, by omega, by omega, rfl, by go_num, R.1, R.2, by rw [HD.out, HG.out]; simp, HM2.out⟩, by simp [intOf]; omega⟩
      · have HPS : Hid (∀ u : World, Below w.heap.size w u → u.cell? ⟨b1, o1 + i * 5, none⟩ = some (.string S[i].path)) := fun u hu => (h1.below hu hb1) i hlt 0 _ rfl
        have hsS : S[i].path.size ≤ 1500000 := hs1 _ (List.getElem_mem hlt)
        have hnS := ne_empty (HSO.out.names _ (List.getElem_mem hlt))
        have HG := hidD (diffL_gone S S T i j hlt (fun h => by omega))
        have HM2 := hidD (HM.out.gone HTO.out hlt (fun h => by omega))
        have HCH : Hid (∀ u : World, Below w.heap.size w u → Calls Tryd.prog 35 #[.slice (some ⟨b1, o1, none⟩) S.length c1, .slice (some ⟨b2, o2, none⟩) T.length c2, .string S[i].path] u fun r w' => r = .returned (.agg #[.string S[i].path, .int .i64 2, .string ⟨#[]⟩]) ∧ Below u.heap.size u w') := fun u hu => step_gone (.row b1 o1 c1 S (by have := hu.size; omega) (h1.below hu hb1)) (.row b2 o2 c2 T (by have := hu.size; omega) (h2.below hu hb2)) HSO.out HTO.out HM.out hlt (fun h => by omega)
        generalize S[i].path = pS at *
        have s0 := HPS.out wr HBE.out
        obtain ⟨ns1, ns2⟩ := hnS
        clear hown hbel
        have B3 := HBE.out
        have O3 := HO.out
        have hb3s := hbs
        have HB3 := hidD B3
        have HO3 := hidD O3
        clear B3 O3
        go_wp2_with fail
        refine (HCH.out wr HB3.out).mono ?_
        rintro e w4 ⟨rfl, hb4⟩
        have B1 := HB3.out.trans (hb4.mono hb3s)
        have O1 := own_below hb4 HO3.out
        have hb4s := B1.size
        have a0 := HPS.out _ (B1.alloc hb4s (.cells #[.string pS, .int .i64 2, .string ⟨#[]⟩] 64))
        go_wp2_with (at_builtin; refine wpList_append_own _ rfl (.tmp 79) (.tmp 81) 39 rfl w.heap.size 64 i0 _ 3 40 Tryd.underlying39 hi hz0 hz1 hz2 rfl (by decide) _ _ _ rfl ((O1.alloc _).alloc _) ⟨_, 0, none⟩ 1 1 (ChD.cells ⟨pS, 2, ⟨#[]⟩⟩) rfl rfl (new_ch' _ _ _ (by simp only [World.size_alloc])) (chCells_one _) (by unfold maxLen; omega) (by omega) (by simp only [World.size_alloc]; omega) ?_; intro v1 w5 hown5 hg5 _; have R := grew (w1 := w4.alloc (.cells #[.string (ChD.path ⟨pS, 2, ⟨#[]⟩⟩), .int .i64 (ChD.kind ⟨pS, 2, ⟨#[]⟩⟩), .string (ChD.src ⟨pS, 2, ⟨#[]⟩⟩)] 64)) (c := ⟨pS, 2, ⟨#[]⟩⟩) (O1.alloc _) (B1.alloc hb4s _) hown5 hg5; have z0 := HPS.out w5 R.2)
        exact ⟨⟨i + 1, j, _, by omega, by omega, by go_num, rfl, R.1, R.2, by rw [HD.out, HG.out]; simp, HM2.out⟩, by simp [intOf]; omega⟩
    · by_cases hlt2 : j < T.length
      · have HPT : Hid (∀ u : World, Below w.heap.size w u → u.cell? ⟨b2, o2 + j * 5, none⟩ = some (.string T[j].path)) := fun u hu => (h2.below hu hb2) j hlt2 0 _ rfl
        have hsT : T[j].path.size ≤ 1500000 := hs2 _ (List.getElem_mem hlt2)
        have hnT := ne_empty (HTO.out.names _ (List.getElem_mem hlt2))
        have HG := hidD (diffL_made S S T i j hlt2 (fun h => by omega))
        have HM2 := hidD (HM.out.made HSO.out hlt2 (fun h => by omega))
        have HCH : Hid (∀ u : World, Below w.heap.size w u → Calls Tryd.prog 35 #[.slice (some ⟨b1, o1, none⟩) S.length c1, .slice (some ⟨b2, o2, none⟩) T.length c2, .string T[j].path] u fun r w' => r = .returned (.agg #[.string T[j].path, .int .i64 1, .string (srcB S T[j])]) ∧ Below u.heap.size u w') := fun u hu => step_made (.row b1 o1 c1 S (by have := hu.size; omega) (h1.below hu hb1)) (.row b2 o2 c2 T (by have := hu.size; omega) (h2.below hu hb2)) HSO.out HTO.out HM.out hlt2 (fun h => by omega)
        generalize srcB S T[j] = src at *
        generalize T[j].path = pT at *
        have t0 := HPT.out wr HBE.out
        obtain ⟨nt1, nt2⟩ := hnT
        clear hown hbel
        have B3 := HBE.out
        have O3 := HO.out
        have hb3s := hbs
        have HB3 := hidD B3
        have HO3 := hidD O3
        clear B3 O3
        go_wp2_with fail
        refine (HCH.out wr HB3.out).mono ?_
        rintro e w4 ⟨rfl, hb4⟩
        have B1 := HB3.out.trans (hb4.mono hb3s)
        have O1 := own_below hb4 HO3.out
        have hb4s := B1.size
        have a1 := HPT.out _ (B1.alloc hb4s (.cells #[.string pT, .int .i64 1, .string src] 64))
        go_wp2_with (at_builtin; refine wpList_append_own _ rfl (.tmp 79) (.tmp 81) 39 rfl w.heap.size 64 i0 _ 3 40 Tryd.underlying39 hi hz0 hz1 hz2 rfl (by decide) _ _ _ rfl ((O1.alloc _).alloc _) ⟨_, 0, none⟩ 1 1 (ChD.cells ⟨pT, 1, src⟩) rfl rfl (new_ch' _ _ _ (by simp only [World.size_alloc])) (chCells_one _) (by unfold maxLen; omega) (by omega) (by simp only [World.size_alloc]; omega) ?_; intro v1 w5 hown5 hg5 _; have R := grew (w1 := w4.alloc (.cells #[.string (ChD.path ⟨pT, 1, src⟩), .int .i64 (ChD.kind ⟨pT, 1, src⟩), .string (ChD.src ⟨pT, 1, src⟩)] 64)) (c := ⟨pT, 1, src⟩) (O1.alloc _) (B1.alloc hb4s _) hown5 hg5; have z1 := HPT.out w5 R.2)
        exact ⟨⟨i, j + 1, _, by omega, by omega, rfl, by go_num, R.1, R.2, by rw [HD.out, HG.out]; simp, HM2.out⟩, by simp [intOf]; omega⟩
      · have HE := hidD (diffL_end S S T i j (by first | simp | omega) (by first | simp | omega))
        clear hown hbel
        go_wp2
        go_ret2
        have hL : diffL S S T = out := by rw [HD.out, HE.out, List.append_nil]
        exact ⟨_, rfl, by rw [hL]; exact HO.out, HBE.out⟩

end Go.Proofs.YtjaepomjdknieaaDoor
