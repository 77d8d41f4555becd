/- The reference's change of one path: made. -/
import Derived.Test.YtjaepomjdknieaaDoorDJ
namespace Go.Proofs.YtjaepomjdknieaaDoor
open Go.RowKit
set_option linter.unusedVariables false
set_option linter.unusedSimpArgs false

set_option maxRecDepth 4000 in
set_option maxHeartbeats 4000000 in
theorem rchange_made (b1 o1 m1 : Nat) (S : List EntD) (b2 o2 m2 k : Nat) (T : List EntD) (p : ByteArray) (w : World) (hl1 : S.length ≤ 2000000) (hb1 : b1 < w.heap.size) (h1 : EntsAt w b1 o1 S) (hl2 : T.length ≤ 2000000) (hb2 : b2 < w.heap.size) (h2 : EntsAt w b2 o2 T) (hk : k < T.length) (hd : T[k].dir = false)
    (HF1 : Hid (∀ u : World, Below w.heap.size w u → Calls Tryd.prog 60 #[.slice (some ⟨b1, o1, none⟩) S.length m1, .string p] u fun e w' => e = .returned (.int .i64 (-1)) ∧ w' = u))
    (HF2 : Hid (∀ u : World, Below w.heap.size w u → Calls Tryd.prog 60 #[.slice (some ⟨b2, o2, none⟩) T.length m2, .string p] u fun e w' => e = .returned (.int .i64 k) ∧ w' = u)) :
    Calls Tryd.prog 35 #[.slice (some ⟨b1, o1, none⟩) S.length m1, .slice (some ⟨b2, o2, none⟩) T.length m2, .string p] w fun r w' => r = .returned (.agg #[.string p, .int .i64 1, .string (fromL T[k].id S)]) ∧ Below w.heap.size w w' := by
  have hba : ∀ ob, Below w.heap.size w (w.alloc ob) := fun ob => (Below.refl _ _).alloc (Nat.le_refl _) ob
  have st := Cw.start w p 1 ⟨#[]⟩
  have HCT : Hid (∀ u : World, Below w.heap.size w u → u.cell? ⟨b2, o2 + k * 5 + 1, none⟩ = some (.bool false) ∧ u.cell? ⟨b2, o2 + k * 5 + 2, none⟩ = some (.int .i64 T[k].id)) := fun u hu => by
    have hh := (h2.below hu hb2) k hk
    have x1 := hh 1 _ rfl
    have x2 := hh 2 _ rfl
    rw [hd] at x1
    exact ⟨x1, x2⟩
  generalize T[k].id = iT at *
  clear hd
  go_enter Tryd.func35, Tryd.ntmps35
  go_wp2_with fail
  refine (HF1.out _ (hba _)).mono ?_
  rintro e w1 ⟨rfl, rfl⟩
  go_wp2_with fail
  refine (HF2.out _ (hba _)).mono ?_
  rintro e w1 ⟨rfl, rfl⟩
  go_wp2
  go_loopw [10] (fun v wr => ∃ (jj : Nat) (f : ByteArray), jj ≤ S.length ∧ v = .int .i64 ((jj : Int) - 1) ∧ f = fromL iT (S.drop jj) ∧ Cw w p 1 f wr) (fun v _ => (intOf v + 1).toNat)
  case atStart => exact ⟨S.length, ⟨#[]⟩, Nat.le_refl _, rfl, by rw [List.drop_of_length_le (Nat.le_refl _)]; rfl, st⟩
  case round =>
    obtain ⟨jj, f, hjj, hv, hf, hcw⟩ := hrel
    obtain ⟨t1, t2⟩ := HCT.out wr hcw.bel
    have k0 := hcw.cell 0
    have k1 := hcw.cell 1
    have k2 := hcw.cell 2
    have r0 := hcw.rcell 0
    have r1 := hcw.rcell 1
    have r2 := hcw.rcell 2
    have f0 := (hcw.frz 0).2
    have f1 := (hcw.frz 1).2
    have f2 := (hcw.frz 2).2
    have f3 := (hcw.frz 2).1
    simp only [List.getElem?_cons_zero, List.getElem?_cons_succ] at k0 k1 k2 r0 r1 r2
    have HCW : Hid (Cw w p 1 f wr) := hcw
    have HF : Hid (f = fromL iT (S.drop jj)) := hf
    clear hcw hf
    cases jj with
    | zero =>
      have hv' : u10 = .int .i64 (-1) := by rw [hv]; rfl
      subst hv'
      clear hv
      go_wp2
      refine bodyPost_ret (v := .agg #[.string p, .int .i64 1, .string f]) (by simp [results, Tryd.results35, go_sem, r0, r1, r2]) rfl ⟨?_, ?_⟩
      · have e := HF.out
        rw [List.drop_zero] at e
        rw [e]
      · exact ((HCW.out.bel.setCell (by simp) _).setCell (by simp) _).setCell (by simp) _
    | succ j =>
      have hv' : u10 = .int .i64 (j : Int) := by rw [hv]; congr 1; omega
      subst hv'
      clear hv
      have hlt : j < S.length := by omega
      have HS : Hid (fromL iT (S.drop j) = if fileIs iT S[j] then S[j].path else fromL iT (S.drop (j + 1))) := fromL_at iT S j hlt
      have hh := (h1.below HCW.out.bel hb1) j hlt
      have s0 := hh 0 _ rfl
      have s1 := hh 1 _ rfl
      have s2 := hh 2 _ rfl
      simp only [Nat.add_zero] at s0
      clear hh
      generalize S[j] = eS at *
      obtain ⟨pS, dS, iS, zS, mS⟩ := eS
      dsimp only at *
      cases dS
      · by_cases hi : iS = iT
        · subst hi
          go_wp2
          go_quiet (fail)
          go_wp2
          refine ⟨⟨j, pS, by omega, by go_num, ?_, (HCW.out.drewN _).set pS⟩, by simp [intOf]⟩
          rw [HS.out, if_pos (by simp [fileIs])]
        · have hne : (iS == iT) = false := by simpa using hi
          have HN : Hid (¬ iS = iT) := hi
          clear hi
          go_wp2
          go_quiet (fail)
          go_wp2
          refine ⟨⟨j, f, by omega, by go_num, ?_, HCW.out.drewN _⟩, by simp [intOf]⟩
          rw [HS.out, if_neg (by have := HN.out; simp [fileIs, this]), HF.out]
      · go_wp2
        go_quiet (fail)
        go_wp2
        refine ⟨⟨j, f, by omega, by go_num, ?_, HCW.out.drewN _⟩, by simp [intOf]⟩
        rw [HS.out, if_neg (by simp [fileIs]), HF.out]

end Go.Proofs.YtjaepomjdknieaaDoor
