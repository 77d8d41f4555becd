/- The reference's change of one path: moded. -/
import Derived.Test.YtjaepomjdknieaaDoorDJ
namespace Go.Proofs.YtjaepomjdknieaaDoor
open Go.RowKit
set_option linter.unusedVariables false
set_option linter.unusedSimpArgs false

set_option maxRecDepth 4000 in
set_option maxHeartbeats 4000000 in
theorem rchange_moded (b1 o1 m1 : Nat) (S : List EntD) (b2 o2 m2 k : Nat) (T : List EntD) (i : Nat) (p : ByteArray) (w : World) (hl1 : S.length ≤ 2000000) (hb1 : b1 < w.heap.size) (h1 : EntsAt w b1 o1 S) (hl2 : T.length ≤ 2000000) (hb2 : b2 < w.heap.size) (h2 : EntsAt w b2 o2 T) (hk : k < T.length) (hi : i < S.length) (hq : eqB S[i] T[k] = false) (hd : S[i].dir = T[k].dir) (hx : S[i].id = T[k].id) (hz : S[i].size = T[k].size)
    (HF1 : Hid (∀ u : World, Below w.heap.size w u → Calls Tryd.prog 60 #[.slice (some ⟨b1, o1, none⟩) S.length m1, .string p] u fun e w' => e = .returned (.int .i64 i) ∧ w' = u))
    (HF2 : Hid (∀ u : World, Below w.heap.size w u → Calls Tryd.prog 60 #[.slice (some ⟨b2, o2, none⟩) T.length m2, .string p] u fun e w' => e = .returned (.int .i64 k) ∧ w' = u)) :
    Calls Tryd.prog 35 #[.slice (some ⟨b1, o1, none⟩) S.length m1, .slice (some ⟨b2, o2, none⟩) T.length m2, .string p] w fun r w' => r = .returned (.agg #[.string p, .int .i64 5, .string ⟨#[]⟩]) ∧ Below w.heap.size w w' := by
  have hba : ∀ ob, Below w.heap.size w (w.alloc ob) := fun ob => (Below.refl _ _).alloc (Nat.le_refl _) ob
  have HCS : Hid (∀ u : World, Below w.heap.size w u → u.cell? ⟨b1, o1 + i * 5, none⟩ = some (.string S[i].path) ∧ u.cell? ⟨b1, o1 + i * 5 + 1, none⟩ = some (.bool S[i].dir) ∧ u.cell? ⟨b1, o1 + i * 5 + 2, none⟩ = some (.int .i64 S[i].id) ∧ u.cell? ⟨b1, o1 + i * 5 + 3, none⟩ = some (.int .i64 S[i].size) ∧ u.cell? ⟨b1, o1 + i * 5 + 4, none⟩ = some (.int .i64 S[i].mode)) := fun u hu => by
    have hh := (h1.below hu hb1) i hi
    have x0 := hh 0 _ rfl
    have x1 := hh 1 _ rfl
    have x2 := hh 2 _ rfl
    have x3 := hh 3 _ rfl
    have x4 := hh 4 _ rfl
    simp only [Nat.add_zero] at x0
    exact ⟨x0, x1, x2, x3, x4⟩
  have HCT0 : Hid (∀ u : World, Below w.heap.size w u → u.cell? ⟨b2, o2 + k * 5, none⟩ = some (.string T[k].path) ∧ u.cell? ⟨b2, o2 + k * 5 + 1, none⟩ = some (.bool T[k].dir) ∧ u.cell? ⟨b2, o2 + k * 5 + 2, none⟩ = some (.int .i64 T[k].id) ∧ u.cell? ⟨b2, o2 + k * 5 + 3, none⟩ = some (.int .i64 T[k].size) ∧ u.cell? ⟨b2, o2 + k * 5 + 4, none⟩ = some (.int .i64 T[k].mode)) := fun u hu => by
    have hh := (h2.below hu hb2) k hk
    have x0 := hh 0 _ rfl
    have x1 := hh 1 _ rfl
    have x2 := hh 2 _ rfl
    have x3 := hh 3 _ rfl
    have x4 := hh 4 _ rfl
    simp only [Nat.add_zero] at x0
    exact ⟨x0, x1, x2, x3, x4⟩
  generalize S[i] = eS at *
  generalize T[k] = eT at *
  obtain ⟨pS, dS, iS, zS, mS⟩ := eS
  obtain ⟨pT, dT, iT, zT, mT⟩ := eT
  dsimp only at *
  have hnq : ∀ u, (binOp .eql 61 (.agg #[.string pS, .bool dS, .int .i64 iS, .int .i64 zS, .int .i64 mS]) (.agg #[.string pT, .bool dT, .int .i64 iT, .int .i64 zT, .int .i64 mT])).run Tryd.prog u = .ok (.bool false) u := fun u => by
    rw [eql61r, hq]
  clear hq
  subst hd hx hz
  go_enter Tryd.func35, Tryd.ntmps35
  go_wp2_with fail
  refine (HF1.out _ (hba _)).mono ?_
  rintro e w1 ⟨rfl, rfl⟩
  go_wp2_with fail
  refine (HF2.out _ (hba _)).mono ?_
  rintro e w1 ⟨rfl, rfl⟩
  go_wp2
  have st := Cw.start w p 0 ⟨#[]⟩
  generalize hW : ((w.alloc (.cells #[.string ⟨#[]⟩, .int .i64 0, .string ⟨#[]⟩] 64)).alloc (.cells #[.string p, .int .i64 0, .string ⟨#[]⟩] 64)) = W at st ⊢
  clear hW
  obtain ⟨y0, y1, y2, y3, y4⟩ := HCS.out W st.bel
  obtain ⟨x0, x1, x2, x3, x4⟩ := HCT0.out W st.bel
  have k0 := st.cell 0
  have k1 := st.cell 1
  have k2 := st.cell 2
  have r0 := st.rcell 0
  have r1 := st.rcell 1
  have r2 := st.rcell 2
  have f0 := (st.frz 0).2
  have f1 := (st.frz 1).2
  have f2 := (st.frz 2).2
  have f3 := (st.frz 1).1
  simp only [List.getElem?_cons_zero, List.getElem?_cons_succ] at k0 k1 k2 r0 r1 r2
  have ST : Hid (Cw w p 0 ⟨#[]⟩ W) := st
  clear st
  go_quiet (fail)
  go_wp2
  rename Nat => n1
  go_quiet (fail)
  go_wp2
  rename Nat => n2
  go_quiet (fail)
  go_wp2
  refine bodyPost_ret (v := .agg #[.string p, .int .i64 5, .string ⟨#[]⟩]) (by simp [results, Tryd.results35, go_sem, r0, r1, r2, k0, k1, k2]) rfl ⟨rfl, ?_⟩
  exact ((((ST.out.drewN _).kind 5).bel.setCell (by simp) _).setCell (by simp) _).setCell (by simp) _

end Go.Proofs.YtjaepomjdknieaaDoor
