/- The plan, whole. -/
import Derived.Test.YtpjjagalekolaaaGreatDoorY40
namespace Go.Proofs.YtpjjagalekolaaaGreatDoor
open Go.RowKit
set_option linter.unusedVariables false
set_option linter.unusedSimpArgs false

/-- Each content that both trees have is held by some file. -/
def KeptQ (s t V : List EntD) : Prop := ∀ a ∈ s, ∀ b ∈ t, a.dir = false → b.dir = false → a.id = b.id → ∃ e ∈ V, e.dir = false ∧ e.id = a.id
/-- A plan, and what it comes of. -/
def Planned (fold : Bool) (s t : List EntD) (ops : List OpD) : Prop := ∃ (to fr : Nat → Option Nat) (ms : List Mean) (lv cm : Nat → Option Nat) (fd md : Nat → List Nat), Pair fold s t ∧ Mat fold s t to fr ∧ Draft fold s t to fr ms lv cm fd md ∧ NeedS fold s t ms ∧ PlanOk fold (KeptQ s t) s t ms lv ops
def PlanA (u : World) (fold : Bool) (s t : List EntD) (store : List Int) (e : Ending) (w' : World) : Prop := ∃ v, e = .returned (.tuple #[v, .int .i64 (refL fold s t store).1, .int .i64 (refL fold s t store).2]) ∧ Below u.heap.size u w' ∧ ((refL fold s t store).1 = 0 → ∃ ops, w'.ownsRow u.heap.size 59 6 v ops.length (flatOp ops) ∧ Planned fold s t ops) ∧ (¬ (refL fold s t store).1 = 0 → v = .slice none 0 0)
theorem refL_at {fold : Bool} {s t : List EntD} {store : List Int} (h : (refL fold s t store).1 = 0) : (refL fold s t store).2 = 0 := by
  obtain ⟨_, h1, h2, h3, h4⟩ := refL_ok h
  unfold refL
  rw [h1, h2, h3, h4]
  rfl

set_option maxHeartbeats 8000000 in
set_option maxRecDepth 100000 in
theorem planN {u : World} {sv tv nv : Value} {fold : Bool} {s t : List EntD} {store : List Int} (hs : RowAt u sv s) (ht : RowAt u tv t) (hn : IntsAt u nv store) (ss : SmallL s) (st : SmallL t) (hln : store.length ≤ 2000000) :
    Calls Tryz.prog 36 #[sv, tv, .bool fold, nv] u fun e w' => PlanA u fold s t store e w' := by
  have HS := hidD hs
  have HT := hidD ht
  have HSS := hidD ss
  have HST := hidD st
  have HR := hidD (refusalN (fold := fold) hs ht hn ss st hln)
  have HOK := hidD (fun h => refL_ok (fold := fold) (s := s) (t := t) (store := store) h)
  have HAT := hidD (fun h => refL_at (fold := fold) (s := s) (t := t) (store := store) h)
  obtain ⟨sa, sc, hsv⟩ := hs.val
  obtain ⟨ta, tc, htv⟩ := ht.val
  obtain ⟨na, nc, hnv⟩ := hn.val
  subst hsv htv hnv
  clear hs ht hn ss st
  unfold PlanA
  obtain ⟨r1, h1⟩ : ∃ r, (refL fold s t store).1 = r := ⟨_, rfl⟩
  obtain ⟨r2, h2⟩ : ∃ r, (refL fold s t store).2 = r := ⟨_, rfl⟩
  rw [h1] at HOK
  rw [h1, h2] at HAT HR ⊢
  clear h1 h2
  go_enter Tryz.func36, Tryz.ntmps36
  go_wp2_with fail
  refine HR.out.mono ?_
  rintro e w1 ⟨rfl, hb1⟩
  have HB1 := hidD hb1
  clear hb1 HR
  by_cases h0 : r1 = 0
  · obtain rfl := HAT.out h0
    have P := hidD (HOK.out h0).1
    have h0' : (r1 != 0) = false := by simp [h0]
    have H0E := hidD h0
    clear h0
    have X1 : Hid (Two w1 (.slice sa s.length sc) (.slice ta t.length tc) s t) := ⟨HS.out.below HB1.out (Nat.le_refl _), HT.out.below HB1.out (Nat.le_refl _), HSS.out, HST.out, P.out.ls, P.out.lt⟩
    clear HOK HAT
    go_wp2_with fail
    refine (stepsN X1.out P.out).mono ?_
    rintro e w2 ⟨v2, rfl, hst⟩
    obtain ⟨to, fr, ms, lv, cm, fd, md, ws, fv, mv, hM, hD, hN, hfew, hb2, hw, hws, hf, hm, hv⟩ := hst
    have H0 : Plan0 fold (KeptQ s t) s t to fr ms lv cm fd md := ⟨P.out, hM, hD, hfew, fun p V I a ha b hb had hbd hid => by
      obtain ⟨k, hk⟩ := List.mem_iff_getElem?.1 ha
      exact I.kept hM hk hb had hbd hid⟩
    have HP := hidD (show ∀ ops, PlanOk fold (KeptQ s t) s t ms lv ops → Planned fold s t ops from fun ops h => ⟨to, fr, ms, lv, cm, fd, md, P.out, hM, hD, hN, h⟩)
    have HB2 := hidD (HB1.out.trans (hb2.mono HB1.out.size))
    have hsz := HB1.out.size
    have hsz2 := HB2.out.size
    rcases hv with ⟨rfl, va, vc, rfl⟩ | ⟨g, vc, rfl, hg, hG, hF⟩
    · have HI := hidD (inOrder0 H0 (fun x y h => by have := (hf x y h).1; simp at this) (fun x y h => by have := (hm x y h).1; simp at this) w2 va vc)
      clear H0 hM hD hb2 hw hws hf hm
      go_wp2_with fail
      refine HI.out.mono ?_
      rintro e w3 ⟨v3, ops, rfl, hown, hb3, hok⟩
      obtain ⟨pa, pn, pc, hv3⟩ := shape_of hown
      subst hv3
      have HO := hidD (own_monoK hown hsz2)
      have HK := hidD (HP.out ops hok)
      have HB3 := hidD (HB2.out.trans (hb3.mono HB2.out.size))
      clear hown hb3 hok HI
      go_wp2_with fail
      go_ret3
      exact ⟨_, by rw [H0E.out]; rfl, HB3.out, fun _ => ⟨ops, HO.out, HK.out⟩, fun h => absurd H0E.out h⟩
    · have HI := hidD (inOrderN (c := vc) H0 hG hF hw hws hf hm)
      clear H0 hM hD hb2 hw hws hf hm hG hF
      go_wp2_with fail
      refine HI.out.mono ?_
      rintro e w3 ⟨v3, ops, rfl, hown, hk3, hok⟩
      obtain ⟨pa, pn, pc, hv3⟩ := shape_of hown
      subst hv3
      have HO := hidD (own_monoK hown hsz2)
      have HK := hidD (HP.out ops hok)
      have HB3 := hidD (show Below u.heap.size u w3 from ⟨hk3.os.trans HB2.out.os, hk3.tape.trans HB2.out.tape, hk3.output.trans HB2.out.output, Nat.le_trans hsz2 hk3.size, fun b hb => (hk3.block b (by omega) (by omega)).trans (HB2.out.block b hb)⟩)
      clear hown hk3 hok HI
      go_wp2_with fail
      go_ret3
      exact ⟨_, by rw [H0E.out]; rfl, HB3.out, fun _ => ⟨ops, HO.out, HK.out⟩, fun h => absurd H0E.out h⟩
  · have h0' : (r1 != 0) = true := by simp [h0]
    clear HOK HAT
    go_wp2_with fail
    go_ret3
    exact ⟨_, rfl, HB1.out, fun h => absurd h h0, fun _ => rfl⟩
set_option maxHeartbeats 4000000 in
set_option maxRecDepth 100000 in
theorem facePlan {u : World} {sv tv nv : Value} {fold : Bool} {s t : List EntD} {store : List Int} (hs : RowAt u sv s) (ht : RowAt u tv t) (hn : IntsAt u nv store) (ss : SmallL s) (st : SmallL t) (hln : store.length ≤ 2000000) :
    Calls Tryz.prog 10 #[sv, tv, .bool fold, nv] u fun e w' => PlanA u fold s t store e w' := by
  have HP := hidD (planN (fold := fold) hs ht hn ss st hln)
  obtain ⟨sa, sc, hsv⟩ := hs.val
  obtain ⟨ta, tc, htv⟩ := ht.val
  obtain ⟨na, nc, hnv⟩ := hn.val
  subst hsv htv hnv
  clear hs ht hn ss st
  go_enter Tryz.func10, Tryz.ntmps10
  go_wp2_with fail
  refine HP.out.mono ?_
  rintro e w1 ⟨ov, rfl, hb, h1, h2⟩
  obtain ⟨oa, on, oc, hov⟩ : ∃ a n c, ov = .slice a n c := by
    by_cases h0 : (refL fold s t store).1 = 0
    · obtain ⟨ops, ho, _⟩ := h1 h0
      exact shape_of ho
    · exact ⟨_, _, _, h2 h0⟩
  subst hov
  have H1 := hidD (And.intro hb (And.intro h1 h2))
  clear hb h1 h2 HP
  go_wp2_with fail
  go_ret3
  exact ⟨_, rfl, H1.out.1, H1.out.2.1, H1.out.2.2⟩
end Go.Proofs.YtpjjagalekolaaaGreatDoor

