/- The reference's change as two trees are gone through side by side: what it gives. -/
import Derived.Test.YtjaepomjdknieaaDoorDH
import Derived.Test.YtjaepomjdknieaaDoorDJa
import Derived.Test.YtjaepomjdknieaaDoorDJb
import Derived.Test.YtjaepomjdknieaaDoorDJc
import Derived.Test.YtjaepomjdknieaaDoorDJd
import Derived.Test.YtjaepomjdknieaaDoorDJe
import Derived.Test.YtjaepomjdknieaaDoorDJf
import Derived.Test.YtjaepomjdknieaaDoorDJg
import Derived.Test.YtjaepomjdknieaaDoorDJh
import Derived.Test.YtjaepomjdknieaaDoorDJi
namespace Go.Proofs.YtjaepomjdknieaaDoor
open Go.RowKit
set_option linter.unusedVariables false
set_option linter.unusedSimpArgs false

theorem find_congr {pr pr' : EntD → Bool} : ∀ (l : List EntD), (∀ o ∈ l, pr o = pr' o) → l.find? pr = l.find? pr'
  | [], _ => rfl
  | a :: t, h => by
    rw [List.find?_cons, List.find?_cons, h a (by simp)]
    cases pr' a
    · exact find_congr t (fun o ho => h o (by simp [ho]))
    · rfl
theorem from_src (S : List EntD) (hS : TreeOk S) (e : EntD) (hf : fieldsB e = true) (hd : e.dir = false) : fromL e.id S = srcB S e := by
  unfold fromL srcB
  rw [hd, if_neg (by simp)]
  rw [find_congr S (fun o ho => ?_)]
  obtain ⟨_, _, f1⟩ := fieldsB_true _ hf
  obtain ⟨_, _, f2⟩ := fieldsB_true _ (hS.fields o ho)
  rcases f1 with ⟨d1, _⟩ | ⟨_, i1, _⟩
  · rw [hd] at d1; cases d1
  · rcases f2 with ⟨d2, i2, _⟩ | ⟨d2, _⟩
    · unfold fileIs idIs
      rw [d2, Bool.not_true, Bool.false_and, eq_comm, decide_eq_false_iff_not]
      omega
    · unfold fileIs idIs
      rw [d2, Bool.not_false, Bool.true_and]
theorem src_dir (S : List EntD) (e : EntD) (hd : e.dir = true) : srcB S e = ⟨#[]⟩ := by
  unfold srcB; rw [if_pos hd]

/-- How a list that is handed in lies there: a row, or one of which nothing is read. -/
inductive LstAt (w : World) : Value → List EntD → Prop
  | row (b off cap : Nat) (l : List EntD) (hb : b < w.heap.size) (h : EntsAt w b off l) : LstAt w (.slice (some ⟨b, off, none⟩) l.length cap) l
  | none (a : Option Addr) (c : Nat) : LstAt w (.slice a 0 c) []
theorem LstAt.below {w w' : World} {v : Value} {l : List EntD} (h : LstAt w v l) (hb : Below w.heap.size w w') : LstAt w' v l := by
  cases h with
  | row b off cap l hlt h => exact .row b off cap l (by have := hb.size; omega) (h.below hb hlt)
  | none a c => exact .none a c
theorem LstAt.find {w : World} {v : Value} {l : List EntD} (h : LstAt w v l) (hl : l.length ≤ 2000000) (p : ByteArray) : ∀ u : World, Below w.heap.size w u → Calls Tryd.prog 60 #[v, .string p] u fun e w' => e = .returned (.int .i64 (fstI (pathIs p) l)) ∧ w' = u := by
  intro u hu
  cases h with
  | row b off cap l hlt h => exact rfind_any b off cap l p u hl (h.below hu hlt)
  | none a c => exact rfind_empty a c p u

section
variable {w : World} {vs vt : Value} {S T : List EntD} {i k : Nat}
theorem step_gone (hs : LstAt w vs S) (ht : LstAt w vt T) (hS : TreeOk S) (hT : TreeOk T) (hM : Mrg S T i k) (hi : i < S.length) (hk : ∀ h : k < T.length, cmpL S[i].path.data.toList T[k].path.data.toList < 0) :
    Calls Tryd.prog 35 #[vs, vt, .string S[i].path] w fun r w' => r = .returned (.agg #[.string S[i].path, .int .i64 2, .string ⟨#[]⟩]) ∧ Below w.heap.size w w' := by
  have l1 : S.length ≤ 2000000 := by have := hS.few; omega
  have l2 : T.length ≤ 2000000 := by have := hT.few; omega
  have F1 := hs.find l1 S[i].path
  have F2 := ht.find l2 S[i].path
  rw [find_here hS hi _ rfl] at F1
  rw [find_notT hM hT hi _ rfl hk] at F2
  cases hs with
  | none a c => simp at hi
  | row b off cap l hb h =>
    cases ht with
    | none a c => exact rchange_gone _ _ _ _ _ _ _ _ w F1 F2
    | row b' off' cap' l' hb' h' => exact rchange_gone _ _ _ _ _ _ _ _ w F1 F2
theorem step_made (hs : LstAt w vs S) (ht : LstAt w vt T) (hS : TreeOk S) (hT : TreeOk T) (hM : Mrg S T i k) (hk : k < T.length) (hi : ∀ h : i < S.length, 0 < cmpL S[i].path.data.toList T[k].path.data.toList) :
    Calls Tryd.prog 35 #[vs, vt, .string T[k].path] w fun r w' => r = .returned (.agg #[.string T[k].path, .int .i64 1, .string (srcB S T[k])]) ∧ Below w.heap.size w w' := by
  have l1 : S.length ≤ 2000000 := by have := hS.few; omega
  have l2 : T.length ≤ 2000000 := by have := hT.few; omega
  have F1 := hs.find l1 T[k].path
  have F2 := ht.find l2 T[k].path
  rw [find_here hT hk _ rfl] at F2
  rw [find_notS hM hS hk _ rfl hi] at F1
  have hf := hT.fields _ (List.getElem_mem hk)
  cases ht with
  | none a c => simp at hk
  | row b' off' cap' l' hb' h' =>
    cases hd : T[k].dir with
    | true =>
      rw [src_dir S _ hd]
      cases hs with
      | none a c => exact rchange_madeD _ _ _ _ _ _ k _ _ w (by omega) l2 hb' h' hk hd F1 F2
      | row b off cap l hb h => exact rchange_madeD _ _ _ _ _ _ k _ _ w l1 l2 hb' h' hk hd F1 F2
    | false =>
      rw [← from_src S hS _ hf hd]
      cases hs with
      | none a c => exact rchange_made0 _ _ _ _ _ k _ _ w l2 hb' h' hk hd F1 F2
      | row b off cap l hb h => exact rchange_made _ _ _ _ _ _ _ k _ _ w l1 hb h l2 hb' h' hk hd F1 F2
theorem step_both (hs : LstAt w vs S) (ht : LstAt w vt T) (hS : TreeOk S) (hT : TreeOk T) (hi : i < S.length) (hk : k < T.length) (he : S[i].path = T[k].path) :
    Calls Tryd.prog 35 #[vs, vt, .string S[i].path] w fun r w' => r = .returned (.agg (if eqB S[i] T[k] then #[.string S[i].path, .int .i64 0, .string ⟨#[]⟩] else #[.string (chgB S S[i] T[k]).path, .int .i64 (chgB S S[i] T[k]).kind, .string (chgB S S[i] T[k]).src])) ∧ Below w.heap.size w w' := by
  have l1 : S.length ≤ 2000000 := by have := hS.few; omega
  have l2 : T.length ≤ 2000000 := by have := hT.few; omega
  have F1 := hs.find l1 S[i].path
  have F2 := ht.find l2 S[i].path
  rw [find_here hS hi _ rfl] at F1
  rw [find_here hT hk _ he.symm] at F2
  have hfS := hS.fields _ (List.getElem_mem hi)
  have hfT := hT.fields _ (List.getElem_mem hk)
  cases hs with
  | none a c => simp at hi
  | row b off cap l hb h =>
    cases ht with
    | none a c => simp at hk
    | row b' off' cap' l' hb' h' =>
      cases hq : eqB S[i] T[k] with
      | true =>
        rw [if_pos rfl]
        exact rchange_eq _ _ _ _ _ _ _ k _ i _ w l1 hb h l2 hb' h' hk hi hq F1 F2
      | false =>
        rw [if_neg (by simp)]
        by_cases hd : S[i].dir = T[k].dir
        · have hc : ∀ x y : ChD, x = y → Value.agg #[.string x.path, .int .i64 x.kind, .string x.src] = Value.agg #[.string y.path, .int .i64 y.kind, .string y.src] := fun x y e => by rw [e]
          by_cases hx : S[i].id = T[k].id
          · by_cases hz : S[i].size = T[k].size
            · have e : chgB S S[i] T[k] = ⟨T[k].path, 5, ⟨#[]⟩⟩ := by unfold chgB; rw [if_neg (by simpa using hd), if_neg (by simp [hx, hz])]
              rw [hc _ _ e, ← he]
              exact rchange_moded _ _ _ _ _ _ _ k _ i _ w l1 hb h l2 hb' h' hk hi hq hd hx hz F1 F2
            · have hdT : T[k].dir = false := by
                cases hdt : T[k].dir with
                | false => rfl
                | true =>
                  exfalso
                  obtain ⟨_, _, f1⟩ := fieldsB_true _ hfS
                  obtain ⟨_, _, f2⟩ := fieldsB_true _ hfT
                  rw [hdt] at hd
                  rcases f1 with ⟨_, _, z1⟩ | ⟨d1, _⟩
                  · rcases f2 with ⟨_, _, z2⟩ | ⟨d2, _⟩
                    · exact hz (z1.trans z2.symm)
                    · rw [hdt] at d2; cases d2
                  · rw [hd] at d1; cases d1
              have e : chgB S S[i] T[k] = ⟨T[k].path, 4, srcB S T[k]⟩ := by unfold chgB; rw [if_neg (by simpa using hd), if_pos (.inr hz)]
              rw [hc _ _ e, ← he, ← from_src S hS _ hfT hdT]
              exact rchange_size _ _ _ _ _ _ _ k _ i _ w l1 hb h l2 hb' h' hk hi hq (hd.trans hdT) hdT hx hz F1 F2
          · have hdT : T[k].dir = false := by
              cases hdt : T[k].dir with
              | false => rfl
              | true =>
                exfalso
                obtain ⟨_, _, f1⟩ := fieldsB_true _ hfS
                obtain ⟨_, _, f2⟩ := fieldsB_true _ hfT
                rw [hdt] at hd
                rcases f1 with ⟨_, z1, _⟩ | ⟨d1, _⟩
                · rcases f2 with ⟨_, z2, _⟩ | ⟨d2, _⟩
                  · exact hx (z1.trans z2.symm)
                  · rw [hdt] at d2; cases d2
                · rw [hd] at d1; cases d1
            have e : chgB S S[i] T[k] = ⟨T[k].path, 4, srcB S T[k]⟩ := by unfold chgB; rw [if_neg (by simpa using hd), if_pos (.inl hx)]
            rw [hc _ _ e, ← he, ← from_src S hS _ hfT hdT]
            exact rchange_id _ _ _ _ _ _ _ k _ i _ w l1 hb h l2 hb' h' hk hi hq (hd.trans hdT) hdT hx F1 F2
        · have hc : ∀ x y : ChD, x = y → Value.agg #[.string x.path, .int .i64 x.kind, .string x.src] = Value.agg #[.string y.path, .int .i64 y.kind, .string y.src] := fun x y e => by rw [e]
          have e : chgB S S[i] T[k] = ⟨T[k].path, 3, srcB S T[k]⟩ := by unfold chgB; rw [if_pos (by simpa using hd)]
          rw [hc _ _ e, ← he]
          cases hdT : T[k].dir with
          | true =>
            have hdS : S[i].dir = false := by
              cases hds : S[i].dir with
              | false => rfl
              | true => exact absurd (hds.trans hdT.symm) hd
            rw [src_dir S _ hdT]
            exact rchange_turnedD _ _ _ _ _ _ _ k _ i _ w l1 hb h l2 hb' h' hk hi hq hdS hdT F1 F2
          | false =>
            have hdS : S[i].dir = true := by
              cases hds : S[i].dir with
              | true => rfl
              | false => exact absurd (hds.trans hdT.symm) hd
            rw [← from_src S hS _ hfT hdT]
            exact rchange_turned _ _ _ _ _ _ _ k _ i _ w l1 hb h l2 hb' h' hk hi hq hdS hdT F1 F2
end
end Go.Proofs.YtjaepomjdknieaaDoor
