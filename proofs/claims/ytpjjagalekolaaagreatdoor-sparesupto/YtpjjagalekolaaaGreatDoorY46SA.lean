/- What the laws of keeping take of a plan. -/
import Derived.Test.YtpjjagalekolaaaGreatDoorY43SP
import Derived.Test.YtpjjagalekolaaaGreatDoorY45
namespace Go.Proofs.YtpjjagalekolaaaGreatDoor
open Go.RowKit
set_option linter.unusedVariables false
set_option linter.unusedSimpArgs false

theorem flatOp_get (l : List OpD) : ∀ (k : Nat) (h : k < l.length) (j : Nat) (hj : j < 6), (flatOp l)[k * 6 + j]? = l[k].cells[j]? := by
  induction l with
  | nil => intro k h; simp at h
  | cons o l ih =>
    intro k h j hj
    simp only [flatOp, List.map_cons, List.flatten_cons]
    cases k with
    | zero =>
      rw [List.getElem?_append_left (by simp [OpD.cells]; omega)]; simp
    | succ k =>
      rw [List.getElem?_append_right (by simp [OpD.cells]; omega)]
      have e : (k + 1) * 6 + j - o.cells.length = k * 6 + j := by simp [OpD.cells]; omega
      rw [e]
      exact ih k (by simpa using h) j hj
theorem at_flatOp {w : World} {g : Nat} {l : List OpD} (h : ∀ j u, (flatOp l)[j]? = some u → w.cell? ⟨g, j, none⟩ = some u) : OpsAt w g 0 l := by
  intro k hk j v hv
  have hj : j < 6 := (List.getElem?_eq_some_iff.1 hv).1
  have := h (k * 6 + j) v (by rw [flatOp_get l k hk j hj]; exact hv)
  rwa [Nat.zero_add]
theorem OpRow.ofOwn {w : World} {B : Nat} {v : Value} {l : List OpD} (h : w.ownsRow B 59 6 v l.length (flatOp l)) : OpRow w v l := by
  have hc := h
  rcases h.2 with ⟨rfl, h0⟩ | ⟨g, cap, cur, rfl, hB, hg, hn, hm, _⟩
  · obtain rfl : l = [] := List.eq_nil_of_length_eq_zero h0
    exact .nil
  · refine .row g 0 cap l (heap_lt hg) (at_flatOp fun j u hu => ?_)
    have := hc.cells (g := g) rfl j u hu
    have e2 : ((⟨g, 0, none⟩ : Addr).add j) = ⟨g, j, none⟩ := by unfold Addr.add; split <;> simp_all
    rwa [e2] at this
/-- One operation of such a row. -/
theorem OpRow.op {w : World} {v : Value} {l : List OpD} (h : OpRow w v l) {k : Nat} (hk : k < l.length) : ∃ b off cap o, v = .slice (some ⟨b, off, none⟩) l.length cap ∧ l[k]? = some o ∧ ∀ u : World, Below w.heap.size w u → u.cell? ⟨b, off + k * 6, none⟩ = some (.int .i64 o.kind) ∧ u.cell? ⟨b, off + k * 6 + 1, none⟩ = some (.string o.path) ∧ u.cell? ⟨b, off + k * 6 + 2, none⟩ = some (.string o.dest) ∧ u.cell? ⟨b, off + k * 6 + 3, none⟩ = some (.int .i64 o.id) ∧ u.cell? ⟨b, off + k * 6 + 4, none⟩ = some (.int .i64 o.size) ∧ u.cell? ⟨b, off + k * 6 + 5, none⟩ = some (.int .i64 o.mode) := by
  cases h with
  | nil => simp at hk
  | row b off cap l hb h =>
    refine ⟨b, off, cap, l[k], rfl, List.getElem?_eq_getElem hk, fun u hu => ?_⟩
    have key := fun j v hv => cell_kept hu hb (h k hk j v hv)
    exact ⟨key 0 _ rfl, key 1 _ rfl, key 2 _ rfl, key 3 _ rfl, key 4 _ rfl, key 5 _ rfl⟩

theorem spB_small {n : Nat} (h : n < 100) : (spB n).size ≤ 1500000 := by
  have : (List.range 100).all (fun n => decide ((spN n).length ≤ 10)) = true := by kernel_rfl
  have h1 := of_decide_eq_true (List.all_eq_true.1 this n (List.mem_range.2 h))
  have : (spB n).size = (spN n).length := by simp [spB, ByteArray.size]
  omega
theorem opOf_small {s t : List EntD} {ms : List Mean} {lv : Nat → Option Nat} (ss : SmallL s) (st : SmallL t) {o : OpD} (h : OpOf s t ms lv o) : o.small := by
  have key : ∀ (l : List EntD), SmallL l → ∀ i, (eg l i).path.size ≤ 1500000 := fun l hl i => by
    unfold eg
    cases h : l[i]? with
    | none => exact Nat.zero_le _
    | some a => exact hl.2 a (getE h)
  have e0 : (ByteArray.mk #[]).size ≤ 1500000 := Nat.zero_le _
  cases h with
  | step k m hk =>
    cases m with
    | del i => exact ⟨key s ss i, e0⟩
    | ren i j => exact ⟨key s ss i, key t st j⟩
    | chm i j => exact ⟨key t st j, e0⟩
    | mkd j => exact ⟨key t st j, e0⟩
    | wri j => exact ⟨key t st j, e0⟩
    | cpy j q => exact ⟨key t st q, key t st j⟩
  | back k i j n hk hl hn => exact ⟨spB_small hn, key t st j⟩
  | away k i j n hk hl hn => exact ⟨key s ss i, spB_small hn⟩

/-- A plan, as the laws want it. -/
structure PlanT (fold : Bool) (s t : List EntD) (ops : List OpD) : Prop where
  plan : Planned fold s t ops
  len : ops.length ≤ 240
  small : ∀ o ∈ ops, o.small
  ok : ∀ o ∈ ops, okOp o = true
  try_ : ∃ n, tryP fold 9223372036854775807 s ops = .ok (t, n)
  kept : ∀ k, k ≤ ops.length → KeptQ s t (wayT fold s ops k)
theorem Planned.told {fold : Bool} {s t : List EntD} {ops : List OpD} (h : Planned fold s t ops) (ss : SmallL s) (st : SmallL t) (hts : treeF fold s = true) : PlanT fold s t ops := by
  have hp := h
  obtain ⟨to, fr, ms, lv, cm, fd, md, P, M, D, N, W, hl, hof⟩ := h
  obtain ⟨h1, ⟨n, h2⟩, h3, h4⟩ := W.all
  have hls := P.ls
  have hlt := P.lt
  refine ⟨hp, by omega, fun o ho => opOf_small ss st (hof o ho), h1, ⟨n, ?_⟩, h4⟩
  unfold tryP
  rw [if_neg (by rw [hts]; decide), if_neg (by
    rw [fwrong_scriptB]
    simp only [scriptB, Bool.not_eq_true', Bool.and_eq_false_iff, decide_eq_false_iff_not, not_or, Bool.not_eq_false, decide_eq_true_eq, List.all_eq_true, Bool.not_not]
    exact ⟨by omega, h1⟩), h2]

set_option maxHeartbeats 4000000 in
theorem check35 {w : World} {v : Value} {L : List EntD} (fold : Bool) (hr : RowAt w v L) (hs : SmallL L) : Calls Tryz.prog 35 #[v, .bool fold] w fun e w' => ∃ c k : Int, e = .returned (.tuple #[.int .i64 c, .int .i64 k]) ∧ (c == 0) = treeF fold L ∧ Below w.heap.size w w' := by
  have HP := hidD (treesCheckF fold hr hs)
  obtain ⟨a, c, hv⟩ := hr.val
  subst hv
  clear hr hs
  go_enter Tryz.func35, Tryz.ntmps35
  go_wp2_with fail
  refine HP.out.mono ?_
  rintro e w1 ⟨c1, k1, rfl, h1, hb⟩
  have H := hidD (And.intro h1 hb)
  clear h1 hb HP
  go_wp2_with fail
  go_ret2
  exact ⟨c1, k1, rfl, H.out.1, H.out.2⟩
def PlannedA (w : World) (fold : Bool) (s t : List EntD) (e : Ending) (w' : World) : Prop := Below w.heap.size w w' ∧ (e = .returned (.tuple #[.slice none 0 0, .bool false, .bool true]) ∨ ∃ v ops, e = .returned (.tuple #[v, .bool true, .bool true]) ∧ w'.ownsRow w.heap.size 59 6 v ops.length (flatOp ops) ∧ PlanT fold s t ops)
set_option maxHeartbeats 8000000 in
set_option maxRecDepth 100000 in
theorem planned19 {w : World} {sv tv nv : Value} {fold : Bool} {s t : List EntD} {store : List Int} (hg : Gd w) (hs : RowAt w sv s) (ht : RowAt w tv t) (hn : IntsAt w nv store) (ss : SmallL s) (st : SmallL t) (hln : store.length ≤ 2000000) :
    Calls Tryz.prog 19 #[sv, tv, .bool fold, nv] w fun e w' => PlannedA w fold s t e w' := by
  have HS := hidD hs
  have HT := hidD ht
  have HN := hidD hn
  have HSS := hidD ss
  have HST := hidD st
  have HG := hidD hg
  obtain ⟨sa, sc, hsv⟩ := hs.val
  obtain ⟨ta, tc, htv⟩ := ht.val
  obtain ⟨na, nc, hnv⟩ := hn.val
  subst hsv htv hnv
  clear hs ht hn ss st hg
  unfold PlannedA
  go_enter Tryz.func19, Tryz.ntmps19
  go_wp2_with fail
  refine (alive_any _ HG.out).mono ?_
  rintro e w1 ⟨rfl, hb1⟩
  have B1 := hidD hb1
  clear hb1
  go_wp2_with fail
  refine (facePlan (HS.out.below B1.out (Nat.le_refl _)) (HT.out.below B1.out (Nat.le_refl _)) (HN.out.below B1.out (Nat.le_refl _)) HSS.out HST.out hln).mono ?_
  rintro e w2 ⟨v2, rfl, hb2, h1, h2⟩
  have B2 := hidD (B1.out.trans (hb2.mono B1.out.size))
  have HOK := hidD (fun h => refL_ok (fold := fold) (s := s) (t := t) (store := store) h)
  have hz1 := B1.out.size
  clear hb2 HN
  obtain ⟨r1, e1⟩ : ∃ r, (refL fold s t store).1 = r := ⟨_, rfl⟩
  obtain ⟨r2, e2⟩ : ∃ r, (refL fold s t store).2 = r := ⟨_, rfl⟩
  rw [e1] at HOK h1 h2
  rw [e1, e2]
  clear e1 e2
  by_cases h0 : r1 = 0
  · subst h0
    obtain ⟨ops, ho, hp⟩ := h1 rfl
    have hok := HOK.out rfl
    have HTR := hidD hok
    have RO := hidD (own_monoK ho hz1)
    have HP := hidD hp
    obtain ⟨oa, on, oc, hov⟩ := shape_of ho
    subst hov
    clear h1 h2 ho hp hok HOK
    go_wp2_with fail
    refine (check35 fold (HS.out.below B2.out (Nat.le_refl _)) HSS.out).mono ?_
    rintro e w3 ⟨c3, k3, rfl, hc3, hb3⟩
    rw [HTR.out.2.1] at hc3
    obtain rfl : c3 = 0 := by simpa using hc3
    have B3 := hidD (B2.out.trans (hb3.mono B2.out.size))
    have RO3 := hidD (own_belowK hb3 RO.out)
    clear hc3 hb3 RO B2 B1 hz1
    go_wp2_with fail
    refine (check35 fold (HT.out.below B3.out (Nat.le_refl _)) HST.out).mono ?_
    rintro e w4 ⟨c4, k4, rfl, hc4, hb4⟩
    rw [HTR.out.2.2.1] at hc4
    obtain rfl : c4 = 0 := by simpa using hc4
    have B4 := hidD (B3.out.trans (hb4.mono B3.out.size))
    have RO4 := hidD (own_belowK hb4 RO3.out)
    clear hc4 hb4 RO3 B3
    go_wp2_with fail
    go_ret3
    exact ⟨B4.out, .inr ⟨_, ops, rfl, RO4.out, HP.out.told HSS.out HST.out HTR.out.2.1⟩⟩
  · obtain hv2 := h2 h0
    subst hv2
    have h0' : (r1 != 0) = true := by simp [h0]
    clear h1 h2 HOK
    go_wp2_with fail
    go_ret3
    exact ⟨B2.out, .inl rfl⟩
end Go.Proofs.YtpjjagalekolaaaGreatDoor

