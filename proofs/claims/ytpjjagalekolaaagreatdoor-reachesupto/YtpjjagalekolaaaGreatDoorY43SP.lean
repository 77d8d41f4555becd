/- What a plan leaves alone. No program in this text. -/
import Derived.Test.YtpjjagalekolaaaGreatDoorY41OE
import Derived.Test.YtpjjagalekolaaaGreatDoorY42SD
namespace Go.Proofs.YtpjjagalekolaaaGreatDoor
open Go.RowKit
set_option linter.unusedVariables false
set_option linter.unusedSimpArgs false

theorem anc_of {fold : Bool} {V : List EntD} (K : VolOk fold V) {q : BL} (hq : q ≠ []) {x : EntD} (hx : x ∈ V) {r : BL} (h : x.pl = q ++ 47 :: r) : ∃ y ∈ V, y.dir = true ∧ y.pl = q := by
  obtain ⟨y, hy, hp⟩ := child_of K hq _ x (Nat.le_refl _) hx ((belowL_false _ _).2 ⟨r, h⟩)
  obtain ⟨z, hz, hd, hzp⟩ := K.par y hy (by rw [hp]; exact hq)
  exact ⟨z, hz, hd, hzp.trans hp⟩
theorem dir_id {e : EntD} (h : fieldsB e = true) (hd : e.dir = true) : e.id = 0 := by
  obtain ⟨_, _, f⟩ := fieldsB_true _ h
  rcases f with ⟨_, z, _⟩ | ⟨z, _⟩
  · exact z
  · rw [hd] at z; cases z
theorem spN_no47 {n : Nat} (h : n < 100) : ∀ c ∈ spN n, c ≠ 47 := by
  have : (List.range 100).all (fun n => (spN n).all fun c => !(c == 47)) = true := by kernel_rfl
  have h1 := List.all_eq_true.1 this n (List.mem_range.2 h)
  intro c hc e
  have := List.all_eq_true.1 h1 c hc
  rw [e] at this
  revert this; decide
theorem spN_bel {n : Nat} (h : n < 100) {p : BL} (hp : pathL p = true) : ¬ BelP (spN n) p ∧ ¬ BelP p (spN n) := by
  have hs := spN_spare h
  have hn := spare_not_nms hs
  have hm := (pathL_nms hp).1
  refine ⟨?_, ?_⟩
  · rintro (e | ⟨r, e⟩)
    · rw [e, hm] at hn; cases hn
    · exact spN_no47 h 47 (by rw [e]; simp) rfl
  · rintro (e | ⟨r, e⟩)
    · rw [← e, hm] at hn; cases hn
    · rw [e, nms_split, hn] at hm; cases hm

section
variable {fold : Bool} {s t : List EntD} {to fr : Nat → Option Nat} {ms : List Mean} {lv cm : Nat → Option Nat} {fd md : Nat → List Nat} {p : BL}
theorem whole_to (M : Mat fold s t to fr) (W : WholeP s t p) {i : Nat} {a : EntD} (ha : s[i]? = some a) (hb : BelP a.pl p) : ∃ j, t[j]? = some a ∧ to i = some j := by
  obtain ⟨j, hj⟩ := List.mem_iff_getElem?.1 (W.st a (getE ha) hb)
  exact ⟨j, hj, M.place i j a a ha hj (sameB_refl _ _) rfl rfl⟩
theorem whole_fr (M : Mat fold s t to fr) (W : WholeP s t p) {j : Nat} {b : EntD} (hb : t[j]? = some b) (hl : BelP b.pl p) : ∃ i, s[i]? = some b ∧ to i = some j := by
  obtain ⟨i, hi⟩ := List.mem_iff_getElem?.1 (W.ts b (getE hb) hl)
  exact ⟨i, hi, M.place i j b b hi hb (sameB_refl _ _) rfl rfl⟩
/-- What is above it stays too. -/
theorem whole_up (P : Pair fold s t) (M : Mat fold s t to fr) (W : WholeP s t p) {i : Nat} {a : EntD} (ha : s[i]? = some a) (hb : BelP p a.pl) : ∃ j b, t[j]? = some b ∧ to i = some j ∧ b.pl = a.pl := by
  obtain ⟨c, hc, hcp⟩ := W.at_
  have hct := W.st c hc (.inl hcp)
  rcases hb with e | ⟨r, e⟩
  · have : c = a := mem_eq_of_srt P.vs.srt hc (getE ha) (hcp.trans e)
    subst this
    obtain ⟨j, hj, ht⟩ := whole_to M W ha (.inl hcp)
    exact ⟨j, c, hj, ht, rfl⟩
  · have hne := pl_ne P.vs (getE ha)
    obtain ⟨x, hx, hxd, hxp⟩ := anc_of P.vs hne hc (hcp.trans e)
    obtain ⟨y, hy, hyd, hyp⟩ := anc_of P.vt hne hct (hcp.trans e)
    have : x = a := mem_eq_of_srt P.vs.srt hx (getE ha) hxp
    subst this
    obtain ⟨j, hj⟩ := List.mem_iff_getElem?.1 hy
    refine ⟨j, y, hj, M.place i j x y ha hj (by rw [hyp]; exact sameB_refl _ _) (hxd.trans hyd.symm) ?_, hyp⟩
    rw [dir_id (P.vs.fields _ hx) hxd, dir_id (P.vt.fields _ hy) hyd]
theorem ren_not (N : NeedS fold s t ms) {k i j : Nat} {a b : EntD} (hk : ms[k]? = some (Mean.ren i j)) (ha : s[i]? = some a) (hb : t[j]? = some b) (h : b.pl = a.pl) : False := by
  rcases N.1 k i j a b hk ha hb with h' | h'
  · rw [h, sameB_refl] at h'; cases h'
  · rw [h] at h'; exact h' rfl
theorem Planned.leaves {ops : List OpD} (h : Planned fold s t ops) (W : WholeP s t p) {o : OpD} (ho : o ∈ ops) : ¬ TouchP o p := by
  obtain ⟨to, fr, ms, lv, cm, fd, md, P, M, D, N, _, _, hof⟩ := h
  have hpp : pathL p = true := by
    obtain ⟨c, hc, hcp⟩ := W.at_
    rw [← hcp]
    exact P.ps c hc
  have renA : ∀ {k i j : Nat}, ms[k]? = some (Mean.ren i j) → ∃ a b, s[i]? = some a ∧ t[j]? = some b ∧ to i = some j := fun {k i j} hk => by
    have ht := (D.renS k i j hk).1
    have hb := M.bs i j ht
    exact ⟨_, _, List.getElem?_eq_getElem hb.1, List.getElem?_eq_getElem hb.2, ht⟩
  have RA : ∀ {k i j : Nat} {a b : EntD}, ms[k]? = some (Mean.ren i j) → s[i]? = some a → t[j]? = some b → to i = some j → ¬ BelP a.pl p := fun {k i j a b} hk ha hb ht hB => by
    obtain ⟨j', hj', ht'⟩ := whole_to M W ha hB
    rw [ht] at ht'
    cases ht'
    rw [hb] at hj'
    cases hj'
    exact ren_not N hk ha hb rfl
  have RB : ∀ {k i j : Nat} {a b : EntD}, ms[k]? = some (Mean.ren i j) → s[i]? = some a → t[j]? = some b → to i = some j → ¬ BelP b.pl p := fun {k i j a b} hk ha hb ht hB => by
    obtain ⟨i', hi', ht'⟩ := whole_fr M W hb hB
    have e1 := (M.inv i j).1 ht
    have e2 := (M.inv i' j).1 ht'
    rw [e1] at e2
    cases e2
    rw [ha] at hi'
    cases hi'
    exact ren_not N hk ha hb rfl
  have RU : ∀ {k i j : Nat} {a b : EntD}, ms[k]? = some (Mean.ren i j) → s[i]? = some a → t[j]? = some b → to i = some j → ¬ BelP p a.pl := fun {k i j a b} hk ha hb ht hB => by
    obtain ⟨j', b', hj', ht', hp'⟩ := whole_up P M W ha hB
    rw [ht] at ht'
    cases ht'
    rw [hb] at hj'
    cases hj'
    exact ren_not N hk ha hb hp'
  have NW : ∀ {j : Nat} {b : EntD}, t[j]? = some b → fr j = none → ¬ BelP b.pl p := fun {j b} hb hf hB => by
    obtain ⟨i', hi', ht'⟩ := whole_fr M W hb hB
    rw [(M.inv i' j).1 ht'] at hf
    cases hf
  cases hof o ho with
  | step k m hk =>
    cases m with
    | del i =>
      have hl := D.delS k i hk
      rcases D.lv1 i k hl with ⟨hn, hi, _⟩ | ⟨j, a, b, _, _, _, _, h'⟩
      · have ha := List.getElem?_eq_getElem hi
        simp only [TouchP, opM, eg_at ha]
        rintro (⟨h1, _⟩ | ⟨_, h1⟩ | ⟨h1, _⟩)
        · obtain ⟨j, _, ht⟩ := whole_to M W ha h1
          rw [hn] at ht; cases ht
        · exact h1 trivial
        · obtain ⟨j, _, _, ht, _⟩ := whole_up P M W ha h1
          rw [hn] at ht; cases ht
      · rw [hk] at h'; cases h'
    | ren i j =>
      obtain ⟨a, b, ha, hb, ht⟩ := renA hk
      simp only [TouchP, opM, eg_at ha, eg_at hb]
      rintro (⟨h1, _⟩ | ⟨h1, _⟩ | ⟨h1, _⟩)
      · exact RA hk ha hb ht h1
      · exact RB hk ha hb ht h1
      · exact RU hk ha hb ht h1
    | chm i j =>
      have ht := D.chmS k i j hk
      have hbs := M.bs i j ht
      have ha := List.getElem?_eq_getElem hbs.1
      have hb := List.getElem?_eq_getElem hbs.2
      simp only [TouchP, opM, eg_at hb]
      rintro (⟨h1, _⟩ | ⟨_, h1⟩ | ⟨_, h1⟩)
      · obtain ⟨i', hi', ht'⟩ := whole_fr M W hb h1
        have e1 := (M.inv i j).1 ht
        have e2 := (M.inv i' j).1 ht'
        rw [e1] at e2
        cases e2
        exact N.2 k i j _ _ hk hi' hb rfl
      · exact h1 trivial
      · omega
    | mkd j =>
      obtain ⟨hf, _, b, hb, _⟩ := D.mkdS k j hk
      simp only [TouchP, opM, eg_at hb]
      rintro (⟨h1, _⟩ | ⟨_, h1⟩ | ⟨_, h1⟩)
      · exact NW hb hf h1
      · exact h1 trivial
      · omega
    | wri j =>
      obtain ⟨hf, _, b, hb, _⟩ := D.wriS k j hk
      simp only [TouchP, opM, eg_at hb]
      rintro (⟨h1, _⟩ | ⟨_, h1⟩ | ⟨_, h1⟩)
      · exact NW hb hf h1
      · exact h1 trivial
      · omega
    | cpy j q =>
      obtain ⟨hf, _, b, c, i, hb, hc, _⟩ := D.cpyS k j q hk
      simp only [TouchP, opM, eg_at hb]
      rintro (⟨_, h1⟩ | ⟨h1, _⟩ | ⟨_, h1⟩)
      · exact h1 trivial
      · exact NW hb hf h1
      · omega
  | back k i j n hk hl hn =>
    obtain ⟨a, b, ha, hb, ht⟩ := renA hk
    have hsp := spN_bel hn hpp
    simp only [TouchP, opM, eg_at ha, eg_at hb, spB]
    rintro (⟨h1, _⟩ | ⟨h1, _⟩ | ⟨h1, _⟩)
    · exact hsp.1 h1
    · exact RB hk ha hb ht h1
    · exact hsp.2 h1
  | away k i j n hk hl hn =>
    obtain ⟨a, b, ha, hb, ht⟩ := renA hk
    have hsp := spN_bel hn hpp
    simp only [TouchP, opM, eg_at ha, eg_at hb, spB]
    rintro (⟨h1, _⟩ | ⟨h1, _⟩ | ⟨h1, _⟩)
    · exact RA hk ha hb ht h1
    · exact hsp.1 h1
    · exact RU hk ha hb ht h1

/-- The names of a plan are those of the trees, or spare; nothing is written that is there. -/
structure NamedP (s t : List EntD) (o : OpD) : Prop where
  wr : o.kind = 4 → ∀ a ∈ s, a.dir = false → ¬ a.id = o.id
  pa : (∃ a ∈ s, a.path = o.path) ∨ (∃ b ∈ t, b.path = o.path) ∨ ∃ r, o.path.data.toList = 126 :: r
  de : (∃ a ∈ s, a.path = o.dest) ∨ (∃ b ∈ t, b.path = o.dest) ∨ (∃ r, o.dest.data.toList = 126 :: r) ∨ o.dest = ⟨#[]⟩
theorem Planned.named {ops : List OpD} (h : Planned fold s t ops) {o : OpD} (ho : o ∈ ops) : NamedP s t o := by
  obtain ⟨to, fr, ms, lv, cm, fd, md, P, M, D, N, _, _, hof⟩ := h
  have renA : ∀ {k i j : Nat}, ms[k]? = some (Mean.ren i j) → ∃ a b, s[i]? = some a ∧ t[j]? = some b ∧ to i = some j := fun {k i j} hk => by
    have ht := (D.renS k i j hk).1
    have hb := M.bs i j ht
    exact ⟨_, _, List.getElem?_eq_getElem hb.1, List.getElem?_eq_getElem hb.2, ht⟩
  cases hof o ho with
  | step k m hk =>
    cases m with
    | del i =>
      rcases D.lv1 i k (D.delS k i hk) with ⟨hn, hi, _⟩ | ⟨j, a, b, _, _, _, _, h'⟩
      · have ha := List.getElem?_eq_getElem hi
        rw [opM, eg_at ha]
        refine ⟨fun e => ?_, .inl ⟨_, getE ha, rfl⟩, .inr (.inr (.inr rfl))⟩
        dsimp only at e
        split at e <;> omega
      · rw [hk] at h'; cases h'
    | ren i j =>
      obtain ⟨a, b, ha, hb, ht⟩ := renA hk
      rw [opM, eg_at ha, eg_at hb]
      exact ⟨fun e => by dsimp only at e; omega, .inl ⟨_, getE ha, rfl⟩, .inr (.inl ⟨_, getE hb, rfl⟩)⟩
    | chm i j =>
      have ht := D.chmS k i j hk
      have hbs := M.bs i j ht
      have hb := List.getElem?_eq_getElem hbs.2
      rw [opM, eg_at hb]
      exact ⟨fun e => by dsimp only at e; omega, .inr (.inl ⟨_, getE hb, rfl⟩), .inr (.inr (.inr rfl))⟩
    | mkd j =>
      obtain ⟨hf, _, b, hb, _⟩ := D.mkdS k j hk
      rw [opM, eg_at hb]
      exact ⟨fun e => by dsimp only at e; omega, .inr (.inl ⟨_, getE hb, rfl⟩), .inr (.inr (.inr rfl))⟩
    | wri j =>
      obtain ⟨hf, _, b, hb, _, hno⟩ := D.wriS k j hk
      rw [opM, eg_at hb]
      exact ⟨fun _ a ha had => hno a ha had, .inr (.inl ⟨_, getE hb, rfl⟩), .inr (.inr (.inr rfl))⟩
    | cpy j q =>
      obtain ⟨hf, _, b, c, i, hb, hc, _⟩ := D.cpyS k j q hk
      rw [opM, eg_at hb, eg_at hc]
      exact ⟨fun e => by dsimp only at e; omega, .inr (.inl ⟨_, getE hc, rfl⟩), .inr (.inl ⟨_, getE hb, rfl⟩)⟩
  | back k i j n hk hl hn =>
    obtain ⟨a, b, ha, hb, ht⟩ := renA hk
    rw [opM, eg_at ha, eg_at hb]
    exact ⟨fun e => by dsimp only at e; omega, .inr (.inr ⟨_, rfl⟩), .inr (.inl ⟨_, getE hb, rfl⟩)⟩
  | away k i j n hk hl hn =>
    obtain ⟨a, b, ha, hb, ht⟩ := renA hk
    rw [opM, eg_at ha, eg_at hb]
    exact ⟨fun e => by dsimp only at e; omega, .inl ⟨_, getE ha, rfl⟩, .inr (.inr (.inl ⟨_, rfl⟩))⟩
theorem Planned.few {ops : List OpD} (h : Planned fold s t ops) : ops.length ≤ 3 * (s.length + t.length) := by
  obtain ⟨to, fr, ms, lv, cm, fd, md, P, M, D, N, _, hl, _⟩ := h
  omega
end
end Go.Proofs.YtpjjagalekolaaaGreatDoor

