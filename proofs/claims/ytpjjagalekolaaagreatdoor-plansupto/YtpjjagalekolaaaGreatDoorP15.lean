/- VD, DD, FG: in one text. -/
import Derived.Test.YtpjjagalekolaaaGreatDoorP14
import Derived.Deep.QuietTactic
import Derived.BigQuiet
import Derived.Test.YtpjjagalekolaaaGreatDoorP12
/- Plain: a path that is renamed, with all that is below; every operation of a script. No program in this text. -/
namespace Go.Proofs.YtpjjagalekolaaaGreatDoor
open Go.RowKit
set_option linter.unusedVariables false
set_option linter.unusedSimpArgs false

def mvB (e x : BL) : Bool := (x == e) || belowL false x e
theorem mvB_iff (e x : BL) : mvB e x = true ↔ ∃ s, x = e ++ s ∧ (s = [] ∨ ∃ r, s = 47 :: r) := by
  unfold mvB
  rw [Bool.or_eq_true, beq_iff_eq, belowL_false]
  constructor
  · rintro (rfl | ⟨r, rfl⟩)
    · exact ⟨[], by simp, .inl rfl⟩
    · exact ⟨47 :: r, rfl, .inr ⟨r, rfl⟩⟩
  · rintro ⟨s, rfl, rfl | ⟨r, rfl⟩⟩
    · left; simp
    · right; exact ⟨r, rfl⟩
def movP (e p : BL) (o : EntD) : EntD := if mvB e o.pl then o.withP (p ++ o.pl.drop e.length) else o
theorem movP_stay {e p : BL} {o : EntD} (h : mvB e o.pl = false) : movP e p o = o := by unfold movP; rw [h]; rfl
theorem movP_go {e p s : BL} {o : EntD} (h : o.pl = e ++ s) (hs : s = [] ∨ ∃ r, s = 47 :: r) : movP e p o = o.withP (p ++ s) := by
  unfold movP
  rw [(mvB_iff _ _).2 ⟨s, h, hs⟩, if_pos rfl, h]
  simp
theorem movP_same (e p : BL) (o : EntD) : (movP e p o).dir = o.dir ∧ (movP e p o).id = o.id ∧ (movP e p o).size = o.size ∧ (movP e p o).mode = o.mode := by
  unfold movP
  split <;> exact ⟨rfl, rfl, rfl, rfl⟩
theorem movP_fields (e p : BL) (o : EntD) : fieldsB (movP e p o) = fieldsB o := by
  obtain ⟨h1, h2, h3, h4⟩ := movP_same e p o
  unfold fieldsB
  rw [h1, h2, h3, h4]

theorem same_cancel {fold : Bool} {p a b : BL} (h : sameB fold (p ++ a) (p ++ b) = true) : sameB fold a b = true := by
  rw [sameB_iff, fl_append, fl_append] at h
  exact (sameB_iff _ _ _).2 (List.append_cancel_left h)

/-- What the ways of a renaming lean on. -/
structure RenOk (fold : Bool) (L : List EntD) (e : EntD) (to p : BL) : Prop where
  mem : e ∈ L
  inside : belowL fold to e.pl = false
  free : ∀ x ∈ L, sameB fold x.pl to = true → x.pl = e.pl
  place : placeL fold L to = some p
  good : goodP to

section
variable {fold : Bool} {L : List EntD} {e : EntD} {to p : BL}
theorem ren_one (V : VolOk fold L) (R : RenOk fold L e to p) : ∀ x ∈ L, ∀ y ∈ L, sameB fold (movP e.pl p x).pl (movP e.pl p y).pl = true → x = y := by
  have hps := place_same R.place
  have cross : ∀ x ∈ L, ∀ y ∈ L, mvB e.pl x.pl = true → mvB e.pl y.pl = false → sameB fold (movP e.pl p x).pl (movP e.pl p y).pl = true → False := by
    intro x hx y hy mx my h
    obtain ⟨s, hs, hs'⟩ := (mvB_iff _ _).1 mx
    rw [movP_go hs hs', movP_stay my, pl_withP] at h
    rcases hs' with rfl | ⟨r, rfl⟩
    · rw [List.append_nil] at h
      have := R.free y hy (sameB_trans (sameB_symm h) hps)
      rw [(mvB_iff _ _).2 ⟨[], by simp [this], .inl rfl⟩] at my
      cases my
    · obtain ⟨p', r', hy', h1, _⟩ := same_cut h
      obtain ⟨z, hz, _, hzp⟩ := anc V r'.length y p' r' rfl hy hy'
      have := R.free z hz (by rw [hzp]; exact sameB_trans (sameB_symm h1) hps)
      rw [(mvB_iff _ _).2 ⟨47 :: r', by rw [hy', ← hzp, this], .inr ⟨r', rfl⟩⟩] at my
      cases my
  intro x hx y hy h
  cases mx : mvB e.pl x.pl with
  | true =>
    cases my : mvB e.pl y.pl with
    | true =>
      obtain ⟨s, hs, hs'⟩ := (mvB_iff _ _).1 mx
      obtain ⟨t, ht, ht'⟩ := (mvB_iff _ _).1 my
      rw [movP_go hs hs', movP_go ht ht', pl_withP, pl_withP] at h
      refine V.one x hx y hy ?_
      rw [hs, ht]
      exact same_append (sameB_refl _ _) (same_cancel h)
    | false => exact (cross x hx y hy mx my h).elim
  | false =>
    cases my : mvB e.pl y.pl with
    | true => exact (cross y hy x hx my mx (sameB_symm h)).elim
    | false =>
      rw [movP_stay mx, movP_stay my] at h
      exact V.one x hx y hy h

/-- A list in which all paths differ, put in order. -/
theorem ren_distinct (V : VolOk fold L) (R : RenOk fold L e to p) : (L.map (movP e.pl p)).Pairwise fun a b => a.pl ≠ b.pl := by
  rw [List.pairwise_map]
  refine V.srt.imp_of_mem ?_
  intro x y hx hy hk he
  have := ren_one V R x hx y hy (by rw [he]; exact sameB_refl _ _)
  subst this
  exact List.lt_irrefl _ hk

def insAll (S M : List EntD) : List EntD := M.foldl (fun acc x => insL x acc) S
theorem insAll_perm (M : List EntD) : ∀ S : List EntD, (insAll S M).Perm (M ++ S) := by
  induction M with
  | nil => intro S; exact List.Perm.refl _
  | cons x M ih =>
    intro S
    show (insAll (insL x S) M).Perm _
    refine (ih (insL x S)).trans ?_
    refine (List.Perm.append_left M (insL_perm x S)).trans ?_
    exact List.perm_middle
theorem insAll_srt (M : List EntD) : ∀ S : List EntD, Srt S → ((M ++ S).Pairwise fun a b => a.pl ≠ b.pl) → Srt (insAll S M) := by
  induction M with
  | nil => intro S h _; exact h
  | cons x M ih =>
    intro S hS hd
    show Srt (insAll (insL x S) M)
    rw [List.cons_append] at hd
    obtain ⟨h1, h2⟩ := List.pairwise_cons.1 hd
    refine ih (insL x S) (insL_srt x S hS (fun y hy he => h1 y (by simp [hy]) he.symm)) ?_
    have hp : (M ++ insL x S).Perm (x :: (M ++ S)) := (List.Perm.append_left M (insL_perm x S)).trans List.perm_middle
    exact (hp.symm.pairwise_iff (fun h => h.symm)).1 hd

def resR (L : List EntD) (e p : BL) : List EntD := insAll (L.filter fun x => !mvB e x.pl) ((L.filter fun x => mvB e x.pl).map fun x => x.withP (p ++ x.pl.drop e.length))
theorem res_parts (L : List EntD) (e p : BL) : (((L.filter fun x => mvB e x.pl).map fun x => x.withP (p ++ x.pl.drop e.length)) ++ L.filter fun x => !mvB e x.pl).Perm (L.map (movP e p)) := by
  induction L with
  | nil => exact List.Perm.refl _
  | cons o L ih =>
    cases hm : mvB e o.pl with
    | true =>
      rw [List.filter_cons_of_pos (by simpa using hm), List.filter_cons_of_neg (by simp [hm]), List.map_cons, List.map_cons, List.cons_append]
      have : movP e p o = o.withP (p ++ o.pl.drop e.length) := by unfold movP; rw [hm]; rfl
      rw [this]
      exact List.Perm.cons _ ih
    | false =>
      rw [List.filter_cons_of_neg (by simp [hm]), List.filter_cons_of_pos (by simp [hm]), List.map_cons, movP_stay hm]
      exact List.perm_middle.trans (List.Perm.cons _ ih)
theorem res_perm (L : List EntD) (e p : BL) : (resR L e p).Perm (L.map (movP e p)) := (insAll_perm _ _).trans (res_parts L e p)
theorem res_srt (V : VolOk fold L) (R : RenOk fold L e to p) : Srt (resR L e.pl p) := by
  refine insAll_srt _ _ (V.srt.sublist List.filter_sublist) ?_
  exact ((res_parts L e.pl p).pairwise_iff (fun h => h.symm)).2 (ren_distinct V R)
def holdB (x : EntD) : Bool := pathL x.pl || (!x.dir && spareL x.pl)
def badX (e : EntD) (p : BL) (x : EntD) : Bool := mvB e.pl x.pl && (decide (6 < cnt (p ++ x.pl.drop e.pl.length)) || (e.dir && spareL p))
theorem spare_not_nms {l : BL} (h : spareL l = true) : nmsL l = false := by
  have hn := spare_no47 h
  unfold nmsL
  rw [spl_none l hn]
  unfold spareL at h
  simp only [Bool.and_eq_true, decide_eq_true_eq, beq_iff_eq] at h
  obtain ⟨⟨⟨h1, h2⟩, h3⟩, h4⟩ := h
  cases l with
  | nil => simp at h1
  | cons a t =>
    simp at h3
    subst h3
    simp only [List.all_cons, List.all_nil, Bool.and_true]
    unfold nmL isNm nameBytes
    simp
    intro _ _ hnb
    exact absurd hnb (by decide)
theorem spare_47 {l : BL} (a r : BL) (h : l = a ++ 47 :: r) : spareL l = false := by
  cases hs : spareL l with
  | false => rfl
  | true => exact absurd rfl (spare_no47 hs 47 (by rw [h]; simp))
theorem hold_bad (V : VolOk fold L) (R : RenOk fold L e to p) : (L.map (movP e.pl p)).all holdB = !(L.any (badX e p)) := by
  have hg := place_good V R.place R.good
  have hstay : ∀ x ∈ L, mvB e.pl x.pl = false → holdB (movP e.pl p x) = true ∧ badX e p x = false := by
    intro x hx hm
    refine ⟨?_, by unfold badX; rw [hm]; rfl⟩
    rw [movP_stay hm]
    unfold holdB
    rcases V.names x hx with h | ⟨h1, h2⟩
    · rw [h]; rfl
    · rw [h1, h2]; simp
  have hself : ∀ x ∈ L, x.pl = e.pl → x = e := fun x hx h => mem_eq_of_srt V.srt hx R.mem h
  have hnm : ∀ x ∈ L, ∀ r, x.pl = e.pl ++ 47 :: r → nmsL r = true ∧ e.dir = true := by
    intro x hx r hr
    constructor
    · rcases V.names x hx with h | ⟨_, h⟩
      · have := (pathL_nms h).1
        rw [hr, nms_split, Bool.and_eq_true] at this
        exact this.2
      · rw [spare_47 e.pl r hr] at h; cases h
    · obtain ⟨z, hz, h1, h2⟩ := anc V r.length x e.pl r rfl hx hr
      rw [← hself z hz h2]; exact h1
  rcases R.good with hgt | hgt
  · -- a path of names
    have hpp := hg.1 hgt
    obtain ⟨hn, hc⟩ := pathL_nms hpp
    have hsp : spareL p = false := by
      cases hs : spareL p with
      | false => rfl
      | true => rw [spare_not_nms hs] at hn; cases hn
    have each : ∀ x ∈ L, holdB (movP e.pl p x) = !(badX e p x) := by
      intro x hx
      cases hm : mvB e.pl x.pl with
      | false => obtain ⟨h1, h2⟩ := hstay x hx hm; rw [h1, h2]; rfl
      | true =>
        obtain ⟨s, hs, hs'⟩ := (mvB_iff _ _).1 hm
        rw [movP_go hs hs']
        unfold holdB badX
        rw [pl_withP, hm, hsp, Bool.and_false, Bool.or_false, Bool.true_and, hs]
        have hdr : (e.pl ++ s).drop e.pl.length = s := by simp
        rw [hdr]
        rcases hs' with rfl | ⟨r, rfl⟩
        · rw [List.append_nil, hpp, Bool.true_or]
          have : decide (6 < cnt p) = false := by simpa using hc
          rw [this]; rfl
        · rw [spare_47 p r rfl, Bool.and_false, Bool.or_false, pathL_eq, nms_split, hn, (hnm x hx r hs).1]
          simp only [Bool.and_true]
          rw [Bool.eq_iff_iff]; simp
    rw [Bool.eq_iff_iff, List.all_map, List.all_eq_true, Bool.not_eq_true', List.any_eq_false]
    constructor
    · intro h x hx hb
      have := h x hx
      rw [Function.comp, each x hx, hb] at this
      cases this
    · intro h x hx
      rw [Function.comp, each x hx]
      have := h x hx
      simp only [Bool.not_eq_true] at this
      rw [this]; rfl
  · -- a spare name
    have hpt := hg.2 hgt
    have hsp : spareL p = true := by rw [hpt]; exact hgt
    have hnp : nmsL p = false := spare_not_nms hsp
    have hpp : pathL p = false := by rw [pathL_eq, hnp, Bool.and_false]
    have hc1 : cnt p = 1 := cnt_one p (spare_no47 hsp)
    cases hd : e.dir with
    | false =>
      have hb : L.any (badX e p) = false := by
        rw [List.any_eq_false]
        intro x hx
        cases hm : mvB e.pl x.pl with
        | false => rw [(hstay x hx hm).2]; simp
        | true =>
          obtain ⟨s, hs, hs'⟩ := (mvB_iff _ _).1 hm
          rcases hs' with rfl | ⟨r, rfl⟩
          · unfold badX
            rw [hd, hm, hs]
            simp [hc1]
          · have := (hnm x hx r hs).2; rw [hd] at this; cases this
      rw [hb, Bool.not_false, List.all_map, List.all_eq_true]
      intro x hx
      cases hm : mvB e.pl x.pl with
      | false => exact (hstay x hx hm).1
      | true =>
        obtain ⟨s, hs, hs'⟩ := (mvB_iff _ _).1 hm
        rcases hs' with rfl | ⟨r, rfl⟩
        · rw [Function.comp, movP_go hs (.inl rfl)]
          have hxe := hself x hx (by rw [hs]; simp)
          unfold holdB
          rw [pl_withP, List.append_nil, hpp, hsp]
          show (false || (!x.dir && true)) = true
          rw [hxe, hd]; rfl
        · have := (hnm x hx r hs).2; rw [hd] at this; cases this
    | true =>
      have hb : L.any (badX e p) = true := by
        rw [List.any_eq_true]
        refine ⟨e, R.mem, ?_⟩
        unfold badX
        rw [(mvB_iff _ _).2 ⟨[], by simp, .inl rfl⟩, hd, hsp]
        simp
      rw [hb, Bool.not_true]
      cases hall : (L.map (movP e.pl p)).all holdB with
      | false => rfl
      | true =>
        exfalso
        rw [List.all_map, List.all_eq_true] at hall
        have := hall e R.mem
        rw [Function.comp, movP_go (s := []) (by simp) (.inl rfl)] at this
        unfold holdB at this
        rw [pl_withP, List.append_nil, hpp] at this
        have h2 : (e.withP p).dir = true := hd
        rw [h2] at this
        cases this

theorem ren_ok (V : VolOk fold L) (R : RenOk fold L e to p) (hb : L.any (badX e p) = false) : VolOk fold (resR L e.pl p) := by
  have hm : ∀ o, o ∈ resR L e.pl p ↔ ∃ x ∈ L, movP e.pl p x = o := by
    intro o
    rw [(res_perm L e.pl p).mem_iff, List.mem_map]
  have hall := hold_bad V R
  rw [hb, Bool.not_false, List.all_eq_true] at hall
  have hps := place_same R.place
  refine ⟨res_srt V R, ?_, fun o ho => ?_, fun o ho => ?_, fun o ho hne => ?_, fun a ha b hb' hab => ?_, fun a ha b hb' da db hid => ?_⟩
  · rw [(res_perm L e.pl p).length_eq, List.length_map]; exact V.few
  · have := hall o ((res_perm L e.pl p).mem_iff.1 ho)
    unfold holdB at this
    rw [Bool.or_eq_true, Bool.and_eq_true, Bool.not_eq_true'] at this
    exact this
  · obtain ⟨x, hx, rfl⟩ := (hm o).1 ho
    rw [movP_fields]; exact V.fields x hx
  · obtain ⟨x, hx, rfl⟩ := (hm o).1 ho
    suffices h : ∃ z ∈ L, z.dir = true ∧ (movP e.pl p z).pl = parentL (movP e.pl p x).pl by
      obtain ⟨z, hz, h1, h2⟩ := h
      exact ⟨movP e.pl p z, (hm _).2 ⟨z, hz, rfl⟩, by rw [(movP_same _ _ _).1]; exact h1, h2⟩
    cases mx : mvB e.pl x.pl with
    | false =>
      rw [movP_stay mx] at hne ⊢
      obtain ⟨z, hz, h1, h2⟩ := V.par x hx hne
      have mz : mvB e.pl z.pl = false := by
        cases hmz : mvB e.pl z.pl with
        | false => rfl
        | true =>
          exfalso
          obtain ⟨s, hs, hs'⟩ := (mvB_iff _ _).1 hmz
          have hxp := par_last x.pl hne
          rw [← h2, hs] at hxp
          have : mvB e.pl x.pl = true := by
            rw [mvB_iff]
            rcases hs' with rfl | ⟨r, rfl⟩
            · exact ⟨47 :: lastL x.pl, hxp.trans (by simp), .inr ⟨_, rfl⟩⟩
            · exact ⟨47 :: (r ++ 47 :: lastL x.pl), hxp.trans (by simp), .inr ⟨_, rfl⟩⟩
          rw [this] at mx; cases mx
      exact ⟨z, hz, h1, by rw [movP_stay mz, h2]⟩
    | true =>
      obtain ⟨s, hs, hs'⟩ := (mvB_iff _ _).1 mx
      rw [movP_go hs hs', pl_withP] at hne ⊢
      rcases hs' with rfl | ⟨r, rfl⟩
      · rw [List.append_nil] at hne ⊢
        obtain ⟨z, hz, h1, h2⟩ := place_par R.place hne
        have mz : mvB e.pl z.pl = false := by
          cases hmz : mvB e.pl z.pl with
          | false => rfl
          | true =>
            exfalso
            obtain ⟨s, hs2, hs2'⟩ := (mvB_iff _ _).1 hmz
            have hpl := par_last p hne
            rw [← h2, hs2] at hpl
            have hin : belowL fold to e.pl = true := by
              rw [belowL_iff]
              rcases hs2' with rfl | ⟨r, rfl⟩
              · rw [List.append_nil] at hpl
                rw [hpl] at hps
                obtain ⟨t', r', e1, e2, _⟩ := same_cut hps
                exact ⟨t', r', e1, sameB_symm e2⟩
              · have e0 : p = e.pl ++ 47 :: (r ++ 47 :: lastL p) := hpl.trans (by simp)
                rw [e0] at hps
                obtain ⟨t', r', e1, e2, _⟩ := same_cut hps
                exact ⟨t', r', e1, sameB_symm e2⟩
            rw [R.inside] at hin; cases hin
        exact ⟨z, hz, h1, by rw [movP_stay mz, h2]⟩
      · rcases last_cut r with hn | ⟨a, b, rfl, hn⟩
        · have hpx : parentL x.pl = e.pl := by rw [hs, parentL_cut _ r hn]
          obtain ⟨z, hz, h1, h2⟩ := V.par x hx (by rw [hpx]; exact pl_ne V R.mem)
          refine ⟨z, hz, h1, ?_⟩
          rw [movP_go (s := []) (by rw [h2, hpx]; simp) (.inl rfl), pl_withP, parentL_cut _ r hn, List.append_nil]
        · have e1 : e.pl ++ 47 :: (a ++ 47 :: b) = (e.pl ++ 47 :: a) ++ 47 :: b := by simp
          have e2 : p ++ 47 :: (a ++ 47 :: b) = (p ++ 47 :: a) ++ 47 :: b := by simp
          have hpx : parentL x.pl = e.pl ++ 47 :: a := by rw [hs, e1, parentL_cut _ b hn]
          obtain ⟨z, hz, h1, h2⟩ := V.par x hx (by rw [hpx]; simp)
          refine ⟨z, hz, h1, ?_⟩
          rw [movP_go (s := 47 :: a) (by rw [h2, hpx]) (.inr ⟨a, rfl⟩), pl_withP, e2, parentL_cut _ b hn]
  · obtain ⟨x, hx, rfl⟩ := (hm a).1 ha
    obtain ⟨y, hy, rfl⟩ := (hm b).1 hb'
    rw [ren_one V R x hx y hy hab]
  · obtain ⟨x, hx, rfl⟩ := (hm a).1 ha
    obtain ⟨y, hy, rfl⟩ := (hm b).1 hb'
    obtain ⟨x1, x2, x3, _⟩ := movP_same e.pl p x
    obtain ⟨y1, y2, y3, _⟩ := movP_same e.pl p y
    rw [x3, y3]
    exact V.sizes x hx y hy (x1.symm.trans da) (y1.symm.trans db) (by rw [← x2, ← y2, hid])
end
end Go.Proofs.YtpjjagalekolaaaGreatDoor

/- The law's own helpers for entries: a list with spare room behind it, and whether it stayed. -/
namespace Go.Proofs.YtpjjagalekolaaaGreatDoor
open Go.RowKit
set_option linter.unusedVariables false
set_option linter.unusedSimpArgs false

theorem info56 : (Tryz.prog.info? 56).map (fun i => (i.zero, i.size, i.bytes)) = some (some (.agg #[.string ByteArray.empty, .bool false, .int .i64 0, .int .i64 0, .int .i64 0]), 5, 48) := by kernel_rfl

def flatE (l : List EntD) : List Value := (l.map EntD.cells).flatten
theorem flatE_length (l : List EntD) : (flatE l).length = l.length * 5 := by
  induction l with
  | nil => rfl
  | cons o l ih => simp only [flatE, List.map_cons, List.flatten_cons, List.length_append, List.length_cons] at *; rw [ih]; simp [EntD.cells]; omega
theorem flatE_get (l : List EntD) : ∀ (k : Nat) (h : k < l.length) (j : Nat) (hj : j < 5), (flatE l)[k * 5 + j]? = l[k].cells[j]? := by
  induction l with
  | nil => intro k h; simp at h
  | cons o l ih =>
    intro k h j hj
    simp only [flatE, List.map_cons, List.flatten_cons]
    cases k with
    | zero =>
      rw [List.getElem?_append_left (by simp [EntD.cells]; omega)]; simp
    | succ k =>
      rw [List.getElem?_append_right (by simp [EntD.cells]; omega)]
      have e : (k + 1) * 5 + j - o.cells.length = k * 5 + j := by simp [EntD.cells]; omega
      rw [e]
      exact ih k (by simpa using h) j hj
theorem flatE_at {w : World} {b off : Nat} {l : List EntD} (h : EntsAt w b off l) : ∀ j u, (flatE l)[j]? = some u → w.cell? ((⟨b, off, none⟩ : Addr).add j) = some u := by
  intro j u hu
  have hj : j < (flatE l).length := (List.getElem?_eq_some_iff.1 hu).1
  rw [flatE_length] at hj
  have e : j = (j / 5) * 5 + j % 5 := by omega
  have hk : j / 5 < l.length := by omega
  rw [e, flatE_get l (j / 5) hk (j % 5) (by omega)] at hu
  have := h (j / 5) hk (j % 5) u hu
  have e2 : ((⟨b, off, none⟩ : Addr).add j) = ⟨b, off + j / 5 * 5 + j % 5, none⟩ := by
    have h1 : ∀ n, (⟨b, off, none⟩ : Addr).add n = ⟨b, off + n, none⟩ := fun n => Addr.add_lit b off n
    rw [h1, show off + j = off + j / 5 * 5 + j % 5 by omega]
  rw [e2]; exact this
theorem at_flatE {w : World} {g : Nat} {l : List EntD} (h : ∀ j u, (flatE l)[j]? = some u → w.cell? ⟨g, j, none⟩ = some u) : EntsAt w g 0 l := by
  intro k hk j v hv
  have hj : j < 5 := (List.getElem?_eq_some_iff.1 hv).1
  have := h (k * 5 + j) v (by rw [flatE_get l k hk j hj]; exact hv)
  rwa [Nat.zero_add]
theorem flatE_one (l : List EntD) : ∀ u ∈ flatE l, u.oneCell' = true := by
  intro u hu
  simp only [flatE, List.mem_flatten, List.mem_map] at hu
  obtain ⟨c, ⟨o, _, rfl⟩, hu⟩ := hu
  simp only [EntD.cells, List.mem_cons, List.not_mem_nil, or_false] at hu
  rcases hu with rfl | rfl | rfl | rfl | rfl <;> rfl

def mineE : EntD := ⟨⟨#[109, 105, 110, 101]⟩, false, 0, 0, 0⟩

/-- What a list with spare room is. -/
def RoomyE (w : World) (B g cap : Nat) (l : List EntD) : Prop := B ≤ g ∧ g < w.heap.size ∧ l.length + 1 ≤ cap ∧ cap ≤ maxLen ∧ EntsAt w g 0 (l ++ [mineE])

theorem roomyE_of {w : World} {B : Nat} {v : Value} {l : List EntD} (h : w.ownsRow B 56 5 v (l.length + 1) (flatE l ++ flatE [mineE])) : ∃ g cap, v = .slice (some ⟨g, 0, none⟩) (l.length + 1) cap ∧ RoomyE w B g cap l := by
  have hc := h
  rcases h.2 with ⟨_, h0⟩ | ⟨g, cap, cur, rfl, hB, hg, hn, hm, _⟩
  · omega
  · refine ⟨g, cap, rfl, hB, heap_lt hg, hn, hm, at_flatE fun j u hu => ?_⟩
    have e : flatE (l ++ [mineE]) = flatE l ++ flatE [mineE] := by simp [flatE]
    rw [e] at hu
    have := hc.cells (g := g) rfl j u hu
    have e2 : ((⟨g, 0, none⟩ : Addr).add j) = ⟨g, j, none⟩ := by unfold Addr.add; split <;> simp_all
    rwa [e2] at this

theorem mineE_new (w : World) : ∀ j u, (flatE [mineE])[j]? = some u → (w.alloc (.cells #[.string ⟨#[109, 105, 110, 101]⟩, .bool false, .int .i64 0, .int .i64 0, .int .i64 0] 56)).cell? ((⟨w.heap.size, 0, none⟩ : Addr).add j) = some u := by
  intro j u hu
  rw [Addr.add_lit, Nat.zero_add, World.cell?_alloc_at _ _ _ _ rfl, ← hu]
  match j with
  | 0 => rfl
  | 1 => rfl
  | 2 => rfl
  | 3 => rfl
  | 4 => rfl
  | n + 5 => rfl

set_option maxHeartbeats 2000000 in
set_option maxRecDepth 100000 in
theorem roomy_any (b off cap : Nat) (l : List EntD) (w : World) (hl : l.length ≤ 2000000) (hb : b < w.heap.size) (hc : EntsAt w b off l) :
    Calls Tryz.prog 8 #[.slice (some ⟨b, off, none⟩) l.length cap] w fun e w' => ∃ g cap', e = .returned (.slice (some ⟨g, 0, none⟩) l.length cap') ∧ RoomyE w' w.heap.size g cap' l ∧ Below w.heap.size w w' := by
  obtain ⟨i0, hi, hz0, hz1', hz2⟩ := info_parts info56
  have hneq := fun (u : World) (a : Option Addr) (n c : Nat) => Lib.run_eql_slice_nil (P := Tryz.prog) u 22 56 a n c 0 0 Tryz.underlying22
  go_enter Tryz.func8, Tryz.ntmps8
  go_wp2_with (first | (at_builtin; refine wpList_append_own _ rfl (.const (.slice none 0 0)) (.tmp 5) 22 rfl w.heap.size 56 i0 _ 5 48 Tryz.underlying22 hi hz0 hz1' hz2 rfl (by decide) (.slice none 0 0) 0 [] rfl (World.ownsRow_nil _ _ _ _) ⟨b, off, none⟩ l.length cap (flatE l) rfl (flatE_length l) (flatE_at hc) (flatE_one l) (by unfold maxLen; omega) (by omega) (Nat.le_refl _) ?_; intro v1 w1 hown1 hg1 _; simp only [Nat.zero_add, List.nil_append] at hown1; have hb1 := (Below.refl w.heap.size w).grown hg1 (Nat.le_refl _) (fun k hk => by simp [Value.ownBlock] at hk); have hz1 := hb1.size) | (at_builtin; refine wpList_append_own _ rfl (.tmp 6) (.tmp 8) 22 rfl w.heap.size 56 i0 _ 5 48 Tryz.underlying22 hi hz0 hz1' hz2 rfl (by decide) _ _ _ rfl (hown1.alloc _) ⟨_, 0, none⟩ 1 1 (flatE [mineE]) rfl rfl (mineE_new _) (flatE_one _) (by unfold maxLen; omega) (by omega) (by simp only [World.size_alloc]; omega) ?_; intro v2 w2 hown2 hg2 _; obtain ⟨g, cap2, hv2, hr⟩ := roomyE_of hown2; subst hv2; have hb2 := (hb1.alloc hz1 _).grown hg2 (by simp only [World.size_alloc]; omega) (fun k hk => (hown1.lt k hk).1); have hcap := hr.2.2.1; have hcm := hr.2.2.2.1))
  go_ret
  exact ⟨g, cap2, rfl, hr, hb2⟩

set_option maxHeartbeats 1000000 in
theorem roomy_nil (w : World) :
    Calls Tryz.prog 8 #[.slice none 0 0] w fun e w' => e = .returned (.slice none 0 0) ∧ w' = w := by
  have hneq := fun (u : World) (a : Option Addr) (n c : Nat) => Lib.run_eql_slice_nil (P := Tryz.prog) u 22 56 a n c 0 0 Tryz.underlying22
  go_enter Tryz.func8, Tryz.ntmps8
  go_wp2
  go_ret
  exact ⟨rfl, rfl⟩

set_option maxHeartbeats 1000000 in
set_option maxRecDepth 100000 in
theorem sameE_any (b1 o1 c1 b2 o2 c2 : Nat) (l : List EntD) (w : World) (hl : l.length ≤ 2000000) (h1 : EntsAt w b1 o1 l) (h2 : EntsAt w b2 o2 l) :
    Calls Tryz.prog 16 #[.slice (some ⟨b1, o1, none⟩) l.length c1, .slice (some ⟨b2, o2, none⟩) l.length c2] w fun e w' => e = .returned (.bool true) ∧ ∃ n, w' = w.drewN n := by
  have hne : ((l.length : Int) != (l.length : Int)) = false := by simp
  go_enter Tryz.func16, Tryz.ntmps16
  go_wp2
  go_loopw [5] (fun i wr => ∃ k n : Nat, k ≤ l.length ∧ i = .int .i64 k ∧ wr = w.drewN n) (fun i _ => l.length - (intOf i).toNat)
  case atStart => exact ⟨0, 0, Nat.zero_le _, rfl, rfl⟩
  case round =>
    obtain ⟨k, n, hk, rfl, rfl⟩ := hrel
    by_cases hlt : k < l.length
    · have a := h1 k hlt
      have b := h2 k hlt
      have hlt' : (k : Int) < (l.length : Int) := by omega
      generalize l[k] = o at *
      have a0 := a 0 _ rfl
      have a1 := a 1 _ rfl
      have a2 := a 2 _ rfl
      have a3 := a 3 _ rfl
      have a4 := a 4 _ rfl
      have b0 := b 0 _ rfl
      have b1 := b 1 _ rfl
      have b2 := b 2 _ rfl
      have b3 := b 3 _ rfl
      have b4 := b 4 _ rfl
      simp only [Nat.add_zero] at a0 b0
      clear a b
      go_wp2
      go_quiet (fail)
      go_wp2
      exact ⟨⟨k + 1, _, by omega, by go_num, rfl⟩, by simp [intOf]; omega⟩
    · go_wp2
      go_ret
      exact ⟨rfl, n, rfl⟩
theorem below_drewE {B : Nat} (w : World) (n : Nat) : Below B w (w.drewN n) := ⟨rfl, rfl, rfl, Nat.le_refl _, fun _ _ => rfl⟩

set_option maxHeartbeats 1000000 in
set_option maxRecDepth 100000 in
theorem keptE_any (g cg b off cap : Nat) (l : List EntD) (w : World) (B : Nat) (hl : l.length ≤ 2000000) (hr : RoomyE w B g cg l) (hc : EntsAt w b off l) :
    Calls Tryz.prog 12 #[.slice (some ⟨g, 0, none⟩) l.length cg, .slice (some ⟨b, off, none⟩) l.length cap] w fun e w' => e = .returned (.bool true) ∧ Below w.heap.size w w' := by
  have hneq := fun (u : World) (a : Option Addr) (n c : Nat) => Lib.run_eql_slice_nil (P := Tryz.prog) u 22 56 a n c 0 0 Tryz.underlying22
  obtain ⟨hB, hg, hcap, hcm, hrow⟩ := hr
  have hrl : EntsAt w g 0 l := fun k hk j v hv => hrow k (by simp; omega) j v (by rw [List.getElem_append_left hk]; exact hv)
  have hm : w.cell? ⟨g, l.length * 5, none⟩ = some (.string ⟨#[109, 105, 110, 101]⟩) := by
    have := hrow l.length (by simp) 0 (.string ⟨#[109, 105, 110, 101]⟩) (by rw [List.getElem_append_right (Nat.le_refl _)]; simp [mineE, EntD.cells])
    rwa [Nat.zero_add] at this
  have hcap' : ((l.length : Int) + 1) ≤ (cg : Int) := by omega
  unfold maxLen at hcm
  go_enter Tryz.func12, Tryz.ntmps12
  go_wp2_with fail
  refine (sameE_any g 0 cg b off cap l w hl hrl hc).mono ?_
  rintro e w1 ⟨rfl, n, rfl⟩
  have HB : Hid (Below w.heap.size w (w.drewN n)) := below_drewE w n
  clear hrow hrl hc
  go_wp2
  go_ret
  exact ⟨rfl, HB.out⟩

set_option maxHeartbeats 1000000 in
theorem keptE_nil (w : World) :
    Calls Tryz.prog 12 #[.slice none 0 0, .slice none 0 0] w fun e w' => e = .returned (.bool true) ∧ w' = w := by
  have hneq := fun (u : World) (a : Option Addr) (n c : Nat) => Lib.run_eql_slice_nil (P := Tryz.prog) u 22 56 a n c 0 0 Tryz.underlying22
  go_enter Tryz.func12, Tryz.ntmps12
  go_wp2
  go_ret
  exact ⟨rfl, rfl⟩

theorem EntsAt.left {w : World} {b off : Nat} {l : List EntD} {o : EntD} (h : EntsAt w b off (l ++ [o])) : EntsAt w b off l :=
  fun k hk j v hv => h k (by simp; omega) j v (by rw [List.getElem_append_left hk]; exact hv)
theorem RoomyE.below {w w' : World} {B g cap : Nat} {l : List EntD} (h : RoomyE w B g cap l) (hb : Below w.heap.size w w') : RoomyE w' B g cap l :=
  ⟨h.1, by have := hb.size; have := h.2.1; omega, h.2.2.1, h.2.2.2.1, h.2.2.2.2.below hb h.2.1⟩
end Go.Proofs.YtpjjagalekolaaaGreatDoor

/- The reference's look at one entry, of trees that fold. -/
namespace Go.Proofs.YtpjjagalekolaaaGreatDoor
open Go.RowKit
set_option linter.unusedVariables false
set_option linter.unusedSimpArgs false

def twiceT (l : List EntD) (e : EntD) : Bool := l.any fun o => sameB true o.path.data.toList e.path.data.toList
def refErT (l : List EntD) (i : Nat) (e : EntD) : Int :=
  if pathL e.path.data.toList = false then 1
  else if fieldsB e = false then 4
  else if 0 < i ∧ lessN (spl ((l[i - 1]?.map (·.path.data.toList)).getD [])) (spl e.path.data.toList) = false then 3
  else if upB (l.take i) (parentB e.path) = false then 2
  else if twiceT (l.take i) e = true then 8
  else if sizeB (l.take i) e = true then 6 else 0

set_option maxRecDepth 4000 in
set_option maxHeartbeats 2000000 in
theorem refEntT_name (b off cap : Nat) (l : List EntD) (i : Nat) (e : EntD) (w : World) (hi : i < l.length) (hx : l[i] = e) (hl : l.length ≤ 2000000) (hs : ∀ o ∈ l, o.small) (hb : b < w.heap.size) (hc : EntsAt w b off l) (h1 : pathL e.path.data.toList = false) :
    Calls Tryz.prog 105 #[.slice (some ⟨b, off, none⟩) l.length cap, .int .i64 i, .bool true, .bool false] w fun r w' => r = .returned (.int .i64 (refErT l i e)) ∧ Below w.heap.size w w' := by
  have hcw := hc i hi
  rw [hx] at hcw
  have c0 := hcw 0 _ rfl
  have c1 := hcw 1 _ rfl
  have c2 := hcw 2 _ rfl
  have c3 := hcw 3 _ rfl
  have c4 := hcw 4 _ rfl
  simp only [Nat.add_zero] at c0
  clear hcw
  have hsm : e.small := hx ▸ hs _ (List.getElem_mem hi)
  unfold EntD.small at hsm
  have st := Eb.start w e
  have hv : refErT l i e = 1 := by rw [refErT, if_pos h1]
  go_enter Tryz.func105, Tryz.ntmps105
  go_wp2_with (first | (go_at_call 107; refine (refPath_any _ _ hsm).mono ?_; rintro r w1 ⟨rfl, hb1⟩; rw [h1]; have s1 := st.below hb1; have k0 := s1.cell 0; simp [EntD.cells] at k0) | (go_at_call 113; refine (refSpare_any _ _ (by omega)).mono ?_; rintro r w2 ⟨rfl, rfl⟩))
  go_ret
  exact ⟨by rw [hv]; rfl, s1.bel⟩

set_option maxRecDepth 4000 in
set_option maxHeartbeats 4000000 in
theorem refEntT_bad (b off cap : Nat) (l : List EntD) (i : Nat) (e : EntD) (w : World) (hi : i < l.length) (hx : l[i] = e) (hl : l.length ≤ 2000000) (hs : ∀ o ∈ l, o.small) (hb : b < w.heap.size) (hc : EntsAt w b off l) (h1 : pathL e.path.data.toList = true) (h2 : fieldsB e = false) :
    Calls Tryz.prog 105 #[.slice (some ⟨b, off, none⟩) l.length cap, .int .i64 i, .bool true, .bool false] w fun r w' => r = .returned (.int .i64 (refErT l i e)) ∧ Below w.heap.size w w' := by
  have hcw := hc i hi
  rw [hx] at hcw
  have c0 := hcw 0 _ rfl
  have c1 := hcw 1 _ rfl
  have c2 := hcw 2 _ rfl
  have c3 := hcw 3 _ rfl
  have c4 := hcw 4 _ rfl
  simp only [Nat.add_zero] at c0
  clear hcw
  have hsm : e.small := hx ▸ hs _ (List.getElem_mem hi)
  unfold EntD.small at hsm
  have st := Eb.start w e
  have hv : refErT l i e = 4 := by rw [refErT, h1, if_neg (by simp), if_pos h2]
  have HV : Hid (refErT l i e = 4) := hv
  have h2' : fieldsB e = true → False := by rw [h2]; simp
  clear h2 st hv
  obtain ⟨p, d, q, z, m⟩ := e
  dsimp only at *
  by_cases m1 : 0 ≤ m
  · by_cases m2 : m ≤ 511
    · cases d
      · by_cases j1 : 1 ≤ q
        · by_cases j2 : q ≤ 9999
          · by_cases j3 : 0 ≤ z
            · have j4 : ¬ z ≤ 100 := fun j4 => h2' (by simp [fieldsB, m1, m2, j1, j2, j3, j4])
              clear h2'
              have st := Eb.start w ⟨p, false, q, z, m⟩
              go_enter Tryz.func105, Tryz.ntmps105
              go_wp2_with (first | (go_at_call 107; refine (refPath_any _ _ hsm).mono ?_; rintro r w1 ⟨rfl, hb1⟩; rw [h1]; have s1 := st.below hb1; have k0 := s1.cell 0; simp [EntD.cells] at k0) | (go_at_call 113; refine (refSpare_any _ _ (by omega)).mono ?_; rintro r w2 ⟨rfl, rfl⟩; have k1 := s1.cell 1; have k2 := s1.cell 2; have k3 := s1.cell 3; have k4 := s1.cell 4; simp [EntD.cells] at k1 k2 k3 k4))
              go_ret
              exact ⟨by rw [HV.out]; rfl, s1.bel⟩
            · clear h2'
              have st := Eb.start w ⟨p, false, q, z, m⟩
              go_enter Tryz.func105, Tryz.ntmps105
              go_wp2_with (first | (go_at_call 107; refine (refPath_any _ _ hsm).mono ?_; rintro r w1 ⟨rfl, hb1⟩; rw [h1]; have s1 := st.below hb1; have k0 := s1.cell 0; simp [EntD.cells] at k0) | (go_at_call 113; refine (refSpare_any _ _ (by omega)).mono ?_; rintro r w2 ⟨rfl, rfl⟩; have k1 := s1.cell 1; have k2 := s1.cell 2; have k3 := s1.cell 3; have k4 := s1.cell 4; simp [EntD.cells] at k1 k2 k3 k4))
              go_ret
              exact ⟨by rw [HV.out]; rfl, s1.bel⟩
          · clear h2'
            have st := Eb.start w ⟨p, false, q, z, m⟩
            go_enter Tryz.func105, Tryz.ntmps105
            go_wp2_with (first | (go_at_call 107; refine (refPath_any _ _ hsm).mono ?_; rintro r w1 ⟨rfl, hb1⟩; rw [h1]; have s1 := st.below hb1; have k0 := s1.cell 0; simp [EntD.cells] at k0) | (go_at_call 113; refine (refSpare_any _ _ (by omega)).mono ?_; rintro r w2 ⟨rfl, rfl⟩; have k1 := s1.cell 1; have k2 := s1.cell 2; have k3 := s1.cell 3; have k4 := s1.cell 4; simp [EntD.cells] at k1 k2 k3 k4))
            go_ret
            exact ⟨by rw [HV.out]; rfl, s1.bel⟩
        · clear h2'
          have st := Eb.start w ⟨p, false, q, z, m⟩
          go_enter Tryz.func105, Tryz.ntmps105
          go_wp2_with (first | (go_at_call 107; refine (refPath_any _ _ hsm).mono ?_; rintro r w1 ⟨rfl, hb1⟩; rw [h1]; have s1 := st.below hb1; have k0 := s1.cell 0; simp [EntD.cells] at k0) | (go_at_call 113; refine (refSpare_any _ _ (by omega)).mono ?_; rintro r w2 ⟨rfl, rfl⟩; have k1 := s1.cell 1; have k2 := s1.cell 2; have k3 := s1.cell 3; have k4 := s1.cell 4; simp [EntD.cells] at k1 k2 k3 k4))
          go_ret
          exact ⟨by rw [HV.out]; rfl, s1.bel⟩
      · by_cases j1 : q = 0
        · have j2 : ¬ z = 0 := fun j2 => h2' (by simp [fieldsB, m1, m2, j1, j2])
          subst j1
          clear h2'
          have st := Eb.start w ⟨p, true, 0, z, m⟩
          go_enter Tryz.func105, Tryz.ntmps105
          go_wp2_with (first | (go_at_call 107; refine (refPath_any _ _ hsm).mono ?_; rintro r w1 ⟨rfl, hb1⟩; rw [h1]; have s1 := st.below hb1; have k0 := s1.cell 0; simp [EntD.cells] at k0) | (go_at_call 113; refine (refSpare_any _ _ (by omega)).mono ?_; rintro r w2 ⟨rfl, rfl⟩; have k1 := s1.cell 1; have k2 := s1.cell 2; have k3 := s1.cell 3; have k4 := s1.cell 4; simp [EntD.cells] at k1 k2 k3 k4))
          go_ret
          exact ⟨by rw [HV.out]; rfl, s1.bel⟩
        · clear h2'
          have st := Eb.start w ⟨p, true, q, z, m⟩
          go_enter Tryz.func105, Tryz.ntmps105
          go_wp2_with (first | (go_at_call 107; refine (refPath_any _ _ hsm).mono ?_; rintro r w1 ⟨rfl, hb1⟩; rw [h1]; have s1 := st.below hb1; have k0 := s1.cell 0; simp [EntD.cells] at k0) | (go_at_call 113; refine (refSpare_any _ _ (by omega)).mono ?_; rintro r w2 ⟨rfl, rfl⟩; have k1 := s1.cell 1; have k2 := s1.cell 2; have k3 := s1.cell 3; have k4 := s1.cell 4; simp [EntD.cells] at k1 k2 k3 k4))
          go_ret
          exact ⟨by rw [HV.out]; rfl, s1.bel⟩
    · clear h2'
      have st := Eb.start w ⟨p, d, q, z, m⟩
      go_enter Tryz.func105, Tryz.ntmps105
      go_wp2_with (first | (go_at_call 107; refine (refPath_any _ _ hsm).mono ?_; rintro r w1 ⟨rfl, hb1⟩; rw [h1]; have s1 := st.below hb1; have k0 := s1.cell 0; simp [EntD.cells] at k0) | (go_at_call 113; refine (refSpare_any _ _ (by omega)).mono ?_; rintro r w2 ⟨rfl, rfl⟩; have k1 := s1.cell 1; have k2 := s1.cell 2; have k3 := s1.cell 3; have k4 := s1.cell 4; simp [EntD.cells] at k1 k2 k3 k4))
      go_ret
      exact ⟨by rw [HV.out]; rfl, s1.bel⟩
  · clear h2'
    have st := Eb.start w ⟨p, d, q, z, m⟩
    go_enter Tryz.func105, Tryz.ntmps105
    go_wp2_with (first | (go_at_call 107; refine (refPath_any _ _ hsm).mono ?_; rintro r w1 ⟨rfl, hb1⟩; rw [h1]; have s1 := st.below hb1; have k0 := s1.cell 0; simp [EntD.cells] at k0) | (go_at_call 113; refine (refSpare_any _ _ (by omega)).mono ?_; rintro r w2 ⟨rfl, rfl⟩; have k1 := s1.cell 1; have k2 := s1.cell 2; have k3 := s1.cell 3; have k4 := s1.cell 4; simp [EntD.cells] at k1 k2 k3 k4))
    go_ret
    exact ⟨by rw [HV.out]; rfl, s1.bel⟩
end Go.Proofs.YtpjjagalekolaaaGreatDoor

