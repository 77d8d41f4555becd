/- GG, GH, GI: in one text. -/
import Derived.Test.YtpjjagalekolaaaGreatDoorP31GF
import Derived.Test.YtpjjagalekolaaaGreatDoorP26
/- A plan as it is carried out, step by step, in whatever order they get ready: it goes, and comes to t. No program in this text. -/
namespace Go.Proofs.YtpjjagalekolaaaGreatDoor
open Go.RowKit
set_option linter.unusedVariables false
set_option linter.unusedSimpArgs false

/-- Operations that go, one behind the other; and what holds of each tree on the way. -/
inductive Went (fold : Bool) (Q : List EntD → Prop) (S : List EntD) : List OpD → List EntD → Prop
  | nil (h : Q S) : Went fold Q S [] S
  | snoc (l : List OpD) (o : OpD) (V V' : List EntD) (h : Went fold Q S l V) (ho : okOp o = true) (hd : doL fold 9223372036854775807 V o = .ok V') (hq : Q V') : Went fold Q S (l ++ [o]) V'

theorem tryL_add {fold : Bool} {s : Int} {o : OpD} {L' L2 : List EntD} {n' : Int} (hd : doL fold s L' o = .ok L2) : ∀ (t : List OpD) (L : List EntD) (need : Int) (k : Nat), tryL fold s L need t k = .ok (L', n') → tryL fold s L need (t ++ [o]) k = .ok (L2, max n' (usedL L2)) := by
  intro t
  induction t with
  | nil =>
    intro L need k h
    rw [tryL] at h
    cases h
    rw [List.nil_append, tryL, hd]
    simp only [tryL]
  | cons a t ih =>
    intro L need k h
    rw [tryL] at h
    rw [List.cons_append, tryL]
    cases ha : doL fold s L a with
    | error c => rw [ha] at h; cases h
    | ok L1 =>
      rw [ha] at h
      exact ih _ _ _ h
theorem wayT_pre {fold : Bool} {S : List EntD} (l m : List OpD) : ∀ k, k ≤ l.length → wayT fold S (l ++ m) k = wayT fold S l k
  | 0, _ => rfl
  | k + 1, h => by rw [wayT, wayT, wayT_pre l m k (by omega), List.getElem?_append_left (by omega)]
theorem Went.all {fold : Bool} {Q : List EntD → Prop} {S V : List EntD} {l : List OpD} (h : Went fold Q S l V) : (∀ o ∈ l, okOp o = true) ∧ (∃ n, tryL fold 9223372036854775807 S (usedL S) l 0 = .ok (V, n)) ∧ wayT fold S l l.length = V ∧ ∀ k, k ≤ l.length → Q (wayT fold S l k) := by
  induction h with
  | nil h => exact ⟨fun o ho => (by cases ho), ⟨_, by rw [tryL]⟩, rfl, fun k hk => by
      obtain rfl : k = 0 := by simpa using hk
      exact h⟩
  | snoc l o V V' h ho hd hq ih =>
    obtain ⟨i1, ⟨n, i2⟩, i3, i4⟩ := ih
    have hend : wayT fold S (l ++ [o]) (l ++ [o]).length = V' := by
      have hl : (l ++ [o]).length = l.length + 1 := by simp
      rw [hl, wayT, wayT_pre l [o] l.length (Nat.le_refl _), i3]
      have : (l ++ [o])[l.length]? = some o := by simp
      rw [this]
      simp only [hd]
    refine ⟨fun x hx => ?_, ⟨_, tryL_add hd _ _ _ _ i2⟩, hend, fun k hk => ?_⟩
    · rcases List.mem_append.1 hx with hx | hx
      · exact i1 x hx
      · simp at hx; subst hx; exact ho
    · by_cases e : k ≤ l.length
      · rw [wayT_pre l [o] k e]; exact i4 k e
      · have : k = (l ++ [o]).length := by simp at hk ⊢; omega
        rw [this, hend]; exact hq

section
variable {fold : Bool} {s t : List EntD} {to fr : Nat → Option Nat} {ms : List Mean} {lv cm : Nat → Option Nat} {fd md : Nat → List Nat} {ws : Nat → Nat} {fz dn : Nat → Bool} {rd : List Nat} {A : Nat → Option Nat} {N : Nat} {ops : List OpD}

def rkM (fold : Bool) (s t : List EntD) : Mean → Nat
  | .del i => 7 - cnt (eg s i).pl
  | .ren i j => if sameB fold (eg s i).pl (eg t j).pl then 10 + cnt (eg t j).pl else 20
  | .chm _ _ => 30
  | .mkd j => 10 + cnt (eg t j).pl
  | .wri _ => 30
  | .cpy _ _ => 30
def rkN (fold : Bool) (s t : List EntD) (ms : List Mean) (k : Nat) : Nat := match ms[k]? with | some m => rkM fold s t m | none => 0
theorem rkN_at {k : Nat} {m : Mean} (h : ms[k]? = some m) : rkN fold s t ms k = rkM fold s t m := by rw [rkN, h]
theorem cnt_kid {l : BL} (h : parentL l ≠ []) : cnt l = cnt (parentL l) + 1 := by
  have e := par_last l h
  have : cnt l = cnt (parentL l) + cnt (lastL l) := by
    conv => lhs; rw [e]
    exact cnt_split _ _
  rw [this, cnt_one _ (lastL_no47 l)]
theorem cnt_path (P : ∀ a ∈ s, pathL a.pl = true) {i : Nat} {a : EntD} (h : s[i]? = some a) : 1 ≤ cnt a.pl ∧ cnt a.pl ≤ 6 := by
  refine ⟨?_, (pathL_nms (P a (getE h))).2⟩
  rw [cnt_count]; omega
def Mv (ms : List Mean) (lv : Nat → Option Nat) (k : Nat) : Prop := ∃ i j, ms[k]? = some (Mean.ren i j) ∧ lv i = some k
theorem par_dir {L : List EntD} (K : VolOk fold L) {a c : EntD} (ha : a ∈ L) (hc : c ∈ L) (h : parentL c.pl = a.pl) : a.dir = true ∧ parentL c.pl ≠ [] := by
  have hne : parentL c.pl ≠ [] := by rw [h]; exact pl_ne K ha
  obtain ⟨p, hp, hd, hpp⟩ := K.par c hc hne
  have : p = a := mem_eq_of_srt K.srt hp ha (hpp.trans h)
  rw [← this]
  exact ⟨hd, hne⟩
theorem Draft.rankF (Dr : Draft fold s t to fr ms lv cm fd md) (P : Pair fold s t) (M : Mat fold s t to fr) : ∀ x y, y ∈ fd x → Mv ms lv x ∨ rkN fold s t ms x < rkN fold s t ms y := by
  intro x y h
  have hi : ∀ i, lv i = some x → Mv ms lv x ∨ (∃ a, s[i]? = some a ∧ to i = none ∧ rkN fold s t ms x = 7 - cnt a.pl) := fun i hl => by
    rcases Dr.lv1 i x hl with ⟨h1, h2, h3⟩ | ⟨j, a, b, _, _, _, _, h⟩
    · obtain ⟨a, ha⟩ : ∃ a, s[i]? = some a := ⟨_, List.getElem?_eq_getElem h2⟩
      exact .inr ⟨a, ha, h1, by rw [rkN_at h3, rkM, eg_at ha]⟩
    · exact .inl ⟨i, j, h, hl⟩
  rcases (Dr.fdI x y).1 h with ⟨i, q, a, c, hq, hc, hp, hlq, hli⟩ | ⟨i, j, a, b, ha, hb, hs, hcj, hli⟩
  · rcases hi i hli with h | ⟨c', hc', _, hr⟩
    · exact .inl h
    · right
      obtain rfl := som hc' hc
      obtain ⟨hd, hne⟩ := par_dir P.vs (getE hq) (getE hc) hp
      have hk := cnt_kid hne
      rw [hp] at hk
      have h6 := cnt_path P.ps hc
      rcases Dr.lv1 q y hlq with ⟨_, _, h3⟩ | ⟨j, a', b, h1, h2, h3, h4, _⟩
      · rw [hr, rkN_at h3, rkM, eg_at hq]; omega
      · have := M.away q j a' b h1 h2 h3 h4
        rw [som h2 hq, hd] at this
        cases this
  · rcases hi i hli with h | ⟨a', ha', _, hr⟩
    · exact .inl h
    · right
      have h1 := cnt_path P.ps ha'
      rw [hr]
      rcases Dr.cm1 j y hcj with ⟨i', _, h⟩ | ⟨_, _, h | h | ⟨q, h⟩⟩
      · rw [rkN_at h, rkM]; split <;> omega
      · rw [rkN_at h, rkM]; omega
      · rw [rkN_at h, rkM]; omega
      · rw [rkN_at h, rkM]; omega
theorem Draft.rankM (Dr : Draft fold s t to fr ms lv cm fd md) (P : Pair fold s t) (M : Mat fold s t to fr) : ∀ x y, y ∈ md x → rkN fold s t ms x < rkN fold s t ms y := by
  intro x y h
  have hren : ∀ i j, to i = some j → cm j = some x → rkN fold s t ms x < 30 := fun i j ht hc => by
    obtain ⟨b, hb⟩ : ∃ b, t[j]? = some b := ⟨_, List.getElem?_eq_getElem (M.bs i j ht).2⟩
    rcases Dr.cm1 j x hc with ⟨i', _, h⟩ | ⟨h, _⟩
    · rw [rkN_at h, rkM, eg_at hb]
      have := cnt_path P.pt hb
      split <;> omega
    · rw [(M.inv i j).1 ht] at h; cases h
  rcases (Dr.mdI x y).1 h with ⟨i, j, hm, hc⟩ | ⟨j, q, hm, hc⟩ | ⟨j, q, b, c, hb, hc, hp, hcj, hcq⟩
  · rw [rkN_at hm, rkM]; exact hren i j (Dr.chmS y i j hm) hc
  · obtain ⟨_, _, b, c, i, _, _, _, _, hf⟩ := Dr.cpyS y j q hm
    rw [rkN_at hm, rkM]
    exact hren i q ((M.inv i q).2 hf) hc
  · obtain ⟨hd, hne⟩ := par_dir P.vt (getE hc) (getE hb) hp.symm
    have hk := cnt_kid hne
    rw [← hp] at hk
    have h6 := cnt_path P.pt hb
    have hx : rkN fold s t ms x = 10 + cnt c.pl := by
      rcases Dr.cm1 q x hcq with ⟨i, hf, h⟩ | ⟨_, _, h | h | ⟨r, h⟩⟩
      · have ht := (M.inv i q).2 hf
        obtain ⟨a, ha⟩ : ∃ a, s[i]? = some a := ⟨_, List.getElem?_eq_getElem (M.bs i q ht).1⟩
        rw [rkN_at h, rkM, eg_at hc, eg_at ha]
        cases hs : sameB fold a.pl c.pl with
        | true => rw [if_pos rfl]
        | false =>
          have := M.away i q a c ht ha hc hs
          rw [(M.kind i q a c ht ha hc).1, hd] at this
          cases this
      · rw [rkN_at h, rkM, eg_at hc]
      · obtain ⟨_, _, b', hb', hbd, _⟩ := Dr.wriS x q h
        rw [som hb' hc, hd] at hbd; cases hbd
      · obtain ⟨_, _, b', _, _, hb', _, hbd, _⟩ := Dr.cpyS x q r h
        rw [som hb' hc, hd] at hbd; cases hbd
    rw [hx]
    rcases Dr.cm1 j y hcj with ⟨i, _, h⟩ | ⟨_, _, h | h | ⟨r, h⟩⟩
    · rw [rkN_at h, rkM, eg_at hb]; split <;> omega
    · rw [rkN_at h, rkM, eg_at hb]; omega
    · rw [rkN_at h, rkM]; omega
    · rw [rkN_at h, rkM]; omega

/-- The operations of a plan, each by what it is for. -/
inductive OpOf (s t : List EntD) (ms : List Mean) (lv : Nat → Option Nat) : OpD → Prop
  | step (k : Nat) (m : Mean) (h : ms[k]? = some m) : OpOf s t ms lv (opM s t m)
  | back (k i j n : Nat) (h : ms[k]? = some (Mean.ren i j)) (hl : lv i = some k) (hn : n < 100) : OpOf s t ms lv { opM s t (Mean.ren i j) with path := spB n }
  | away (k i j n : Nat) (h : ms[k]? = some (Mean.ren i j)) (hl : lv i = some k) (hn : n < 100) : OpOf s t ms lv { opM s t (Mean.ren i j) with dest := spB n }
theorem Draft.fits (Dr : Draft fold s t to fr ms lv cm fd md) (P : Pair fold s t) (M : Mat fold s t to fr) {o : OpD} (h : OpOf s t ms lv o) : okOp o = true := by
  have pS : ∀ {i : Nat} {a : EntD} (sp : Bool), s[i]? = some a → placeB a.path.data.toList sp = true := fun {i a} sp h => by
    have e : pathL a.path.data.toList = true := P.ps _ (getE h)
    rw [placeB, e]; rfl
  have pT : ∀ {i : Nat} {a : EntD} (sp : Bool), t[i]? = some a → placeB a.path.data.toList sp = true := fun {i a} sp h => by
    have e : pathL a.path.data.toList = true := P.pt _ (getE h)
    rw [placeB, e]; rfl
  have pN : ∀ {n : Nat}, n < 100 → placeB (spB n).data.toList true = true := fun h => by
    have := spN_spare h
    simp [placeB, spB, this]
  have md : ∀ {b : EntD}, b ∈ t → 0 ≤ b.mode ∧ b.mode ≤ 511 := fun h => by
    obtain ⟨h1, h2, _⟩ := fieldsB_true _ (P.vt.fields _ h)
    exact ⟨h1, h2⟩
  have ren : ∀ {k i j : Nat}, ms[k]? = some (Mean.ren i j) → (∃ a, s[i]? = some a) ∧ ∃ b, t[j]? = some b := fun {k i j} h => by
    have ht := (Dr.renS k i j h).1
    exact ⟨⟨_, List.getElem?_eq_getElem (M.bs i j ht).1⟩, ⟨_, List.getElem?_eq_getElem (M.bs i j ht).2⟩⟩
  cases h with
  | step k m h =>
    cases m with
    | del i =>
      rcases Dr.lv1 i k (Dr.delS k i h) with ⟨_, hi, _⟩ | ⟨j, a, b, _, _, _, _, h5⟩
      · obtain ⟨a, ha⟩ : ∃ a, s[i]? = some a := ⟨_, List.getElem?_eq_getElem hi⟩
        simp only [opM, eg_at ha]
        cases a.dir <;> simp [okOp, withinB, opFits, needOf, toB, fitsB, pS true ha]
      · rw [h] at h5; cases h5
    | ren i j =>
      obtain ⟨⟨a, ha⟩, b, hb⟩ := ren h
      simp [opM, eg_at ha, eg_at hb, okOp, withinB, opFits, needOf, toB, fitsB, pS true ha, pT true hb]
    | chm i j =>
      obtain ⟨b, hb⟩ : ∃ b, t[j]? = some b := ⟨_, List.getElem?_eq_getElem (M.bs i j (Dr.chmS k i j h)).2⟩
      have := md (getE hb)
      simp [opM, eg_at hb, okOp, withinB, opFits, needOf, toB, fitsB, pT true hb, this]
    | mkd j =>
      obtain ⟨_, _, b, hb, _⟩ := Dr.mkdS k j h
      have := md (getE hb)
      simp [opM, eg_at hb, okOp, withinB, opFits, needOf, toB, fitsB, pT false hb, this]
    | wri j =>
      obtain ⟨_, _, b, hb, hbd, _⟩ := Dr.wriS k j h
      have := md (getE hb)
      obtain ⟨_, _, f⟩ := fieldsB_true _ (P.vt.fields _ (getE hb))
      rcases f with ⟨g, _⟩ | ⟨_, g⟩
      · rw [hbd] at g; cases g
      · simp [opM, eg_at hb, okOp, withinB, opFits, needOf, toB, fitsB, pT true hb, this, g]
    | cpy j q =>
      obtain ⟨_, _, b, c, i, hb, hc, _⟩ := Dr.cpyS k j q h
      have := md (getE hb)
      simp [opM, eg_at hb, eg_at hc, okOp, withinB, opFits, needOf, toB, fitsB, pT true hb, pT true hc, this]
  | back k i j n h hl hn =>
    obtain ⟨⟨a, ha⟩, b, hb⟩ := ren h
    simp [opM, eg_at ha, eg_at hb, okOp, withinB, opFits, needOf, toB, fitsB, pN hn, pT true hb]
  | away k i j n h hl hn =>
    obtain ⟨⟨a, ha⟩, b, hb⟩ := ren h
    simp [opM, eg_at ha, eg_at hb, okOp, withinB, opFits, needOf, toB, fitsB, pN hn, pS true ha]
end
end Go.Proofs.YtpjjagalekolaaaGreatDoor

/- A plan as it is carried out: the whole run. No program in this text. -/
namespace Go.Proofs.YtpjjagalekolaaaGreatDoor
open Go.RowKit
set_option linter.unusedVariables false
set_option linter.unusedSimpArgs false

section
variable {fold : Bool} {Q : List EntD → Prop} {s t : List EntD} {to fr : Nat → Option Nat} {ms : List Mean} {lv cm : Nat → Option Nat} {fd md : Nat → List Nat} {ws : Nat → Nat} {fz dn : Nat → Bool} {rd : List Nat} {A : Nat → Option Nat} {N : Nat} {ops : List OpD}

/-- What is known ahead of the run. -/
structure Plan0 (fold : Bool) (Q : List EntD → Prop) (s t : List EntD) (to fr : Nat → Option Nat) (ms : List Mean) (lv cm : Nat → Option Nat) (fd md : Nat → List Nat) : Prop where
  P : Pair fold s t
  M : Mat fold s t to fr
  Dr : Draft fold s t to fr ms lv cm fd md
  few : ms.length ≤ 2 * s.length + t.length
  q : ∀ p V, Inv fold s t to fr p V → Q V

/-- How far the run is. -/
structure Run (fold : Bool) (Q : List EntD → Prop) (s t : List EntD) (to fr : Nat → Option Nat) (ms : List Mean) (lv : Nat → Option Nat) (fd md : Nat → List Nat) (ws : Nat → Nat) (fz dn : Nat → Bool) (rd : List Nat) (A : Nat → Option Nat) (N : Nat) (ops : List OpD) : Prop where
  R : RInv ms.length fd md ws fz dn rd
  st : ∃ p V, Link ms dn fz p ∧ Inv fold s t to fr p V ∧ Went fold Q s ops V ∧ p.A = A ∧ p.N = N
  done : ∃ dl : List Nat, dl.Nodup ∧ (∀ k, k ∈ dl ↔ dn k = true) ∧ ops.length = dl.length + N
  asd : ∃ al : List Nat, al.Nodup ∧ (∀ i ∈ al, i < s.length ∧ A i ≠ none) ∧ (∀ i, A i ≠ none → i ∈ al) ∧ al.length = N
  ofp : ∀ o ∈ ops, OpOf s t ms lv o

theorem Plan0.begin (H : Plan0 fold Q s t to fr ms lv cm fd md) (hw : ∀ y, y < ms.length → ws y = cntE fd (fun _ => false) y ms.length + cntE md (fun _ => false) y ms.length) (hr : rd.Nodup) (hr2 : ∀ y, y ∈ rd ↔ y < ms.length ∧ ws y = 0) (hf : ∀ x y, y ∈ fd x → x < ms.length ∧ y < ms.length) (hm : ∀ x y, y ∈ md x → x < ms.length ∧ y < ms.length) :
    Run fold Q s t to fr ms lv fd md ws (fun _ => false) (fun _ => false) rd (fun _ => none) 0 [] where
  R := ⟨hw, hr, fun y hy => ⟨((hr2 y).1 hy).1, ((hr2 y).1 hy).2, rfl⟩, fun y hy h0 => .inl ((hr2 y).2 ⟨hy, h0⟩), fun y h => (by cases h), fun y h => (by cases h), hf, hm⟩
  st := ⟨PS.start, s, Link.start, Inv.begin H.P H.M, .nil (H.q _ _ (Inv.begin H.P H.M)), rfl, rfl⟩
  done := ⟨[], List.nodup_nil, fun k => ⟨fun h => (by cases h), fun h => (by cases h)⟩, rfl⟩
  asd := ⟨[], List.nodup_nil, fun i h => (by cases h), fun i h => absurd rfl h, rfl⟩
  ofp := fun o h => by cases h

/-- A step that is ready is done. -/
theorem Run.take (H : Plan0 fold Q s t to fr ms lv cm fd md) (U : Run fold Q s t to fr ms lv fd md ws fz dn rd A N ops) {x : Nat} {rd' : List Nat} (hp : rd.Perm (x :: rd')) :
    ∃ m, ms[x]? = some m ∧ dn x = false ∧ ∀ L, L = (if fz x then [] else fd x) → Run fold Q s t to fr ms lv fd md (relW (relW ws L) (md x)) (upN fz x true) (upN dn x true) (relN (relW ws L) (md x) ++ (relN ws L ++ rd')) A N (ops ++ [opNow s t A m]) := by
  have hx : x ∈ rd := hp.mem_iff.2 (by simp)
  obtain ⟨hxn, hw, hd⟩ := U.R.ready x hx
  obtain ⟨m, hm⟩ : ∃ m, ms[x]? = some m := ⟨_, List.getElem?_eq_getElem hxn⟩
  refine ⟨m, hm, hd, fun L hL => ?_⟩
  obtain ⟨p, V, Lk, I, W, hA, hN⟩ := U.st
  obtain ⟨p', V', h1, h2, h3, h4, h5⟩ := H.Dr.step H.P H.M U.R Lk I (sp := 9223372036854775807) (by decide) hx hm
  rw [hA] at h1
  have hself : x ∉ md x := fun h => Nat.lt_irrefl _ (H.Dr.rankM H.P H.M x x h)
  have R1 : RInv ms.length fd md (relW ws L) (upN fz x true) dn (relN ws L ++ rd) := by
    cases hz : fz x with
    | false =>
      rw [hz] at hL
      simp only [Bool.false_eq_true, if_false] at hL
      subst hL
      exact U.R.free hxn hz hd
    | true =>
      rw [hz] at hL
      simp only [if_true] at hL
      subst hL
      have : upN fz x true = fz := by
        funext y
        by_cases e : y = x
        · subst e; rw [upN_at, hz]
        · rw [upN_ne _ _ e]
      rw [this]
      exact U.R
  have R2 := R1.done (x := x) (rd' := relN ws L ++ rd') (by
    refine (List.Perm.append_left _ hp).trans ?_
    exact List.perm_middle) (upN_at _ _ _) hself
  have hof : OpOf s t ms lv (opNow s t A m) := by
    cases m with
    | ren i j =>
      rw [opNow]
      cases hAi : A i with
      | none => exact .step x _ hm
      | some n =>
        rw [← hA] at hAi
        obtain ⟨g1, j', a, b, g2, g3, g4, g5⟩ := I.aside i n hAi
        obtain ⟨e1, _, e3⟩ := H.Dr.renS x i j hm
        obtain rfl := som g2 e1
        exact .back x i j' n hm (e3 a b g3 g4 g5) (by have := I.nm; omega)
    | _ => exact .step x _ hm
  refine ⟨R2, ⟨p', V', h3, h2, .snoc _ _ V V' W (H.Dr.fits H.P H.M hof) h1 (H.q _ _ h2), h4.trans hA, h5.trans hN⟩, ?_, U.asd, fun o ho => ?_⟩
  · obtain ⟨dl, g1, g2, g3⟩ := U.done
    refine ⟨x :: dl, List.nodup_cons.2 ⟨fun h => ?_, g1⟩, fun k => ?_, ?_⟩
    · have := (g2 x).1 h
      rw [hd] at this
      cases this
    · rw [List.mem_cons, g2]
      by_cases e : k = x
      · subst e; rw [upN_at]; simp
      · rw [upN_ne _ _ e]; simp [e]
    · simp only [List.length_append, List.length_cons, List.length_nil, g3]; omega
  · rcases List.mem_append.1 ho with ho | ho
    · exact U.ofp o ho
    · simp at ho; subst ho; exact hof

/-- A move that waits for itself is put aside. -/
theorem Run.aside (H : Plan0 fold Q s t to fr ms lv cm fd md) (U : Run fold Q s t to fr ms lv fd md ws fz dn rd A N ops) {k i j : Nat} (hm : ms[k]? = some (Mean.ren i j)) (hz : fz k = false) (hl : lv i = some k) :
    N < 60 ∧ A i = none ∧ Run fold Q s t to fr ms lv fd md (relW ws (fd k)) (upN fz k true) dn (relN ws (fd k) ++ rd) (fun x => if x = i then some N else A x) (N + 1) (ops ++ [{ opM s t (Mean.ren i j) with dest := spB N }]) := by
  obtain ⟨p, V, Lk, I, W, hA, hN⟩ := U.st
  have hkn : k < ms.length := (List.getElem?_eq_some_iff.1 hm).1
  have hdk : dn k = false := by
    cases h : dn k with
    | false => rfl
    | true => rw [(Lk.Z k).2 (.inl h)] at hz; cases hz
  have hAi : A i = none := by
    cases h : A i with
    | none => rfl
    | some n => rw [(Lk.Z k).2 (.inr ⟨i, j, hm, by rw [hA, h]; simp⟩)] at hz; cases hz
  have hi : i < s.length := (H.M.bs i j (H.Dr.renS k i j hm).1).1
  obtain ⟨al, a1, a2, a3, a4⟩ := U.asd
  have hial : i ∉ al := fun h => (a2 i h).2 hAi
  have h60 : N < 60 := by
    have := nodup_lt s.length (i :: al) (List.nodup_cons.2 ⟨hial, a1⟩) (fun x hx => by
      rcases List.mem_cons.1 hx with rfl | hx
      · exact hi
      · exact (a2 x hx).1)
    simp only [List.length_cons] at this
    have := H.P.ls
    omega
  obtain ⟨p', V', h1, h2, h3, h4, h5⟩ := H.Dr.aside H.P H.M Lk I (sp := 9223372036854775807) hm hz hl (by rw [hN]; omega)
  rw [hN] at h1 h4 h5
  rw [hA] at h5
  have hof : OpOf s t ms lv { opM s t (Mean.ren i j) with dest := spB N } := .away k i j N hm hl (by omega)
  refine ⟨h60, hAi, U.R.free hkn hz hdk, ⟨p', V', h3, h2, .snoc _ _ V V' W (H.Dr.fits H.P H.M hof) h1 (H.q _ _ h2), h5, h4⟩, ?_, ?_, fun o ho => ?_⟩
  · obtain ⟨dl, g1, g2, g3⟩ := U.done
    exact ⟨dl, g1, g2, by simp only [List.length_append, List.length_cons, List.length_nil, g3]; omega⟩
  · refine ⟨i :: al, List.nodup_cons.2 ⟨hial, a1⟩, fun x hx => ?_, fun x hx => ?_, by simp only [List.length_cons, a4]⟩
    · rcases List.mem_cons.1 hx with rfl | hx
      · exact ⟨hi, by simp⟩
      · refine ⟨(a2 x hx).1, ?_⟩
        by_cases e : x = i
        · rw [if_pos e]; simp
        · rw [if_neg e]; exact (a2 x hx).2
    · by_cases e : x = i
      · rw [e]; simp
      · rw [if_neg e] at hx
        exact List.mem_cons_of_mem _ (a3 x hx)
  · rcases List.mem_append.1 ho with ho | ho
    · exact U.ofp o ho
    · simp at ho; subst ho; exact hof

/-- Who waits for himself, as the run looks for him. -/
def edg (fz : Nat → Bool) (fd md : Nat → List Nat) (x : Nat) : List Nat := (if fz x then [] else fd x) ++ md x
def Knot (ms : List Mean) (fz : Nat → Bool) (fd md : Nat → List Nat) (k : Nat) : Prop := (∃ i j, ms[k]? = some (Mean.ren i j)) ∧ Rch (edg fz fd md) (if fz k then [] else fd k) k
theorem Run.knot (H : Plan0 fold Q s t to fr ms lv cm fd md) {k : Nat} (h : Knot ms fz fd md k) : ∃ i j, ms[k]? = some (Mean.ren i j) ∧ fz k = false ∧ lv i = some k := by
  obtain ⟨⟨i, j, hm⟩, hr⟩ := h
  have hz : fz k = false := by
    cases h : fz k with
    | false => rfl
    | true =>
      rw [h] at hr
      exfalso
      clear hm h
      generalize hk : k = y at hr
      clear hk
      simp only [if_true] at hr
      induction hr with
      | first y hy => cases hy
      | next _ _ _ _ ih => exact ih
  refine ⟨i, j, hm, hz, ?_⟩
  have hne : ∃ y, y ∈ fd k := by
    rw [hz] at hr
    simp only [Bool.false_eq_true, if_false] at hr
    have : ∀ z, Rch (edg fz fd md) (fd k) z → ∃ y, y ∈ fd k := fun z hz => by
      induction hz with
      | first y hy => exact ⟨y, hy⟩
      | next _ _ _ _ ih => exact ih
    exact this _ hr
  obtain ⟨y, hy⟩ := hne
  have key : ∀ i', lv i' = some k → lv i = some k := fun i' hl => by
    rcases H.Dr.lv1 i' k hl with ⟨_, _, h⟩ | ⟨j', _, _, _, _, _, _, h⟩
    · rw [hm] at h; cases h
    · rw [hm] at h; cases h; exact hl
  rcases (H.Dr.fdI k y).1 hy with ⟨i', _, _, _, _, _, _, _, hl⟩ | ⟨i', _, _, _, _, _, _, _, hl⟩
  · exact key i' hl
  · exact key i' hl
/-- Where none is ready and none waits for himself, all are done: the script goes, and comes to t. -/
theorem Run.finish (H : Plan0 fold Q s t to fr ms lv cm fd md) (U : Run fold Q s t to fr ms lv fd md ws fz dn [] A N ops) (hk : ∀ k, k < ms.length → ¬ Knot ms fz fd md k) : Went fold Q s ops t ∧ ops.length ≤ 3 * s.length + t.length ∧ ∀ o ∈ ops, OpOf s t ms lv o := by
  obtain ⟨p, V, Lk, I, W, hA, hN⟩ := U.st
  have hall : ∀ k, k < ms.length → dn k = true := fun k hkn => by
    cases hd : dn k with
    | true => rfl
    | false =>
      obtain ⟨k', ⟨i, j, hm, hl⟩, _, hz, hr⟩ := U.R.ring (Mv ms lv) (rkN fold s t ms) (H.Dr.rankF H.P H.M) (H.Dr.rankM H.P H.M) hkn hd
      exact absurd ⟨⟨i, j, hm⟩, hr⟩ (hk k' (List.getElem?_eq_some_iff.1 hm).1)
  have hV := H.Dr.finish H.P H.M Lk I hall
  subst hV
  refine ⟨W, ?_, U.ofp⟩
  obtain ⟨dl, g1, g2, g3⟩ := U.done
  obtain ⟨al, a1, a2, a3, a4⟩ := U.asd
  have h1 := nodup_lt ms.length dl g1 (fun k h => (U.R.d0 k ((g2 k).1 h)).1)
  have h2 := nodup_lt s.length al a1 (fun i h => (a2 i h).1)
  have := H.few
  omega
end
end Go.Proofs.YtpjjagalekolaaaGreatDoor

/- Which entries become which: the two passes, said plainly. No program in this text. -/
namespace Go.Proofs.YtpjjagalekolaaaGreatDoor
open Go.RowKit
set_option linter.unusedVariables false
set_option linter.unusedSimpArgs false

section
variable {fold : Bool} {s t : List EntD} {to fr : Nat → Option Nat}

theorem bij_join (h : ∀ i j, to i = some j ↔ fr j = some i) {i j : Nat} (hi : to i = none) (hj : fr j = none) : ∀ x y, upN to i (some j) x = some y ↔ upN fr j (some i) y = some x := by
  intro x y
  by_cases ex : x = i
  · subst ex
    rw [upN_at]
    by_cases ey : y = j
    · subst ey; rw [upN_at]; simp
    · rw [upN_ne _ _ ey]
      constructor
      · intro h'; cases h'; exact absurd rfl ey
      · intro h'; rw [(h x y).2 h'] at hi; cases hi
  · rw [upN_ne _ _ ex]
    by_cases ey : y = j
    · subst ey
      rw [upN_at]
      constructor
      · intro h'; rw [(h x y).1 h'] at hj; cases hj
      · intro h'; cases h'; exact absurd rfl ex
    · rw [upN_ne _ _ ey]; exact h x y
theorem upN_keep {α : Type} {f : Nat → Option α} {i x : Nat} {v y : α} (hi : f i = none) (h : f x = some y) : upN f i (some v) x = some y := by
  by_cases e : x = i
  · subst e; rw [hi] at h; cases h
  · rw [upN_ne _ _ e]; exact h

/-- What is in its place, among the first n of t. -/
structure MI (fold : Bool) (s t : List EntD) (to fr : Nat → Option Nat) (n : Nat) : Prop where
  inv : ∀ i j, to i = some j ↔ fr j = some i
  snd : ∀ i j, to i = some j → j < n ∧ ∃ a b, s[i]? = some a ∧ t[j]? = some b ∧ sameB fold a.pl b.pl = true ∧ a.dir = b.dir ∧ a.id = b.id
  all : ∀ i j a b, j < n → s[i]? = some a → t[j]? = some b → sameB fold a.pl b.pl = true → a.dir = b.dir → a.id = b.id → to i = some j
theorem MI.start : MI fold s t (fun _ => none) (fun _ => none) 0 := ⟨fun i j => (by simp), fun i j h => (by cases h), fun i j a b h => by omega⟩
theorem MI.skip {n : Nat} (h : MI fold s t to fr n) {b : EntD} (hb : t[n]? = some b) (hno : ∀ (i : Nat) (a : EntD), s[i]? = some a → sameB fold a.pl b.pl = true → a.dir = b.dir → a.id = b.id → False) : MI fold s t to fr (n + 1) where
  inv := h.inv
  snd := fun i j hj => by
    obtain ⟨h1, h2⟩ := h.snd i j hj
    exact ⟨by omega, h2⟩
  all := fun i j a b' hj ha hb' h1 h2 h3 => by
    by_cases e : j = n
    · subst e
      rw [hb] at hb'
      cases hb'
      exact (hno i a ha h1 h2 h3).elim
    · exact h.all i j a b' (by omega) ha hb' h1 h2 h3
theorem MI.join {n : Nat} (P : Pair fold s t) (h : MI fold s t to fr n) {b a : EntD} {i : Nat} (hb : t[n]? = some b) (ha : s[i]? = some a) (h1 : sameB fold a.pl b.pl = true) (h2 : a.dir = b.dir) (h3 : a.id = b.id) : MI fold s t (upN to i (some n)) (upN fr n (some i)) (n + 1) := by
  have hto : to i = none := by
    cases hx : to i with
    | none => rfl
    | some j =>
      obtain ⟨hj, a', b', ha', hb', hs, _⟩ := h.snd i j hx
      rw [ha] at ha'
      cases ha'
      have := idx_one P.vt hb' hb (sameB_trans (sameB_symm hs) h1)
      omega
  have hfr : fr n = none := by
    cases hx : fr n with
    | none => rfl
    | some i' =>
      obtain ⟨hj, _⟩ := h.snd i' n ((h.inv i' n).2 hx)
      omega
  refine ⟨bij_join h.inv hto hfr, fun x y hxy => ?_, fun x y a' b' hy ha' hb' g1 g2 g3 => ?_⟩
  · by_cases e : x = i
    · subst e
      rw [upN_at] at hxy
      cases hxy
      exact ⟨by omega, a, b, ha, hb, h1, h2, h3⟩
    · rw [upN_ne _ _ e] at hxy
      obtain ⟨k1, k2⟩ := h.snd x y hxy
      exact ⟨by omega, k2⟩
  · by_cases e : y = n
    · subst e
      rw [hb] at hb'
      cases hb'
      have := idx_one P.vs ha' ha (sameB_trans g1 (sameB_symm h1))
      subst this
      exact upN_at _ _ _
    · exact upN_keep hto (h.all x y a' b' (by omega) ha' hb' g1 g2 g3)

/-- And what is elsewhere: the first n of t are matched, where they can be. -/
structure ME (fold : Bool) (s t : List EntD) (to fr : Nat → Option Nat) (n : Nat) : Prop where
  inv : ∀ i j, to i = some j ↔ fr j = some i
  snd : ∀ i j, to i = some j → ∃ a b, s[i]? = some a ∧ t[j]? = some b ∧ a.dir = b.dir ∧ a.id = b.id ∧ (sameB fold a.pl b.pl = false → a.dir = false)
  place : ∀ i j a b, s[i]? = some a → t[j]? = some b → sameB fold a.pl b.pl = true → a.dir = b.dir → a.id = b.id → to i = some j
  left : ∀ i j a b, j < n → s[i]? = some a → t[j]? = some b → fr j = none → b.dir = false → a.id = b.id → to i ≠ none
theorem MI.done (h : MI fold s t to fr t.length) : ME fold s t to fr 0 where
  inv := h.inv
  snd := fun i j hj => by
    obtain ⟨_, a, b, h1, h2, h3, h4, h5⟩ := h.snd i j hj
    exact ⟨a, b, h1, h2, h4, h5, fun h => by rw [h3] at h; cases h⟩
  place := fun i j a b ha hb => h.all i j a b (List.getElem?_eq_some_iff.1 hb).1 ha hb
  left := fun i j a b h => by omega
theorem ME.skip {n : Nat} (h : ME fold s t to fr n) {b : EntD} (hb : t[n]? = some b) (hno : fr n = none → b.dir = false → ∀ (i : Nat) (a : EntD), s[i]? = some a → a.id = b.id → to i ≠ none) : ME fold s t to fr (n + 1) where
  inv := h.inv
  snd := h.snd
  place := h.place
  left := fun i j a b' hj ha hb' hf hd hid => by
    by_cases e : j = n
    · subst e
      rw [hb] at hb'
      cases hb'
      exact hno hf hd i a ha hid
    · exact h.left i j a b' (by omega) ha hb' hf hd hid
theorem file_id {L : List EntD} (V : VolOk fold L) {b : EntD} (hb : b ∈ L) (hd : b.dir = false) : 0 < b.id := by
  obtain ⟨_, _, f⟩ := fieldsB_true _ (V.fields b hb)
  rcases f with ⟨g, _⟩ | ⟨_, g, _⟩
  · rw [hd] at g; cases g
  · omega
theorem ME.join {n : Nat} (P : Pair fold s t) (h : ME fold s t to fr n) {b a : EntD} {i : Nat} (hb : t[n]? = some b) (ha : s[i]? = some a) (hd : b.dir = false) (hid : a.id = b.id) (hto : to i = none) (hfr : fr n = none) : ME fold s t (upN to i (some n)) (upN fr n (some i)) (n + 1) := by
  have had : a.dir = false := by
    cases hx : a.dir with
    | false => rfl
    | true =>
      have h1 := (dir0 P.vs (getE ha) hx).1
      have h2 := file_id P.vt (getE hb) hd
      omega
  refine ⟨bij_join h.inv hto hfr, fun x y hxy => ?_, fun x y a' b' ha' hb' g1 g2 g3 => upN_keep hto (h.place x y a' b' ha' hb' g1 g2 g3), fun x y a' b' hy ha' hb' hf hdb hib => ?_⟩
  · by_cases e : x = i
    · subst e
      rw [upN_at] at hxy
      cases hxy
      exact ⟨a, b, ha, hb, by rw [had, hd], hid, fun _ => had⟩
    · rw [upN_ne _ _ e] at hxy
      exact h.snd x y hxy
  · by_cases e : y = n
    · subst e
      rw [upN_at] at hf
      cases hf
    · rw [upN_ne _ _ e] at hf
      have := h.left x y a' b' (by omega) ha' hb' hf hdb hib
      by_cases ex : x = i
      · subst ex; rw [upN_at]; simp
      · rw [upN_ne _ _ ex]; exact this
theorem ME.done (h : ME fold s t to fr t.length) : Mat fold s t to fr where
  inv := h.inv
  bs := fun i j hj => by
    obtain ⟨a, b, h1, h2, _⟩ := h.snd i j hj
    exact ⟨(List.getElem?_eq_some_iff.1 h1).1, (List.getElem?_eq_some_iff.1 h2).1⟩
  kind := fun i j a b hj ha hb => by
    obtain ⟨a', b', h1, h2, h3, h4, _⟩ := h.snd i j hj
    rw [ha] at h1
    rw [hb] at h2
    cases h1
    cases h2
    exact ⟨h3, h4⟩
  place := h.place
  away := fun i j a b hj ha hb hs => by
    obtain ⟨a', b', h1, h2, h3, h4, h5⟩ := h.snd i j hj
    rw [ha] at h1
    rw [hb] at h2
    cases h1
    cases h2
    exact h5 hs
  left := fun i j a b ha hb hf hd hid => h.left i j a b (List.getElem?_eq_some_iff.1 hb).1 ha hb hf hd hid
end
end Go.Proofs.YtpjjagalekolaaaGreatDoor

