/- The steps of a plan, and what each does to a volume when its turn has come. No program in this text. -/
import Derived.Test.YtpjjagalekolaaaGreatDoorP28
namespace Go.Proofs.YtpjjagalekolaaaGreatDoor
open Go.RowKit
set_option linter.unusedVariables false
set_option linter.unusedSimpArgs false

/-- What a step is for: to take away number i of s; to rename it to number j of t; to change its mode; to make number j of t; to write it; to copy it from number h. -/
inductive Mean
  | del (i : Nat)
  | ren (i j : Nat)
  | chm (i j : Nat)
  | mkd (j : Nat)
  | wri (j : Nat)
  | cpy (j h : Nat)
def eg (s : List EntD) (i : Nat) : EntD := (s[i]?).getD ⟨⟨#[]⟩, false, 0, 0, 0⟩
theorem eg_at {s : List EntD} {i : Nat} {a : EntD} (h : s[i]? = some a) : eg s i = a := by rw [eg, h]; rfl
def opM (s t : List EntD) : Mean → OpD
  | .del i => ⟨if (eg s i).dir then 2 else 3, (eg s i).path, ⟨#[]⟩, 0, 0, 0⟩
  | .ren i j => ⟨6, (eg s i).path, (eg t j).path, 0, 0, 0⟩
  | .chm i j => ⟨7, (eg t j).path, ⟨#[]⟩, 0, 0, (eg t j).mode⟩
  | .mkd j => ⟨1, (eg t j).path, ⟨#[]⟩, 0, 0, (eg t j).mode⟩
  | .wri j => ⟨4, (eg t j).path, ⟨#[]⟩, (eg t j).id, (eg t j).size, (eg t j).mode⟩
  | .cpy j h => ⟨5, (eg t h).path, (eg t j).path, 0, 0, (eg t j).mode⟩
def spB (n : Nat) : ByteArray := ⟨(spN n).toArray⟩
/-- As it stands by now: a move that was put aside goes from its spare name. -/
def opNow (s t : List EntD) (A : Nat → Option Nat) : Mean → OpD
  | .ren i j => match A i with
    | none => opM s t (.ren i j)
    | some n => { opM s t (.ren i j) with path := spB n }
  | m => opM s t m

def EdgeF (fold : Bool) (s t : List EntD) (lv cm : Nat → Option Nat) (x y : Nat) : Prop :=
  (∃ i q a c, s[q]? = some a ∧ s[i]? = some c ∧ parentL c.pl = a.pl ∧ lv q = some y ∧ lv i = some x) ∨ (∃ i j a b, s[i]? = some a ∧ t[j]? = some b ∧ sameB fold a.pl b.pl = true ∧ cm j = some y ∧ lv i = some x)
def EdgeM (t : List EntD) (ms : List Mean) (cm : Nat → Option Nat) (x y : Nat) : Prop :=
  (∃ i j, ms[y]? = some (Mean.chm i j) ∧ cm j = some x) ∨ (∃ j h, ms[y]? = some (Mean.cpy j h) ∧ cm h = some x) ∨ (∃ j q b c, t[j]? = some b ∧ t[q]? = some c ∧ c.pl = parentL b.pl ∧ cm j = some y ∧ cm q = some x)

structure Draft (fold : Bool) (s t : List EntD) (to fr : Nat → Option Nat) (ms : List Mean) (lv cm : Nat → Option Nat) (fd md : Nat → List Nat) : Prop where
  del1 : ∀ i, i < s.length → to i = none → ∃ k, lv i = some k
  mov1 : ∀ i j a b, to i = some j → s[i]? = some a → t[j]? = some b → sameB fold a.pl b.pl = false → ∃ k, lv i = some k
  lv1 : ∀ (i k : Nat), lv i = some k → (to i = none ∧ i < s.length ∧ ms[k]? = some (Mean.del i)) ∨ (∃ j a b, to i = some j ∧ s[i]? = some a ∧ t[j]? = some b ∧ sameB fold a.pl b.pl = false ∧ ms[k]? = some (Mean.ren i j))
  cm1 : ∀ (j k : Nat), cm j = some k → (∃ i, fr j = some i ∧ ms[k]? = some (Mean.ren i j)) ∨ (fr j = none ∧ j < t.length ∧ (ms[k]? = some (Mean.mkd j) ∨ ms[k]? = some (Mean.wri j) ∨ ∃ h, ms[k]? = some (Mean.cpy j h)))
  ren1 : ∀ i j a b, to i = some j → s[i]? = some a → t[j]? = some b → sameB fold a.pl b.pl = false ∨ lastL a.pl ≠ lastL b.pl → ∃ k, cm j = some k
  new1 : ∀ j, j < t.length → fr j = none → ∃ k, cm j = some k
  chm1 : ∀ i j a b, to i = some j → s[i]? = some a → t[j]? = some b → a.mode ≠ b.mode → ∃ k : Nat, ms[k]? = some (Mean.chm i j)
  delS : ∀ (k i : Nat), ms[k]? = some (Mean.del i) → lv i = some k
  renS : ∀ (k i j : Nat), ms[k]? = some (Mean.ren i j) → to i = some j ∧ cm j = some k ∧ ∀ a b, s[i]? = some a → t[j]? = some b → sameB fold a.pl b.pl = false → lv i = some k
  chmS : ∀ (k i j : Nat), ms[k]? = some (Mean.chm i j) → to i = some j
  mkdS : ∀ (k j : Nat), ms[k]? = some (Mean.mkd j) → fr j = none ∧ cm j = some k ∧ ∃ b, t[j]? = some b ∧ b.dir = true
  wriS : ∀ (k j : Nat), ms[k]? = some (Mean.wri j) → fr j = none ∧ cm j = some k ∧ ∃ b, t[j]? = some b ∧ b.dir = false ∧ ∀ a ∈ s, a.dir = false → a.id ≠ b.id
  cpyS : ∀ (k j h : Nat), ms[k]? = some (Mean.cpy j h) → fr j = none ∧ cm j = some k ∧ ∃ b c i, t[j]? = some b ∧ t[h]? = some c ∧ b.dir = false ∧ c.id = b.id ∧ fr h = some i
  fdI : ∀ x y, y ∈ fd x ↔ EdgeF fold s t lv cm x y
  mdI : ∀ x y, y ∈ md x ↔ EdgeM t ms cm x y

/-- What is done of the steps is what is done of the things. -/
structure Link (ms : List Mean) (dn fz : Nat → Bool) (p : PS) : Prop where
  D : ∀ i, p.D i ↔ ∃ k : Nat, dn k = true ∧ ms[k]? = some (Mean.del i)
  R : ∀ i, p.R i ↔ ∃ k j : Nat, dn k = true ∧ ms[k]? = some (Mean.ren i j)
  H : ∀ i, p.H i ↔ ∃ k j : Nat, dn k = true ∧ ms[k]? = some (Mean.chm i j)
  C : ∀ j, j ∈ p.C ↔ ∃ k : Nat, dn k = true ∧ (ms[k]? = some (Mean.mkd j) ∨ ms[k]? = some (Mean.wri j) ∨ ∃ h, ms[k]? = some (Mean.cpy j h))
  Z : ∀ k, fz k = true ↔ dn k = true ∨ ∃ i j, ms[k]? = some (Mean.ren i j) ∧ p.A i ≠ none

section
variable {fold : Bool} {s t : List EntD} {to fr : Nat → Option Nat} {ms : List Mean} {lv cm : Nat → Option Nat} {fd md : Nat → List Nat} {ws : Nat → Nat} {fz dn : Nat → Bool} {rd : List Nat} {p : PS} {V : List EntD} {sp : Int}

theorem Link.start : Link ms (fun _ => false) (fun _ => false) PS.start where
  D := fun i => ⟨fun h => h.elim, fun ⟨k, h, _⟩ => by cases h⟩
  R := fun i => ⟨fun h => h.elim, fun ⟨k, j, h, _⟩ => by cases h⟩
  H := fun i => ⟨fun h => h.elim, fun ⟨k, j, h, _⟩ => by cases h⟩
  C := fun j => ⟨fun h => (by cases h), fun ⟨k, h, _⟩ => by cases h⟩
  Z := fun k => ⟨fun h => (by cases h), fun h => h.elim (fun h => by cases h) (fun ⟨i, j, _, h⟩ => absurd rfl h)⟩
/-- A thing of s whose step has let go its Path has left its place. -/
theorem Draft.left (Dr : Draft fold s t to fr ms lv cm fd md) (L : Link ms dn fz p) {i k : Nat} (hl : lv i = some k) (hz : fz k = true) : LeftS fold s t to p i := by
  rcases Dr.lv1 i k hl with ⟨h1, _, h2⟩ | ⟨j, a, b, h1, h2, h3, h4, h5⟩
  · refine .inl ⟨h1, (L.D i).2 ⟨k, ?_, h2⟩⟩
    rcases (L.Z k).1 hz with h | ⟨i', j', h, _⟩
    · exact h
    · rw [h2] at h; cases h
  · refine .inr ⟨j, a, b, h1, h2, h3, h4, ?_⟩
    rcases (L.Z k).1 hz with h | ⟨i', j', h, hA⟩
    · exact .inl ((L.R i).2 ⟨k, j, h, h5⟩)
    · rw [h5] at h
      cases h
      exact .inr hA
theorem Draft.occ (Dr : Draft fold s t to fr ms lv cm fd md) (P : Pair fold s t) (M : Mat fold s t to fr) (R : RInv ms.length fd md ws fz dn rd) (L : Link ms dn fz p) {j k : Nat} {b : EntD} (hb : t[j]? = some b) (hc : cm j = some k) (hk : k < ms.length) (h0 : ws k = 0) : ∀ i a, s[i]? = some a → sameB fold a.pl b.pl = true → to i = some j ∨ LeftS fold s t to p i := by
  intro i a ha hs
  have gone : ∀ k', lv i = some k' → LeftS fold s t to p i := fun k' hk' => Dr.left L hk' ((R.gone hk h0).1 k' ((Dr.fdI k' k).2 (.inr ⟨i, j, a, b, ha, hb, hs, hc, hk'⟩)))
  cases ht : to i with
  | none =>
    obtain ⟨k', hk'⟩ := Dr.del1 i (List.getElem?_eq_some_iff.1 ha).1 ht
    exact .inr (gone k' hk')
  | some j' =>
    obtain ⟨b', hb'⟩ : ∃ b', t[j']? = some b' := ⟨_, List.getElem?_eq_getElem (M.bs i j' ht).2⟩
    cases hss : sameB fold a.pl b'.pl with
    | true => exact .inl (by rw [idx_one P.vt hb hb' (sameB_trans (sameB_symm hs) hss)])
    | false =>
      obtain ⟨k', hk'⟩ := Dr.mov1 i j' a b' ht ha hb' hss
      exact .inr (gone k' hk')
theorem Draft.above (Dr : Draft fold s t to fr ms lv cm fd md) (P : Pair fold s t) (R : RInv ms.length fd md ws fz dn rd) (L : Link ms dn fz p) {j k : Nat} {b : EntD} (hb : t[j]? = some b) (hc : cm j = some k) (hk : k < ms.length) (h0 : ws k = 0) : ∀ q c, t[q]? = some c → c.pl = parentL b.pl → fr q = none → q ∈ p.C := by
  intro q c hq hqp hf
  obtain ⟨k', hk'⟩ := Dr.new1 q (List.getElem?_eq_some_iff.1 hq).1 hf
  have hd := (R.gone hk h0).2 k' ((Dr.mdI k' k).2 (.inr (.inr ⟨j, q, b, c, hb, hq, hqp, hc, hk'⟩)))
  rcases Dr.cm1 q k' hk' with ⟨i, h, _⟩ | ⟨_, _, h⟩
  · rw [hf] at h; cases h
  · exact (L.C q).2 ⟨k', hd, h⟩

theorem up_iff {Q : Nat → Prop} {x : Nat} : (∃ k, upN dn x true k = true ∧ Q k) ↔ (∃ k : Nat, dn k = true ∧ Q k) ∨ Q x := by
  constructor
  · rintro ⟨k, h1, h2⟩
    by_cases e : k = x
    · subst e; exact .inr h2
    · rw [upN_ne _ _ e] at h1; exact .inl ⟨k, h1, h2⟩
  · rintro (⟨k, h1, h2⟩ | h)
    · refine ⟨k, ?_, h2⟩
      by_cases e : k = x
      · subst e; exact upN_at _ _ _
      · rw [upN_ne _ _ e]; exact h1
    · exact ⟨x, upN_at _ _ _, h⟩
theorem up_iff2 {Q : Nat → Nat → Prop} {x : Nat} : (∃ k j, upN dn x true k = true ∧ Q k j) ↔ (∃ k j : Nat, dn k = true ∧ Q k j) ∨ ∃ j, Q x j := by
  have := up_iff (dn := dn) (Q := fun k => ∃ j, Q k j) (x := x)
  constructor
  · rintro ⟨k, j, h1, h2⟩
    rcases this.1 ⟨k, h1, j, h2⟩ with ⟨k, h1, j, h2⟩ | h
    · exact .inl ⟨k, j, h1, h2⟩
    · exact .inr h
  · rintro (⟨k, j, h1, h2⟩ | h)
    · obtain ⟨k, h1, j, h2⟩ := this.2 (.inl ⟨k, h1, j, h2⟩)
      exact ⟨k, j, h1, h2⟩
    · obtain ⟨k, h1, j, h2⟩ := this.2 (.inr h)
      exact ⟨k, j, h1, h2⟩
theorem Link.up (L : Link ms dn fz p) {x : Nat} {p' : PS} (hA : p'.A = p.A) (hD : ∀ i, p'.D i ↔ p.D i ∨ ms[x]? = some (Mean.del i)) (hR : ∀ i, p'.R i ↔ p.R i ∨ ∃ j, ms[x]? = some (Mean.ren i j)) (hH : ∀ i, p'.H i ↔ p.H i ∨ ∃ j, ms[x]? = some (Mean.chm i j)) (hC : ∀ j, j ∈ p'.C ↔ j ∈ p.C ∨ (ms[x]? = some (Mean.mkd j) ∨ ms[x]? = some (Mean.wri j) ∨ ∃ h, ms[x]? = some (Mean.cpy j h))) : Link ms (upN dn x true) (upN fz x true) p' where
  D := fun i => by rw [hD, L.D, up_iff]
  R := fun i => by rw [hR, L.R, up_iff2]
  H := fun i => by rw [hH, L.H, up_iff2]
  C := fun j => by rw [hC, L.C, up_iff]
  Z := fun k => by
    by_cases e : k = x
    · subst e; rw [upN_at, upN_at]; simp
    · rw [upN_ne _ _ e, upN_ne _ _ e, hA]; exact L.Z k

/-- A step whose turn has come goes. -/
theorem Draft.step (Dr : Draft fold s t to fr ms lv cm fd md) (P : Pair fold s t) (M : Mat fold s t to fr) (R : RInv ms.length fd md ws fz dn rd) (L : Link ms dn fz p) (I : Inv fold s t to fr p V) (hsp : 20000 ≤ sp) {x : Nat} {m : Mean} (hx : x ∈ rd) (hm : ms[x]? = some m) :
    ∃ p' V', doL fold sp V (opNow s t p.A m) = .ok V' ∧ Inv fold s t to fr p' V' ∧ Link ms (upN dn x true) (upN fz x true) p' ∧ p'.A = p.A ∧ p'.N = p.N := by
  obtain ⟨hxn, hw, hdx⟩ := R.ready x hx
  cases m with
  | del i =>
    have hl := Dr.delS x i hm
    rcases Dr.lv1 i x hl with ⟨ht, hi, _⟩ | ⟨j, a, b, h1, _, _, _, h5⟩
    · obtain ⟨a, ha⟩ : ∃ a, s[i]? = some a := ⟨_, List.getElem?_eq_getElem hi⟩
      have hD : ¬ p.D i := fun h => by
        obtain ⟨k, hk1, hk2⟩ := (L.D i).1 h
        have := Dr.delS k i hk2
        rw [hl] at this
        cases this
        rw [hdx] at hk1
        cases hk1
      obtain ⟨V', h1, h2⟩ := I.del (sp := sp) P M (o := opM s t (.del i)) ha ht hD (by show OpD.pl _ = _; simp [opM, OpD.pl, EntD.pl, eg_at ha]) (by simp [opM, eg_at ha]) (fun hd k c hc hcp => by
        have gone : ∀ k', lv k = some k' → LeftS fold s t to p k := fun k' hk' => Dr.left L hk' ((R.gone hxn hw).1 k' ((Dr.fdI k' x).2 (.inl ⟨k, i, a, c, ha, hc, hcp, hl, hk'⟩)))
        cases htk : to k with
        | none =>
          obtain ⟨k', hk'⟩ := Dr.del1 k (List.getElem?_eq_some_iff.1 hc).1 htk
          exact .inr (gone k' hk')
        | some j' =>
          obtain ⟨b', hb'⟩ : ∃ b', t[j']? = some b' := ⟨_, List.getElem?_eq_getElem (M.bs k j' htk).2⟩
          cases hss : sameB fold c.pl b'.pl with
          | true => exact .inl ⟨j', b', rfl, hb', hss⟩
          | false =>
            obtain ⟨k', hk'⟩ := Dr.mov1 k j' c b' htk hc hb' hss
            exact .inr (gone k' hk'))
      refine ⟨_, V', h1, h2, L.up rfl (fun i' => ?_) (fun i' => ?_) (fun i' => ?_) (fun j' => ?_), rfl, rfl⟩
      · rw [hm]
        simp only [Option.some.injEq, Mean.del.injEq]
        exact ⟨fun h => h.imp id Eq.symm, fun h => h.imp id Eq.symm⟩
      all_goals simp [hm]
    · rw [hm] at h5; cases h5
  | ren i j =>
    obtain ⟨ht, hc, hlm⟩ := Dr.renS x i j hm
    obtain ⟨a, ha⟩ : ∃ a, s[i]? = some a := ⟨_, List.getElem?_eq_getElem (M.bs i j ht).1⟩
    obtain ⟨b, hb⟩ : ∃ b, t[j]? = some b := ⟨_, List.getElem?_eq_getElem (M.bs i j ht).2⟩
    have hR : ¬ p.R i := fun h => by
      obtain ⟨k, j', hk1, hk2⟩ := (L.R i).1 h
      obtain ⟨g1, g2, _⟩ := Dr.renS k i j' hk2
      obtain rfl := som g1 ht
      rw [hc] at g2
      cases g2
      rw [hdx] at hk1
      cases hk1
    have lk : Link ms (upN dn x true) (upN fz x true) { p with R := fun k => p.R k ∨ k = i } := by
      refine L.up rfl (fun i' => ?_) (fun i' => ?_) (fun i' => ?_) (fun j' => ?_)
      · simp [hm]
      · rw [hm]
        simp only [Option.some.injEq, Mean.ren.injEq]
        exact ⟨fun h => h.imp id (fun e => ⟨j, e.symm, rfl⟩), fun h => h.imp id (fun ⟨_, e, _⟩ => e.symm)⟩
      all_goals simp [hm]
    cases hss : sameB fold a.pl b.pl with
    | true =>
      have hA : p.A i = none := by
        cases h : p.A i with
        | none => rfl
        | some n =>
          obtain ⟨_, j', a', b', g1, g2, g3, g4⟩ := I.aside i n h
          obtain rfl := som g1 ht
          rw [som g2 ha, som g3 hb, hss] at g4
          cases g4
      obtain ⟨V', h1, h2⟩ := I.turn (sp := sp) P M (o := opM s t (.ren i j)) ha hb ht hss hR rfl (by simp [opM, OpD.pl, EntD.pl, eg_at ha]) (by simp [opM, OpD.tl, EntD.pl, eg_at hb])
      refine ⟨_, V', ?_, h2, lk, rfl, rfl⟩
      rw [opNow, hA]
      exact h1
    | false =>
      obtain ⟨V', h1, h2⟩ := I.move (sp := sp) P M (o := opNow s t p.A (.ren i j)) ha hb ht hss hR (by rw [opNow]; split <;> rfl) (by
        cases h : p.A i with
        | none => exact .inl ⟨rfl, by simp [opNow, h, opM, OpD.pl, EntD.pl, eg_at ha]⟩
        | some n => exact .inr ⟨n, rfl, by simp [opNow, h, OpD.pl, spB]⟩) (by rw [opNow]; split <;> simp [opM, OpD.tl, EntD.pl, eg_at hb]) (Dr.occ P M R L hb hc hxn hw) (Dr.above P R L hb hc hxn hw)
      exact ⟨_, V', h1, h2, lk, rfl, rfl⟩
  | chm i j =>
    have ht := Dr.chmS x i j hm
    obtain ⟨a, ha⟩ : ∃ a, s[i]? = some a := ⟨_, List.getElem?_eq_getElem (M.bs i j ht).1⟩
    obtain ⟨b, hb⟩ : ∃ b, t[j]? = some b := ⟨_, List.getElem?_eq_getElem (M.bs i j ht).2⟩
    have hcome : sameB fold a.pl b.pl = true ∨ p.R i := by
      cases hss : sameB fold a.pl b.pl with
      | true => exact .inl rfl
      | false =>
        obtain ⟨k, hk⟩ := Dr.ren1 i j a b ht ha hb (.inl hss)
        have hd := (R.gone hxn hw).2 k ((Dr.mdI k x).2 (.inl ⟨i, j, hm, hk⟩))
        rcases Dr.cm1 j k hk with ⟨i', h1, h2⟩ | ⟨h1, _⟩
        · rw [(M.inv i j).1 ht] at h1
          cases h1
          exact .inr ((L.R i).2 ⟨k, j, hd, h2⟩)
        · rw [(M.inv i j).1 ht] at h1; cases h1
    obtain ⟨V', h1, h2⟩ := I.chm (sp := sp) P M (o := opM s t (.chm i j)) ha hb ht hcome rfl (by simp [opM, OpD.pl, EntD.pl, eg_at hb]) (by simp [opM, eg_at hb])
    refine ⟨_, V', h1, h2, L.up rfl (fun i' => ?_) (fun i' => ?_) (fun i' => ?_) (fun j' => ?_), rfl, rfl⟩
    · simp [hm]
    · simp [hm]
    · rw [hm]
      simp only [Option.some.injEq, Mean.chm.injEq]
      exact ⟨fun h => h.imp id (fun e => ⟨j, e.symm, rfl⟩), fun h => h.imp id (fun ⟨_, e, _⟩ => e.symm)⟩
    · simp [hm]
  | mkd j =>
    obtain ⟨hf, hc, b, hb, hbd⟩ := Dr.mkdS x j hm
    have hj : j ∉ p.C := fun h => by
      obtain ⟨k, hk1, hk2⟩ := (L.C j).1 h
      have : cm j = some k := by
        rcases hk2 with h | h | ⟨q, h⟩
        · exact (Dr.mkdS k j h).2.1
        · exact (Dr.wriS k j h).2.1
        · exact (Dr.cpyS k j q h).2.1
      rw [hc] at this
      cases this
      rw [hdx] at hk1
      cases hk1
    have h0 := dir0 P.vt (getE hb) hbd
    obtain ⟨V', h1, h2⟩ := I.make (sp := sp) P M (e := ⟨b.path, true, 0, 0, b.mode⟩) hb hf hj rfl ⟨hbd.symm, h0.1.symm, h0.2.symm⟩ rfl hsp (Dr.occ P M R L hb hc hxn hw) (Dr.above P R L hb hc hxn hw)
    refine ⟨_, V', ?_, h2, L.up rfl (fun i' => ?_) (fun i' => ?_) (fun i' => ?_) (fun j' => ?_), rfl, rfl⟩
    · simp only [opNow, opM, eg_at hb, doL]
      exact h1
    · simp [hm]
    · simp [hm]
    · simp [hm]
    · rw [hm, List.mem_cons]
      simp only [Option.some.injEq, Mean.mkd.injEq, reduceCtorEq, exists_false, or_false, false_or]
      exact ⟨fun h => h.symm.imp id Eq.symm, fun h => h.symm.imp Eq.symm id⟩
  | wri j =>
    obtain ⟨hf, hc, b, hb, hbd, _⟩ := Dr.wriS x j hm
    have hj : j ∉ p.C := fun h => by
      obtain ⟨k, hk1, hk2⟩ := (L.C j).1 h
      have : cm j = some k := by
        rcases hk2 with h | h | ⟨q, h⟩
        · exact (Dr.mkdS k j h).2.1
        · exact (Dr.wriS k j h).2.1
        · exact (Dr.cpyS k j q h).2.1
      rw [hc] at this
      cases this
      rw [hdx] at hk1
      cases hk1
    obtain ⟨V', h1, h2⟩ := I.make (sp := sp) P M (e := ⟨b.path, false, b.id, b.size, b.mode⟩) hb hf hj rfl ⟨hbd.symm, rfl, rfl⟩ rfl hsp (Dr.occ P M R L hb hc hxn hw) (Dr.above P R L hb hc hxn hw)
    refine ⟨_, V', ?_, h2, L.up rfl (fun i' => ?_) (fun i' => ?_) (fun i' => ?_) (fun j' => ?_), rfl, rfl⟩
    · simp only [opNow, opM, eg_at hb, doL]
      exact h1
    · simp [hm]
    · simp [hm]
    · simp [hm]
    · rw [hm, List.mem_cons]
      simp only [Option.some.injEq, Mean.wri.injEq, reduceCtorEq, exists_false, or_false, false_or]
      exact ⟨fun h => h.symm.imp id Eq.symm, fun h => h.symm.imp Eq.symm id⟩
  | cpy j h =>
    obtain ⟨hf, hc, b, c, i, hb, hcc, hbd, hid, hfh⟩ := Dr.cpyS x j h hm
    have hj : j ∉ p.C := fun h => by
      obtain ⟨k, hk1, hk2⟩ := (L.C j).1 h
      have : cm j = some k := by
        rcases hk2 with h | h | ⟨q, h⟩
        · exact (Dr.mkdS k j h).2.1
        · exact (Dr.wriS k j h).2.1
        · exact (Dr.cpyS k j q h).2.1
      rw [hc] at this
      cases this
      rw [hdx] at hk1
      cases hk1
    have ht := (M.inv i h).2 hfh
    obtain ⟨a, ha⟩ : ∃ a, s[i]? = some a := ⟨_, List.getElem?_eq_getElem (M.bs i h ht).1⟩
    obtain ⟨k1, k2⟩ := M.kind i h a c ht ha hcc
    have hcd : c.dir = false := by
      cases hd : c.dir with
      | false => rfl
      | true =>
        have := (dir0 P.vt (getE hcc) hd).1
        obtain ⟨_, _, f⟩ := fieldsB_true _ (P.vt.fields b (getE hb))
        rcases f with ⟨g, _⟩ | ⟨_, g, _⟩
        · rw [hbd] at g; cases g
        · omega
    have hcome : sameB fold a.pl c.pl = true ∨ p.R i := by
      cases hss : sameB fold a.pl c.pl with
      | true => exact .inl rfl
      | false =>
        obtain ⟨k, hk⟩ := Dr.ren1 i h a c ht ha hcc (.inl hss)
        have hd := (R.gone hxn hw).2 k ((Dr.mdI k x).2 (.inr (.inl ⟨j, h, hm, hk⟩)))
        rcases Dr.cm1 h k hk with ⟨i', h1, h2⟩ | ⟨h1, _⟩
        · rw [hfh] at h1
          cases h1
          exact .inr ((L.R i).2 ⟨k, h, hd, h2⟩)
        · rw [hfh] at h1; cases h1
    obtain ⟨e0, he0, _, hs0, hf0, _⟩ := I.arrived M ha hcc ht hcome
    have hat := atI_mem I.vol he0 (p := OpD.pl (opM s t (.cpy j h))) (by simp [opM, OpD.pl, eg_at hcc]; exact hs0)
    have hed : e0.dir = false := hf0.1.trans (k1.trans hcd)
    have hei : e0.id = b.id := hf0.2.1.trans (k2.trans hid)
    have hes : e0.size = b.size := hf0.2.2.trans (P.sizes a (getE ha) b (getE hb) (k1.trans hcd) hbd (k2.trans hid))
    obtain ⟨V', h1, h2⟩ := I.make (sp := sp) P M (e := ⟨b.path, false, e0.id, e0.size, b.mode⟩) hb hf hj rfl ⟨hbd.symm, hei, hes⟩ rfl hsp (Dr.occ P M R L hb hc hxn hw) (Dr.above P R L hb hc hxn hw)
    refine ⟨_, V', ?_, h2, L.up rfl (fun i' => ?_) (fun i' => ?_) (fun i' => ?_) (fun j' => ?_), rfl, rfl⟩
    · show doL fold sp V (opM s t (.cpy j h)) = _
      rw [do_cpy hat rfl hed]
      simp only [opM, eg_at hb]
      exact h1
    · simp [hm]
    · simp [hm]
    · simp [hm]
    · rw [hm, List.mem_cons]
      simp only [Option.some.injEq, Mean.cpy.injEq, reduceCtorEq, false_or]
      exact ⟨fun h' => h'.symm.imp id (fun e => ⟨h, e.symm, rfl⟩), fun h' => h'.symm.imp (fun ⟨_, e, _⟩ => e.symm) id⟩

/-- A move that waits for itself is put aside. -/
theorem Draft.aside (Dr : Draft fold s t to fr ms lv cm fd md) (P : Pair fold s t) (M : Mat fold s t to fr) (L : Link ms dn fz p) (I : Inv fold s t to fr p V) {k i j : Nat} (hm : ms[k]? = some (Mean.ren i j)) (hz : fz k = false) (hl : lv i = some k) (hN : p.N < 100) :
    ∃ p' V', doL fold sp V { opM s t (.ren i j) with dest := spB p.N } = .ok V' ∧ Inv fold s t to fr p' V' ∧ Link ms dn (upN fz k true) p' ∧ p'.N = p.N + 1 ∧ p'.A = fun x => if x = i then some p.N else p.A x := by
  rcases Dr.lv1 i k hl with ⟨_, _, h⟩ | ⟨j', a, b, ht, ha, hb, hss, h⟩
  · rw [hm] at h; cases h
  · rw [hm] at h
    cases h
    have hdk : dn k = false := by
      cases h : dn k with
      | false => rfl
      | true => rw [(L.Z k).2 (.inl h)] at hz; cases hz
    have hA : p.A i = none := by
      cases h : p.A i with
      | none => rfl
      | some n => rw [(L.Z k).2 (.inr ⟨i, j, hm, by rw [h]; simp⟩)] at hz; cases hz
    have hR : ¬ p.R i := fun h => by
      obtain ⟨k', j', hk1, hk2⟩ := (L.R i).1 h
      obtain ⟨g1, g2, g3⟩ := Dr.renS k' i j' hk2
      obtain rfl := som g1 ht
      have := g3 a b ha hb hss
      rw [hl] at this
      cases this
      rw [hdk] at hk1
      cases hk1
    obtain ⟨V', h1, h2⟩ := I.put (sp := sp) P M (o := { opM s t (.ren i j) with dest := spB p.N }) ha hb ht hss hR hA rfl (by simp [opM, OpD.pl, EntD.pl, eg_at ha]) (by simp [OpD.tl, spB]) hN
    refine ⟨_, V', h1, h2, ⟨L.D, L.R, L.H, L.C, fun x => ?_⟩, rfl, rfl⟩
    by_cases e : x = k
    · subst e
      rw [upN_at]
      refine ⟨fun _ => .inr ⟨i, j, hm, by simp⟩, fun _ => rfl⟩
    · rw [upN_ne _ _ e, L.Z]
      refine ⟨fun h => h.imp id (fun ⟨i', j', g1, g2⟩ => ⟨i', j', g1, ?_⟩), fun h => h.imp id (fun ⟨i', j', g1, g2⟩ => ⟨i', j', g1, ?_⟩)⟩
      · dsimp only
        by_cases e' : i' = i
        · rw [if_pos e']; simp
        · rw [if_neg e']; exact g2
      · dsimp only at g2
        by_cases e' : i' = i
        · subst e'
          obtain ⟨g3, g4, _⟩ := Dr.renS x i' j' g1
          obtain rfl := som g3 ht
          have := (Dr.renS k i' j' hm).2.1
          rw [g4] at this
          cases this
          exact absurd rfl e
        · rw [if_neg e'] at g2; exact g2

/-- Where all steps are done, the volume holds t. -/
theorem Draft.finish (Dr : Draft fold s t to fr ms lv cm fd md) (P : Pair fold s t) (M : Mat fold s t to fr) (L : Link ms dn fz p) (I : Inv fold s t to fr p V) (hall : ∀ k, k < ms.length → dn k = true) : V = t := by
  have hd : ∀ {k : Nat} {m : Mean}, ms[k]? = some m → dn k = true := fun h => hall _ (List.getElem?_eq_some_iff.1 h).1
  refine I.done P M (fun i hi ht => ?_) (fun i j a b ht ha hb h => ?_) (fun i j a b ht ha hb h => ?_) (fun j hj hf => ?_)
  · obtain ⟨k, hk⟩ := Dr.del1 i hi ht
    rcases Dr.lv1 i k hk with ⟨_, _, h⟩ | ⟨j, _, _, h, _⟩
    · exact (L.D i).2 ⟨k, hd h, h⟩
    · rw [ht] at h; cases h
  · obtain ⟨k, hk⟩ := Dr.ren1 i j a b ht ha hb h
    rcases Dr.cm1 j k hk with ⟨i', h1, h2⟩ | ⟨h1, _⟩
    · rw [(M.inv i j).1 ht] at h1
      cases h1
      exact (L.R i).2 ⟨k, j, hd h2, h2⟩
    · rw [(M.inv i j).1 ht] at h1; cases h1
  · obtain ⟨k, hk⟩ := Dr.chm1 i j a b ht ha hb h
    exact (L.H i).2 ⟨k, j, hd hk, hk⟩
  · obtain ⟨k, hk⟩ := Dr.new1 j hj hf
    rcases Dr.cm1 j k hk with ⟨i, h, _⟩ | ⟨_, _, h⟩
    · rw [hf] at h; cases h
    · refine (L.C j).2 ⟨k, ?_, h⟩
      rcases h with h | h | ⟨q, h⟩
      · exact hd h
      · exact hd h
      · exact hd h
end
end Go.Proofs.YtpjjagalekolaaaGreatDoor

