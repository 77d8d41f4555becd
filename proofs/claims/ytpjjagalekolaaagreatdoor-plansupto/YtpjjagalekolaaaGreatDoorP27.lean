/- GA, GB, GC: in one text. -/
import Derived.Lib.ItoaNum
import Derived.Test.YtpjjagalekolaaaGreatDoorP25FJ
import Derived.Test.YtpjjagalekolaaaGreatDoorP16
/- A plan, said plainly: which entries become which, and what stands in a volume on the way from one tree to the other. No program in this text. -/
namespace Go.Proofs.YtpjjagalekolaaaGreatDoor
open Go.RowKit
set_option linter.unusedVariables false
set_option linter.unusedSimpArgs false

/-- Two trees of which one is to become the other. -/
structure Pair (fold : Bool) (s t : List EntD) : Prop where
  vs : VolOk fold s
  vt : VolOk fold t
  ps : ∀ a ∈ s, pathL a.pl = true
  pt : ∀ b ∈ t, pathL b.pl = true
  ls : s.length ≤ 60
  lt : t.length ≤ 60
  sizes : ∀ a ∈ s, ∀ b ∈ t, a.dir = false → b.dir = false → a.id = b.id → a.size = b.size

/-- Which entries of s become which of t. -/
structure Mat (fold : Bool) (s t : List EntD) (to fr : Nat → Option Nat) : Prop where
  inv : ∀ i j, to i = some j ↔ fr j = some i
  bs : ∀ i j, to i = some j → i < s.length ∧ j < t.length
  kind : ∀ i j a b, to i = some j → s[i]? = some a → t[j]? = some b → a.dir = b.dir ∧ a.id = b.id
  place : ∀ i j a b, s[i]? = some a → t[j]? = some b → sameB fold a.pl b.pl = true → a.dir = b.dir → a.id = b.id → to i = some j
  away : ∀ i j a b, to i = some j → s[i]? = some a → t[j]? = some b → sameB fold a.pl b.pl = false → a.dir = false
  left : ∀ i j a b, s[i]? = some a → t[j]? = some b → fr j = none → b.dir = false → a.id = b.id → to i ≠ none

/-- The spare name of a number. -/
def spN (n : Nat) : BL := 126 :: Lib.itoa n
theorem spN_all : (List.range 100).all (fun n => spareL (spN n)) = true := by kernel_rfl
theorem spN_dist : (List.range 100).all (fun n => (List.range 100).all fun m => !(spN n == spN m) || n == m) = true := by kernel_rfl
theorem spN_low : (List.range 100).all (fun n => (spN n).all fun c => decide (c.toNat < 65) || c == 126) = true := by kernel_rfl
theorem spN_spare {n : Nat} (h : n < 100) : spareL (spN n) = true := List.all_eq_true.1 spN_all n (List.mem_range.2 h)
theorem spN_inj {n m : Nat} (hn : n < 100) (hm : m < 100) (h : spN n = spN m) : n = m := by
  have := List.all_eq_true.1 (List.all_eq_true.1 spN_dist n (List.mem_range.2 hn)) m (List.mem_range.2 hm)
  simpa [h] using this
theorem fold_low {c d : UInt8} (h : foldB c = d) (hd : d.toNat < 65 ∨ d = 126) : c = d := by
  unfold foldB at h
  split at h
  · rename_i hc
    have e : (c + 32).toNat = c.toNat + 32 := by
      rw [UInt8.toNat_add]
      have : (32 : UInt8).toNat = 32 := rfl
      omega
    rcases hd with hd | hd
    · rw [← h, e] at hd; omega
    · rw [hd] at h
      have := congrArg UInt8.toNat h
      rw [e] at this
      have h126 : (126 : UInt8).toNat = 126 := rfl
      omega
  · exact h
theorem map_low : ∀ (p q : BL), p.map foldB = q → (∀ d ∈ q, d.toNat < 65 ∨ d = 126) → p = q
  | [], q, h, _ => by simpa using h
  | c :: p, [], h, _ => by simp at h
  | c :: p, d :: q, h, hq => by
    simp only [List.map_cons, List.cons.injEq] at h
    rw [fold_low h.1 (hq d (by simp)), map_low p q h.2 (fun x hx => hq x (by simp [hx]))]
theorem spN_same {fold : Bool} {n : Nat} {p : BL} (hn : n < 100) (h : sameB fold p (spN n) = true) : p = spN n := by
  have low : ∀ d ∈ spN n, d.toNat < 65 ∨ d = 126 := fun d hd => by
    have := List.all_eq_true.1 (List.all_eq_true.1 spN_low n (List.mem_range.2 hn)) d hd
    simpa using this
  cases fold with
  | false => simpa [sameB] using h
  | true =>
    have e : p.map foldB = (spN n).map foldB := by simpa [sameB] using h
    have e2 : (spN n).map foldB = spN n := by
      conv => rhs; rw [← List.map_id (spN n)]
      refine List.map_congr_left (fun c hc => ?_)
      unfold foldB
      rw [if_neg]
      · rfl
      · rcases low c hc with h | h
        · omega
        · rw [h]; decide
    exact map_low p _ (e.trans e2) low
theorem spN_path {fold : Bool} {n : Nat} {p : BL} (hn : n < 100) (hp : pathL p = true) : sameB fold p (spN n) = false := by
  cases h : sameB fold p (spN n) with
  | false => rfl
  | true =>
    have := spN_same hn h
    have h1 := (pathL_nms hp).1
    rw [this, spare_not_nms (spN_spare hn)] at h1
    cases h1

/-- What is done: taken away, renamed, its mode changed, put aside, made; and how many spare names are used. -/
structure PS where
  D : Nat → Prop
  R : Nat → Prop
  H : Nat → Prop
  A : Nat → Option Nat
  C : List Nat
  N : Nat

section
variable {fold : Bool} {s t : List EntD} {to fr : Nat → Option Nat}

theorem getE {l : List EntD} {i : Nat} {a : EntD} (h : l[i]? = some a) : a ∈ l := List.mem_of_getElem? h
theorem idx_one {l : List EntD} (V : VolOk fold l) {i j : Nat} {a b : EntD} (h1 : l[i]? = some a) (h2 : l[j]? = some b) (h : sameB fold a.pl b.pl = true) : i = j := by
  obtain ⟨hi, rfl⟩ := List.getElem?_eq_some_iff.1 h1
  obtain ⟨hj, rfl⟩ := List.getElem?_eq_some_iff.1 h2
  exact V.srt.inj i j hi hj (congrArg EntD.pl (V.one _ (List.getElem_mem hi) _ (List.getElem_mem hj) h))
theorem dir0 {l : List EntD} (V : VolOk fold l) {a : EntD} (h : a ∈ l) (hd : a.dir = true) : a.id = 0 ∧ a.size = 0 := by
  obtain ⟨_, _, f⟩ := fieldsB_true _ (V.fields a h)
  rcases f with ⟨_, h1, h2⟩ | ⟨h, _⟩
  · exact ⟨h1, h2⟩
  · rw [hd] at h; cases h
theorem atI_mem {V : List EntD} (K : VolOk fold V) {e : EntD} (he : e ∈ V) {p : BL} (hs : sameB fold e.pl p = true) : V[atI fold V p]? = some e := by
  have hlt : atI fold V p < V.length := List.findIdx_lt_length_of_exists ⟨e, he, hs⟩
  rw [List.getElem?_eq_getElem hlt]
  have h1 := List.findIdx_getElem (p := isAt fold p) (w := hlt)
  have h2 : sameB fold V[atI fold V p].pl p = true := h1
  rw [K.one _ (List.getElem_mem hlt) e he (sameB_trans h2 (sameB_symm hs))]
theorem place_top {V : List EntD} {q : BL} (h : parentL q = []) : placeL fold V q = some q := by unfold placeL; rw [if_pos h]
theorem place_in {V : List EntD} (K : VolOk fold V) {p : EntD} {q : BL} (hp : p ∈ V) (hd : p.dir = true) (hs : sameB fold p.pl (parentL q) = true) (hq : parentL q ≠ []) : placeL fold V q = some (p.pl ++ 47 :: lastL q) := by
  unfold placeL atP
  rw [if_neg hq]
  cases hf : V.find? (fun o => sameB fold o.pl (parentL q)) with
  | none =>
    have := List.find?_eq_none.1 hf p hp
    rw [hs] at this
    exact absurd rfl this
  | some o =>
    have h1 : sameB fold o.pl (parentL q) = true := List.find?_some (p := fun o : EntD => sameB fold o.pl (parentL q)) hf
    have := K.one o (List.mem_of_find?_eq_some hf) p hp (sameB_trans h1 (sameB_symm hs))
    subst this
    simp only
    rw [if_pos hd]
/-- Where there is a place for a path, what is put there has its last name. -/
theorem place_last {V : List EntD} {q r : BL} (h : placeL fold V q = some r) : lastL r = lastL q := by
  rcases placeL_some h with ⟨_, rfl⟩ | ⟨_, o, _, _, _, rfl⟩
  · rfl
  · exact lastL_cut _ _ (lastL_no47 q)
theorem child_of {V : List EntD} (K : VolOk fold V) {q : BL} (hq : q ≠ []) : ∀ (n : Nat) (x : EntD), x.pl.length ≤ n → x ∈ V → belowL false x.pl q = true → ∃ y ∈ V, parentL y.pl = q
  | 0, x, hn, hx, hb => by
    obtain ⟨r, hr⟩ := (belowL_false _ _).1 hb
    rw [hr] at hn
    simp at hn
  | n + 1, x, hn, hx, hb => by
    obtain ⟨r, hr⟩ := (belowL_false _ _).1 hb
    rcases last_cut r with h | ⟨u, v, rfl, hv⟩
    · exact ⟨x, hx, by rw [hr]; exact parentL_cut _ _ h⟩
    · have hp : parentL x.pl = q ++ 47 :: u := by
        rw [hr, show q ++ 47 :: (u ++ 47 :: v) = (q ++ 47 :: u) ++ 47 :: v by simp]
        exact parentL_cut _ _ hv
      obtain ⟨p, hpm, _, hpp⟩ := K.par x hx (by rw [hp]; simp)
      refine child_of K hq n p ?_ hpm ((belowL_false _ _).2 ⟨u, by rw [hpp, hp]⟩)
      rw [hpp, hp]
      rw [hr] at hn
      simp at hn ⊢
      omega

def MdOk (H : Nat → Prop) (i : Nat) (a b e : EntD) : Prop := (H i → e.mode = b.mode) ∧ (¬ H i → e.mode = a.mode)
def Fld (e a : EntD) : Prop := e.dir = a.dir ∧ e.id = a.id ∧ e.size = a.size
def Nxt (fold : Bool) (e a : EntD) : Prop := sameB fold e.pl a.pl = true ∧ lastL e.pl = lastL a.pl
/-- Which thing an entry of a volume is: number i of s (inl), as it stands by what is done; or number j of t (inr), made anew. -/
inductive Th (fold : Bool) (s t : List EntD) (to : Nat → Option Nat) (p : PS) : Nat ⊕ Nat → EntD → Prop
  | stay (i : Nat) (a e : EntD) (hs : s[i]? = some a) (ht : to i = none) (hd : ¬ p.D i) (hf : Fld e a) (hm : e.mode = a.mode) (hn : Nxt fold e a) : Th fold s t to p (.inl i) e
  | here (i j : Nat) (a b e : EntD) (hs : s[i]? = some a) (ht : to i = some j) (hb : t[j]? = some b) (hr : ¬ p.R i) (ha : p.A i = none) (hf : Fld e a) (hm : MdOk p.H i a b e) (hn : Nxt fold e a) : Th fold s t to p (.inl i) e
  | come (i j : Nat) (a b e : EntD) (hs : s[i]? = some a) (ht : to i = some j) (hb : t[j]? = some b) (hr : p.R i) (hf : Fld e a) (hm : MdOk p.H i a b e) (hn : Nxt fold e b) : Th fold s t to p (.inl i) e
  | asid (i j n : Nat) (a b e : EntD) (hs : s[i]? = some a) (ht : to i = some j) (hb : t[j]? = some b) (hr : ¬ p.R i) (ha : p.A i = some n) (hf : Fld e a) (hm : MdOk p.H i a b e) (hn : e.pl = spN n) : Th fold s t to p (.inl i) e
  | anew (j : Nat) (b e : EntD) (hb : t[j]? = some b) (hc : j ∈ p.C) (hf : Fld e b) (hm : e.mode = b.mode) (hn : Nxt fold e b) : Th fold s t to p (.inr j) e
def Live (s : List EntD) (to : Nat → Option Nat) (p : PS) : Nat ⊕ Nat → Prop
  | .inl i => i < s.length ∧ ¬ (to i = none ∧ p.D i)
  | .inr j => j ∈ p.C

/-- What a volume holds on the way. -/
structure Inv (fold : Bool) (s t : List EntD) (to fr : Nat → Option Nat) (p : PS) (V : List EntD) : Prop where
  vol : VolOk fold V
  all : ∀ e ∈ V, ∃ x, Th fold s t to p x e
  has : ∀ x, Live s to p x → ∃ e ∈ V, Th fold s t to p x e
  uniq : ∀ e ∈ V, ∀ x y, Th fold s t to p x e → Th fold s t to p y e → x = y
  aside : ∀ i n, p.A i = some n → n < p.N ∧ ∃ j a b, to i = some j ∧ s[i]? = some a ∧ t[j]? = some b ∧ sameB fold a.pl b.pl = false
  sep : ∀ i i' n, p.A i = some n → p.A i' = some n → i = i'
  made : p.C.Nodup ∧ ∀ j ∈ p.C, fr j = none ∧ j < t.length
  few : V.length ≤ s.length + p.C.length
  nm : p.N ≤ 100

theorem Th.live {p : PS} {x : Nat ⊕ Nat} {e : EntD} (h : Th fold s t to p x e) : Live s to p x := by
  cases h with
  | stay i a e hs ht hd => exact ⟨(List.getElem?_eq_some_iff.1 hs).1, fun h => hd h.2⟩
  | here i j a b e hs ht => exact ⟨(List.getElem?_eq_some_iff.1 hs).1, fun h => by rw [ht] at h; cases h.1⟩
  | come i j a b e hs ht => exact ⟨(List.getElem?_eq_some_iff.1 hs).1, fun h => by rw [ht] at h; cases h.1⟩
  | asid i j n a b e hs ht => exact ⟨(List.getElem?_eq_some_iff.1 hs).1, fun h => by rw [ht] at h; cases h.1⟩
  | anew j b e hb hc => exact hc
theorem som {α : Type} {o : Option α} {a b : α} (h1 : o = some a) (h2 : o = some b) : a = b := Option.some.inj (h1.symm.trans h2)
/-- One thing stands at one place. -/
theorem Th.same {p : PS} {x : Nat ⊕ Nat} {e e' : EntD} (h : Th fold s t to p x e) (h' : Th fold s t to p x e') : sameB fold e.pl e'.pl = true := by
  cases h with
  | stay i a e hs ht hd hf hm hn =>
    cases h' with
    | stay _ a' _ hs' _ _ _ _ hn' => rw [som hs' hs] at hn'; exact sameB_trans hn.1 (sameB_symm hn'.1)
    | here _ _ _ _ _ _ ht' => rw [ht] at ht'; cases ht'
    | come _ _ _ _ _ _ ht' => rw [ht] at ht'; cases ht'
    | asid _ _ _ _ _ _ _ ht' => rw [ht] at ht'; cases ht'
  | here i j a b e hs ht hb hr ha hf hm hn =>
    cases h' with
    | stay _ _ _ _ ht' => rw [ht] at ht'; cases ht'
    | here _ _ a' _ _ hs' _ _ _ _ _ _ hn' => rw [som hs' hs] at hn'; exact sameB_trans hn.1 (sameB_symm hn'.1)
    | come _ _ _ _ _ _ _ _ hr' => exact absurd hr' hr
    | asid _ _ _ _ _ _ _ _ _ _ ha' => rw [ha] at ha'; cases ha'
  | come i j a b e hs ht hb hr hf hm hn =>
    cases h' with
    | stay _ _ _ _ ht' => rw [ht] at ht'; cases ht'
    | here _ _ _ _ _ _ _ _ hr' => exact absurd hr hr'
    | come _ j' _ b' _ _ ht' hb' _ _ _ hn' =>
      obtain rfl := som ht' ht
      rw [som hb' hb] at hn'
      exact sameB_trans hn.1 (sameB_symm hn'.1)
    | asid _ _ _ _ _ _ _ _ _ hr' => exact absurd hr hr'
  | asid i j n a b e hs ht hb hr ha hf hm hn =>
    cases h' with
    | stay _ _ _ _ ht' => rw [ht] at ht'; cases ht'
    | here _ _ _ _ _ _ _ _ _ ha' => rw [ha] at ha'; cases ha'
    | come _ _ _ _ _ _ _ _ hr' => exact absurd hr' hr
    | asid _ _ n' _ _ _ _ _ _ _ ha' _ _ hn' =>
      obtain rfl := som ha' ha
      rw [hn, hn']; exact sameB_refl _ _
  | anew j b e hb hc hf hm hn =>
    cases h' with
    | anew _ b' _ hb' _ _ _ hn' => rw [som hb' hb] at hn'; exact sameB_trans hn.1 (sameB_symm hn'.1)

def PS.start : PS := ⟨fun _ => False, fun _ => False, fun _ => False, fun _ => none, [], 0⟩
theorem Inv.begin (P : Pair fold s t) (M : Mat fold s t to fr) : Inv fold s t to fr PS.start s where
  vol := P.vs
  all := fun e he => by
    obtain ⟨i, hi⟩ := List.mem_iff_getElem?.1 he
    refine ⟨.inl i, ?_⟩
    cases ht : to i with
    | none => exact .stay i e e hi ht (fun h => h) ⟨rfl, rfl, rfl⟩ rfl ⟨sameB_refl _ _, rfl⟩
    | some j =>
      exact .here i j e _ e hi ht (List.getElem?_eq_getElem (M.bs i j ht).2) (fun h => h) rfl ⟨rfl, rfl, rfl⟩ ⟨fun h => h.elim, fun _ => rfl⟩ ⟨sameB_refl _ _, rfl⟩
  has := fun x hx => by
    cases x with
    | inr j => cases hx
    | inl i =>
      obtain ⟨a, hi⟩ : ∃ a, s[i]? = some a := ⟨_, List.getElem?_eq_getElem hx.1⟩
      clear hx
      refine ⟨a, getE hi, ?_⟩
      cases ht : to i with
      | none => exact .stay i _ _ hi ht (fun h => h) ⟨rfl, rfl, rfl⟩ rfl ⟨sameB_refl _ _, rfl⟩
      | some j =>
        exact .here i j _ _ _ hi ht (List.getElem?_eq_getElem (M.bs i j ht).2) (fun h => h) rfl ⟨rfl, rfl, rfl⟩ ⟨fun h => h.elim, fun _ => rfl⟩ ⟨sameB_refl _ _, rfl⟩
  uniq := fun e he x y hx hy => by
    have key : ∀ x, Th fold s t to PS.start x e → ∃ i a, x = .inl i ∧ s[i]? = some a ∧ sameB fold e.pl a.pl = true := fun x hx => by
      cases hx with
      | stay i a e hs ht hd hf hm hn => exact ⟨i, a, rfl, hs, hn.1⟩
      | here i j a b e hs ht hb hr ha hf hm hn => exact ⟨i, a, rfl, hs, hn.1⟩
      | come i j a b e hs ht hb hr => exact hr.elim
      | asid i j n a b e hs ht hb hr ha => cases ha
      | anew j b e hb hc => cases hc
    obtain ⟨i, a, rfl, h1, h2⟩ := key x hx
    obtain ⟨i', a', rfl, h1', h2'⟩ := key y hy
    rw [idx_one P.vs h1 h1' (sameB_trans (sameB_symm h2) h2')]
  aside := fun i n h => by cases h
  sep := fun i i' n h => by cases h
  made := ⟨List.nodup_nil, fun j h => by cases h⟩
  few := by simp [PS.start]
  nm := by simp [PS.start]
end
end Go.Proofs.YtpjjagalekolaaaGreatDoor

/- A plan, said plainly: how what a volume holds changes. No program in this text. -/
namespace Go.Proofs.YtpjjagalekolaaaGreatDoor
open Go.RowKit
set_option linter.unusedVariables false
set_option linter.unusedSimpArgs false

section
variable {fold : Bool} {s t : List EntD} {to fr : Nat → Option Nat} {p p' : PS} {V V' : List EntD}

theorem Th.other {x : Nat ⊕ Nat} {e : EntD} (h : Th fold s t to p x e) (h1 : ∀ i, x = .inl i → (p'.D i → p.D i) ∧ (p'.R i ↔ p.R i) ∧ (p'.H i ↔ p.H i) ∧ p'.A i = p.A i) (h2 : ∀ j, x = .inr j → j ∈ p.C → j ∈ p'.C) : Th fold s t to p' x e := by
  cases h with
  | stay i a e hs ht hd hf hm hn => exact .stay i a e hs ht (fun h => hd ((h1 i rfl).1 h)) hf hm hn
  | here i j a b e hs ht hb hr ha hf hm hn =>
    obtain ⟨_, g2, g3, g4⟩ := h1 i rfl
    exact .here i j a b e hs ht hb (fun h => hr (g2.1 h)) (g4.trans ha) hf ⟨fun h => hm.1 (g3.1 h), fun h => hm.2 (fun h' => h (g3.2 h'))⟩ hn
  | come i j a b e hs ht hb hr hf hm hn =>
    obtain ⟨_, g2, g3, g4⟩ := h1 i rfl
    exact .come i j a b e hs ht hb (g2.2 hr) hf ⟨fun h => hm.1 (g3.1 h), fun h => hm.2 (fun h' => h (g3.2 h'))⟩ hn
  | asid i j n a b e hs ht hb hr ha hf hm hn =>
    obtain ⟨_, g2, g3, g4⟩ := h1 i rfl
    exact .asid i j n a b e hs ht hb (fun h => hr (g2.1 h)) (g4.trans ha) hf ⟨fun h => hm.1 (g3.1 h), fun h => hm.2 (fun h' => h (g3.2 h'))⟩ hn
  | anew j b e hb hc hf hm hn => exact .anew j b e hb (h2 j rfl hc) hf hm hn
/-- A thing may be written with other names above its last one. -/
theorem Th.moved {x : Nat ⊕ Nat} {e e' : EntD} (h : Th fold s t to p x e) (h1 : sameB fold e'.pl e.pl = true) (h2 : lastL e'.pl = lastL e.pl) (h3 : Fld e' e) (h4 : e'.mode = e.mode) (h5 : ∀ n, n < 100 → e.pl = spN n → e'.pl = e.pl) (hA : ∀ i n, p.A i = some n → n < 100) : Th fold s t to p x e' := by
  have fl : ∀ {a : EntD}, Fld e a → Fld e' a := fun ⟨g1, g2, g3⟩ => ⟨h3.1.trans g1, h3.2.1.trans g2, h3.2.2.trans g3⟩
  have nx : ∀ {a : EntD}, Nxt fold e a → Nxt fold e' a := fun ⟨g1, g2⟩ => ⟨sameB_trans h1 g1, h2.trans g2⟩
  have md : ∀ {i : Nat} {a b : EntD}, MdOk p.H i a b e → MdOk p.H i a b e' := fun ⟨g1, g2⟩ => ⟨fun h => h4.trans (g1 h), fun h => h4.trans (g2 h)⟩
  cases h with
  | stay i a e hs ht hd hf hm hn => exact .stay i a _ hs ht hd (fl hf) (h4.trans hm) (nx hn)
  | here i j a b e hs ht hb hr ha hf hm hn => exact .here i j a b _ hs ht hb hr ha (fl hf) (md hm) (nx hn)
  | come i j a b e hs ht hb hr hf hm hn => exact .come i j a b _ hs ht hb hr (fl hf) (md hm) (nx hn)
  | asid i j n a b e hs ht hb hr ha hf hm hn => exact .asid i j n a b _ hs ht hb hr ha (fl hf) (md hm) ((h5 n (hA i n ha) hn).trans hn)
  | anew j b e hb hc hf hm hn => exact .anew j b _ hb hc (fl hf) (h4.trans hm) (nx hn)

theorem Inv.map (I : Inv fold s t to fr p V) (f : EntD → EntD) (K : VolOk fold V') (hm : ∀ e', e' ∈ V' ↔ ∃ e ∈ V, f e = e') (hl : V'.length = V.length) (hinj : ∀ x ∈ V, ∀ y ∈ V, sameB fold (f x).pl (f y).pl = true → x = y) (hT : ∀ e ∈ V, ∀ x, Th fold s t to p x e → Th fold s t to p' x (f e)) (hD : p'.D = p.D) (hC : p'.C = p.C)
    (ha : ∀ i n, p'.A i = some n → n < p'.N ∧ ∃ j a b, to i = some j ∧ s[i]? = some a ∧ t[j]? = some b ∧ sameB fold a.pl b.pl = false) (hs : ∀ i i' n, p'.A i = some n → p'.A i' = some n → i = i') (hN : p'.N ≤ 100) : Inv fold s t to fr p' V' := by
  have live : ∀ x, Live s to p' x → Live s to p x := fun x hx => by
    cases x with
    | inl i => rw [Live] at hx ⊢; rw [hD] at hx; exact hx
    | inr j => rw [Live] at hx ⊢; rw [hC] at hx; exact hx
  have back : ∀ e ∈ V, ∀ x, Th fold s t to p' x (f e) → Th fold s t to p x e := fun e he x hx => by
    obtain ⟨e1, he1, h1⟩ := I.has x (live x hx.live)
    rw [← hinj e1 he1 e he ((hT e1 he1 x h1).same hx)]
    exact h1
  refine ⟨K, fun e' he' => ?_, fun x hx => ?_, fun e' he' x y hx hy => ?_, ha, hs, by rw [hC]; exact I.made, by rw [hl, hC]; exact I.few, hN⟩
  · obtain ⟨e, he, rfl⟩ := (hm e').1 he'
    obtain ⟨x, hx⟩ := I.all e he
    exact ⟨x, hT e he x hx⟩
  · obtain ⟨e, he, h⟩ := I.has x (live x hx)
    exact ⟨f e, (hm _).2 ⟨e, he, rfl⟩, hT e he x h⟩
  · obtain ⟨e, he, rfl⟩ := (hm e').1 he'
    exact I.uniq e he x y (back e he x hx) (back e he y hy)

theorem Inv.grow (I : Inv fold s t to fr p V) {j : Nat} {e0 : EntD} (K : VolOk fold V') (hm : ∀ e', e' ∈ V' ↔ e' = e0 ∨ e' ∈ V) (hl : V'.length = V.length + 1) (hfree : ∀ e ∈ V, sameB fold e.pl e0.pl = false) (hj : j ∉ p.C) (hfr : fr j = none) (hlt : j < t.length) (h0 : Th fold s t to { p with C := j :: p.C } (.inr j) e0) : Inv fold s t to fr { p with C := j :: p.C } V' := by
  have fwd : ∀ x e, Th fold s t to p x e → Th fold s t to { p with C := j :: p.C } x e := fun x e h => h.other (fun i _ => ⟨fun h => h, Iff.rfl, Iff.rfl, rfl⟩) (fun k _ hk => List.mem_cons_of_mem _ hk)
  have bwd : ∀ x e, x ≠ .inr j → Th fold s t to { p with C := j :: p.C } x e → Th fold s t to p x e := fun x e hx h => h.other (fun i _ => ⟨fun h => h, Iff.rfl, Iff.rfl, rfl⟩) (fun k hk hc => by
    rcases List.mem_cons.1 hc with rfl | hc
    · exact absurd hk hx
    · exact hc)
  have lv : ∀ x, x ≠ .inr j → Live s to { p with C := j :: p.C } x → Live s to p x := fun x hx h => by
    cases x with
    | inl i => exact h
    | inr k =>
      rcases List.mem_cons.1 (show k ∈ j :: p.C from h) with rfl | hc
      · exact absurd rfl hx
      · exact hc
  have only : ∀ x, Th fold s t to { p with C := j :: p.C } x e0 → x = .inr j := fun x hx => by
    by_cases hxj : x = .inr j
    · exact hxj
    · obtain ⟨e1, he1, h1⟩ := I.has x (lv x hxj hx.live)
      have := (fwd x e1 h1).same hx
      rw [hfree e1 he1] at this
      cases this
  refine ⟨K, fun e' he' => ?_, fun x hx => ?_, fun e' he' x y hx hy => ?_, I.aside, I.sep, ⟨List.nodup_cons.2 ⟨hj, I.made.1⟩, fun k hk => ?_⟩, ?_, I.nm⟩
  · rcases (hm e').1 he' with rfl | he
    · exact ⟨_, h0⟩
    · obtain ⟨x, hx⟩ := I.all e' he
      exact ⟨x, fwd x e' hx⟩
  · by_cases hxj : x = .inr j
    · subst hxj; exact ⟨e0, (hm _).2 (.inl rfl), h0⟩
    · obtain ⟨e, he, h⟩ := I.has x (lv x hxj hx)
      exact ⟨e, (hm _).2 (.inr he), fwd x e h⟩
  · rcases (hm e').1 he' with rfl | he
    · rw [only x hx, only y hy]
    · have nj : ∀ x, Th fold s t to { p with C := j :: p.C } x e' → x ≠ .inr j := fun x hx e => by
        subst e
        have := hx.same h0
        rw [hfree e' he] at this
        cases this
      exact I.uniq e' he x y (bwd x e' (nj x hx) hx) (bwd y e' (nj y hy) hy)
  · rcases List.mem_cons.1 hk with rfl | hk
    · exact ⟨hfr, hlt⟩
    · exact I.made.2 k hk
  · have := I.few
    simp only [List.length_cons]
    omega

theorem Inv.cut (I : Inv fold s t to fr p V) {i : Nat} {e0 : EntD} (K : VolOk fold V') (he0 : e0 ∈ V) (hm : ∀ e', e' ∈ V' ↔ e' ∈ V ∧ e' ≠ e0) (hl : V'.length ≤ V.length) (h0 : Th fold s t to p (.inl i) e0) (ht : to i = none) : Inv fold s t to fr { p with D := fun k => p.D k ∨ k = i } V' := by
  have bwd : ∀ x e, Th fold s t to { p with D := fun k => p.D k ∨ k = i } x e → Th fold s t to p x e := fun x e h => by
    cases h with
    | stay k a e hs ht hd hf hm hn => exact .stay k a e hs ht (fun h => hd (.inl h)) hf hm hn
    | here k j a b e hs ht hb hr ha hf hm hn => exact .here k j a b e hs ht hb hr ha hf hm hn
    | come k j a b e hs ht hb hr hf hm hn => exact .come k j a b e hs ht hb hr hf hm hn
    | asid k j n a b e hs ht hb hr ha hf hm hn => exact .asid k j n a b e hs ht hb hr ha hf hm hn
    | anew j b e hb hc hf hm hn => exact .anew j b e hb hc hf hm hn
  have fwd : ∀ x e, x ≠ .inl i → Th fold s t to p x e → Th fold s t to { p with D := fun k => p.D k ∨ k = i } x e := fun x e hx h => by
    cases h with
    | stay k a e hs ht hd hf hm hn => exact .stay k a e hs ht (fun h => h.elim hd (fun e => hx (by rw [e]))) hf hm hn
    | here k j a b e hs ht hb hr ha hf hm hn => exact .here k j a b e hs ht hb hr ha hf hm hn
    | come k j a b e hs ht hb hr hf hm hn => exact .come k j a b e hs ht hb hr hf hm hn
    | asid k j n a b e hs ht hb hr ha hf hm hn => exact .asid k j n a b e hs ht hb hr ha hf hm hn
    | anew j b e hb hc hf hm hn => exact .anew j b e hb hc hf hm hn
  refine ⟨K, fun e' he' => ?_, fun x hx => ?_, fun e' he' x y hx hy => I.uniq e' ((hm e').1 he').1 x y (bwd x e' hx) (bwd y e' hy), I.aside, I.sep, I.made, Nat.le_trans hl I.few, I.nm⟩
  · obtain ⟨he, hne⟩ := (hm e').1 he'
    obtain ⟨x, hx⟩ := I.all e' he
    refine ⟨x, fwd x e' (fun e => hne ?_) hx⟩
    subst e
    exact I.vol.one e' he e0 he0 (hx.same h0)
  · have hxi : x ≠ .inl i := fun e => by
      subst e
      exact hx.2 ⟨ht, .inr rfl⟩
    have hx' : Live s to p x := by
      cases x with
      | inl k => exact ⟨hx.1, fun h => hx.2 ⟨h.1, .inl h.2⟩⟩
      | inr j => exact hx
    obtain ⟨e, he, h⟩ := I.has x hx'
    refine ⟨e, (hm e).2 ⟨he, fun e1 => hxi ?_⟩, fwd x e hxi h⟩
    subst e1
    exact I.uniq e he x _ h h0

/-- A thing of s has left its place. -/
def LeftS (fold : Bool) (s t : List EntD) (to : Nat → Option Nat) (p : PS) (i : Nat) : Prop :=
  (to i = none ∧ p.D i) ∨ ∃ j a b, to i = some j ∧ s[i]? = some a ∧ t[j]? = some b ∧ sameB fold a.pl b.pl = false ∧ (p.R i ∨ p.A i ≠ none)
theorem LeftS.not {i : Nat} {e : EntD} (h : LeftS fold s t to p i) : (to i = none → p.D i) ∧ (∀ j, to i = some j → p.R i ∨ p.A i ≠ none) := by
  rcases h with ⟨h1, h2⟩ | ⟨j, a, b, h1, _, _, _, h2⟩
  · exact ⟨fun _ => h2, fun j h => (by rw [h1] at h; cases h)⟩
  · exact ⟨fun h => (by rw [h1] at h; cases h), fun _ _ => h2⟩

/-- Who may stand at the place of number j of t: that which becomes it. -/
theorem Inv.free (P : Pair fold s t) (I : Inv fold s t to fr p V) {j : Nat} {b : EntD} (hb : t[j]? = some b) (occ : ∀ i a, s[i]? = some a → sameB fold a.pl b.pl = true → to i = some j ∨ LeftS fold s t to p i) : ∀ e ∈ V, ∀ x, Th fold s t to p x e → sameB fold e.pl b.pl = true → (∃ i, x = .inl i ∧ to i = some j) ∨ x = .inr j := by
  intro e he x hx hs
  cases hx with
  | stay i a e hsi ht hd hf hm hn =>
    rcases occ i a hsi (sameB_trans (sameB_symm hn.1) hs) with h | h
    · exact .inl ⟨i, rfl, h⟩
    · exact absurd ((h.not (e := e)).1 ht) hd
  | here i j' a b' e hsi ht hb' hr ha hf hm hn =>
    rcases occ i a hsi (sameB_trans (sameB_symm hn.1) hs) with h | h
    · exact .inl ⟨i, rfl, h⟩
    · rcases (h.not (e := e)).2 j' ht with h | h
      · exact absurd h hr
      · exact absurd ha h
  | come i j' a b' e hsi ht hb' hr hf hm hn =>
    have := idx_one P.vt hb' hb (sameB_trans (sameB_symm hn.1) hs)
    subst this
    exact .inl ⟨i, rfl, ht⟩
  | asid i j' n a b' e hsi ht hb' hr ha hf hm hn =>
    rw [hn] at hs
    have := spN_path (fold := fold) (n := n) (by have := (I.aside i n ha).1; have := I.nm; omega) (P.pt b (getE hb))
    rw [sameB_comm] at this
    rw [this] at hs
    cases hs
  | anew j' b' e hb' hc hf hm hn =>
    have := idx_one P.vt hb' hb (sameB_trans (sameB_symm hn.1) hs)
    subst this
    exact .inr rfl

/-- The directory that number j of t lies in is there. -/
theorem Inv.above (P : Pair fold s t) (M : Mat fold s t to fr) (I : Inv fold s t to fr p V) {j : Nat} {b : EntD} (hb : t[j]? = some b) (mk : ∀ k c, t[k]? = some c → c.pl = parentL b.pl → fr k = none → k ∈ p.C) : ∃ r, placeL fold V b.pl = some r ∧ sameB fold r b.pl = true ∧ lastL r = lastL b.pl := by
  suffices h : ∃ r, placeL fold V b.pl = some r by
    obtain ⟨r, hr⟩ := h
    exact ⟨r, hr, place_same hr, place_last hr⟩
  by_cases hp : parentL b.pl = []
  · exact ⟨_, place_top hp⟩
  · obtain ⟨c, hc, hcd, hcp⟩ := P.vt.par b (getE hb) hp
    obtain ⟨k, hk⟩ := List.mem_iff_getElem?.1 hc
    cases hf : fr k with
    | none =>
      obtain ⟨e, he, hx⟩ := I.has (.inr k) (mk k c hk hcp hf)
      cases hx with
      | anew _ c' _ hb' _ hf' _ hn =>
        rw [som hb' hk] at hf' hn
        exact ⟨_, place_in I.vol he (hf'.1.trans hcd) (by rw [← hcp]; exact hn.1) hp⟩
    | some i =>
      have ht := (M.inv i k).2 hf
      obtain ⟨a, ha⟩ : ∃ a, s[i]? = some a := ⟨_, List.getElem?_eq_getElem (M.bs i k ht).1⟩
      have had : a.dir = true := ((M.kind i k a c ht ha hk).1).trans hcd
      have hac : sameB fold a.pl c.pl = true := by
        cases h : sameB fold a.pl c.pl with
        | true => rfl
        | false =>
          have := M.away i k a c ht ha hk h
          rw [had] at this
          cases this
      obtain ⟨e, he, hx⟩ := I.has (.inl i) ⟨(M.bs i k ht).1, fun h => by rw [ht] at h; cases h.1⟩
      have key : e.dir = true ∧ sameB fold e.pl c.pl = true := by
        cases hx with
        | stay _ _ _ _ ht' => rw [ht] at ht'; cases ht'
        | here _ _ a' _ _ hs' _ _ _ _ hf' _ hn =>
          rw [som hs' ha] at hf' hn
          exact ⟨hf'.1.trans had, sameB_trans hn.1 hac⟩
        | come _ k' a' c' _ hs' ht' hb' _ hf' _ hn =>
          obtain rfl := som ht' ht
          rw [som hb' hk] at hn
          rw [som hs' ha] at hf'
          exact ⟨hf'.1.trans had, hn.1⟩
        | asid _ _ n _ _ _ _ _ _ _ hA =>
          obtain ⟨_, j', a', b', h1, h2, h3, h4⟩ := I.aside i n hA
          obtain rfl := som h1 ht
          rw [som h2 ha, som h3 hk, hac] at h4
          cases h4
      exact ⟨_, place_in I.vol he key.1 (by rw [← hcp]; exact key.2) hp⟩
end
end Go.Proofs.YtpjjagalekolaaaGreatDoor

/- A plan, said plainly: the operations of a plan, one by one. No program in this text. -/
namespace Go.Proofs.YtpjjagalekolaaaGreatDoor
open Go.RowKit
set_option linter.unusedVariables false
set_option linter.unusedSimpArgs false

section
variable {fold : Bool} {s t : List EntD} {to fr : Nat → Option Nat} {p : PS} {V : List EntD} {sp : Int}

theorem do_del {o : OpD} {e : EntD} (h : V[atI fold V o.pl]? = some e) (hk : o.kind = 2 ∨ o.kind = 3) (hd : e.dir = decide (o.kind = 2)) (hb : (V.any fun x => belowL false x.pl e.pl) = false) : doL fold sp V o = .ok (V.eraseIdx (atI fold V o.pl)) := by
  unfold doL
  rw [if_neg (by omega), if_neg (by omega), h]
  simp only
  rw [if_neg (by omega), if_neg (by omega), if_neg (by simpa using hd), if_neg (by omega), if_neg (by rw [hb]; decide)]
theorem do_ren {o : OpD} {e : EntD} (h : V[atI fold V o.pl]? = some e) (hk : o.kind = 6) : doL fold sp V o = renL fold V e o.tl := by
  unfold doL
  rw [if_neg (by omega), if_neg (by omega), h]
  simp only
  rw [if_neg (by omega), if_pos hk]
theorem do_chm {o : OpD} {e : EntD} (h : V[atI fold V o.pl]? = some e) (hk : o.kind = 7) : doL fold sp V o = .ok (V.set (atI fold V o.pl) { e with mode := o.mode }) := by
  unfold doL
  rw [if_neg (by omega), if_neg (by omega), h]
  simp only
  rw [if_pos hk]
theorem do_cpy {o : OpD} {e : EntD} (h : V[atI fold V o.pl]? = some e) (hk : o.kind = 5) (hd : e.dir = false) : doL fold sp V o = mkL fold sp V ⟨o.dest, false, e.id, e.size, o.mode⟩ := by
  unfold doL
  rw [if_neg (by omega), if_neg (by omega), h]
  simp only
  rw [if_neg (by omega), if_neg (by omega), if_neg (by rw [hd]; simp; omega), if_pos hk]

theorem file_alone (K : VolOk fold V) {e x : EntD} (he : e ∈ V) (hd : e.dir = false) (hx : x ∈ V) (hm : mvB e.pl x.pl = true) : x = e := by
  obtain ⟨i, hi, rfl⟩ := List.mem_iff_getElem.1 he
  obtain ⟨r, h1, h2⟩ := (mvB_iff _ _).1 hm
  rcases h2 with rfl | ⟨r', rfl⟩
  · exact mem_eq_of_srt K.srt hx he (by simpa using h1)
  · have := file_leaf K hi hd
    rw [List.any_eq_false] at this
    exact absurd ((belowL_false _ _).2 ⟨r', h1⟩) (by simpa using this x hx)
theorem ren_all (K : VolOk fold V) {e : EntD} {q r : BL} (he : e ∈ V) (h1 : belowL fold q e.pl = false) (h2 : ∀ x ∈ V, sameB fold x.pl q = true → x = e) (h3 : placeL fold V q = some r) (hg : goodP q) (h4 : ∀ x ∈ V, badX e r x = false) :
    renL fold V e q = .ok (resR V e.pl r) ∧ VolOk fold (resR V e.pl r) ∧ (∀ e', e' ∈ resR V e.pl r ↔ ∃ x ∈ V, movP e.pl r x = e') ∧ (resR V e.pl r).length = V.length ∧ ∀ x ∈ V, ∀ y ∈ V, sameB fold (movP e.pl r x).pl (movP e.pl r y).pl = true → x = y := by
  have R : RenOk fold V e q r := ⟨he, h1, fun x hx hs => by rw [h2 x hx hs], h3, hg⟩
  have hb : V.any (badX e r) = false := by
    rw [List.any_eq_false]
    intro x hx
    rw [h4 x hx]; decide
  refine ⟨?_, ren_ok K R hb, fun e' => ?_, ?_, ren_one K R⟩
  · unfold renL
    rw [if_neg (by rw [h1]; decide), if_neg, h3]
    · simp only
      rw [if_neg (by rw [hb]; decide)]
    · intro h
      obtain ⟨x, hx, hh⟩ := List.any_eq_true.1 h
      rw [Bool.and_eq_true] at hh
      rw [h2 x hx hh.1] at hh
      simp at hh
  · rw [(res_perm _ _ _).mem_iff, List.mem_map]
  · rw [(res_perm _ _ _).length_eq, List.length_map]
theorem movP_self (e : EntD) (r : BL) : movP e.pl r e = e.withP r := by
  have := movP_go (e := e.pl) (p := r) (s := []) (o := e) (by simp) (.inl rfl)
  simpa using this
theorem lastL_app (u w : BL) : lastL (u ++ 47 :: w) = lastL w := by
  have h := spl_split u w
  rw [spl_last, spl_last w] at h
  have := congrArg List.getLast? h
  simpa [List.getLast?_append] using this
theorem withP_fld (e : EntD) (r : BL) : Fld (e.withP r) e ∧ (e.withP r).mode = e.mode := ⟨⟨rfl, rfl, rfl⟩, rfl⟩

theorem Inv.del (P : Pair fold s t) (M : Mat fold s t to fr) (I : Inv fold s t to fr p V) {i : Nat} {a : EntD} {o : OpD} (ha : s[i]? = some a) (ht : to i = none) (hD : ¬ p.D i) (hop : o.pl = a.pl) (hk : o.kind = if a.dir then 2 else 3)
    (ch : a.dir = true → ∀ k c, s[k]? = some c → parentL c.pl = a.pl → (∃ j b, to k = some j ∧ t[j]? = some b ∧ sameB fold c.pl b.pl = true) ∨ LeftS fold s t to p k) :
    ∃ V', doL fold sp V o = .ok V' ∧ Inv fold s t to fr { p with D := fun k => p.D k ∨ k = i } V' := by
  obtain ⟨e0, he0, h0⟩ := I.has (.inl i) ⟨(List.getElem?_eq_some_iff.1 ha).1, fun h => hD h.2⟩
  have H0 := h0
  cases h0 with
  | here _ _ _ _ _ _ ht' => rw [ht] at ht'; cases ht'
  | come _ _ _ _ _ _ ht' => rw [ht] at ht'; cases ht'
  | asid _ _ _ _ _ _ _ ht' => rw [ht] at ht'; cases ht'
  | stay _ a' _ hs' _ _ hf hm hn =>
    rw [som hs' ha] at hf hn
    have hat := atI_mem I.vol he0 (p := o.pl) (by rw [hop]; exact hn.1)
    obtain ⟨hi, hie⟩ := List.getElem?_eq_some_iff.1 hat
    have hdd : e0.dir = decide (o.kind = 2) := by
      rw [hf.1, hk]
      cases a.dir <;> simp
    have hbel : (V.any fun x => belowL false x.pl e0.pl) = false := by
      cases hdir : a.dir with
      | false =>
        have := file_leaf I.vol hi (by rw [hie, hf.1, hdir])
        rwa [hie] at this
      | true =>
        have nokid : ∀ b ∈ t, sameB fold (parentL b.pl) e0.pl = true → False := fun b hb hsb => by
          have hne : parentL b.pl ≠ [] := fun e => by
            rw [e] at hsb
            have := sameB_length hsb
            exact pl_ne I.vol he0 (List.eq_nil_of_length_eq_zero this.symm)
          obtain ⟨c, hc, hcd, hcp⟩ := P.vt.par b hb hne
          obtain ⟨k, hk⟩ := List.mem_iff_getElem?.1 hc
          have hsa : sameB fold a.pl c.pl = true := by rw [hcp]; exact sameB_symm (sameB_trans hsb hn.1)
          have := M.place i k a c ha hk hsa (by rw [hdir, hcd]) (by rw [(dir0 P.vs (getE ha) hdir).1, (dir0 P.vt hc hcd).1])
          rw [ht] at this
          cases this
        rw [List.any_eq_false]
        intro x hx hb
        obtain ⟨y, hy, hyp⟩ := child_of I.vol (pl_ne I.vol he0) _ x (Nat.le_refl _) hx (by simpa using hb)
        obtain ⟨z, hz⟩ := I.all y hy
        have child : ∀ (k : Nat) (c : EntD), s[k]? = some c → sameB fold y.pl c.pl = true → parentL c.pl = a.pl := fun k c hc hyc => by
          have h1 : sameB fold (parentL c.pl) a.pl = true := by
            have := same_parent hyc
            rw [hyp] at this
            exact sameB_trans (sameB_symm this) hn.1
          have hne : parentL c.pl ≠ [] := fun e => by
            rw [e] at h1
            have := sameB_length h1
            exact pl_ne P.vs (getE ha) (List.eq_nil_of_length_eq_zero this.symm)
          obtain ⟨q, hq, hqd, hqp⟩ := P.vs.par c (getE hc) hne
          rw [← hqp, P.vs.one q hq a (getE ha) (by rw [hqp]; exact h1)]
        have kid : ∀ (k : Nat) (c : EntD), s[k]? = some c → sameB fold y.pl c.pl = true → LeftS fold s t to p k := fun k c hc hyc => by
          rcases ch hdir k c hc (child k c hc hyc) with ⟨j, b, hj, hb, hcb⟩ | h
          · refine (nokid b (getE hb) ?_).elim
            have := same_parent (sameB_trans hyc hcb)
            rw [hyp] at this
            exact sameB_symm this
          · exact h
        have tkid : ∀ b ∈ t, sameB fold y.pl b.pl = true → False := fun b hb hyb => nokid b hb (by
          have := same_parent hyb
          rw [hyp] at this
          exact sameB_symm this)
        cases hz with
        | stay k c _ hc htk hdk _ _ hnk => exact hdk (((kid k c hc hnk.1).not (e := y)).1 htk)
        | here k j c b _ hc htk hb hr hA _ _ hnk =>
          rcases ((kid k c hc hnk.1).not (e := y)).2 j htk with h | h
          · exact hr h
          · exact h hA
        | come k j c b _ hc htk hb hr _ _ hnk => exact tkid b (getE hb) hnk.1
        | asid k j n c b _ hc htk hb hr hA _ _ hnk =>
          have hn100 : n < 100 := by have := (I.aside k n hA).1; have := I.nm; omega
          rw [hnk, parentL_none _ (spare_no47 (spN_spare hn100))] at hyp
          exact pl_ne I.vol he0 hyp.symm
        | anew j b _ hb _ _ _ hnk => exact tkid b (getE hb) hnk.1
    refine ⟨_, do_del hat (by rw [hk]; cases a.dir <;> simp) hdd hbel, I.cut (e0 := e0) (erase_ok I.vol hi (by rw [hie]; exact hbel)) he0 (fun e' => ⟨fun h => ?_, fun h => ?_⟩) (List.length_eraseIdx_le _ _) H0 ht⟩
    · have := mem_erase_ne I.vol.srt hi h
      rw [hie] at this
      exact this
    · exact mem_erase_of_ne hi h.1 (by rw [hie]; exact h.2)

theorem Inv.move (P : Pair fold s t) (M : Mat fold s t to fr) (I : Inv fold s t to fr p V) {i j : Nat} {a b : EntD} {o : OpD} (ha : s[i]? = some a) (hb : t[j]? = some b) (ht : to i = some j) (hmv : sameB fold a.pl b.pl = false) (hR : ¬ p.R i) (hk : o.kind = 6) (hop : (p.A i = none ∧ o.pl = a.pl) ∨ ∃ n, p.A i = some n ∧ o.pl = spN n) (hot : o.tl = b.pl)
    (occ : ∀ k c, s[k]? = some c → sameB fold c.pl b.pl = true → to k = some j ∨ LeftS fold s t to p k) (mk : ∀ k c, t[k]? = some c → c.pl = parentL b.pl → fr k = none → k ∈ p.C) :
    ∃ V', doL fold sp V o = .ok V' ∧ Inv fold s t to fr { p with R := fun k => p.R k ∨ k = i } V' := by
  obtain ⟨e0, he0, h0⟩ := I.has (.inl i) ⟨(List.getElem?_eq_some_iff.1 ha).1, fun h => by rw [ht] at h; cases h.1⟩
  obtain ⟨r, hr, hrs, hrl⟩ := I.above P M hb mk
  have hfa : Fld e0 a ∧ MdOk p.H i a b e0 ∧ sameB fold e0.pl o.pl = true := by
    cases h0 with
    | stay _ _ _ _ ht' => rw [ht] at ht'; cases ht'
    | here _ j' a' b' _ hs' ht' hb' _ hA hf hm hn =>
      obtain rfl := som ht' ht
      rw [som hs' ha] at hf hm hn
      rw [som hb' hb] at hm
      rcases hop with ⟨_, h⟩ | ⟨n, h, _⟩
      · exact ⟨hf, hm, by rw [h]; exact hn.1⟩
      · rw [hA] at h; cases h
    | come _ _ _ _ _ _ _ _ hr' => exact absurd hr' hR
    | asid _ j' n' a' b' _ hs' ht' hb' _ hA hf hm hn =>
      obtain rfl := som ht' ht
      rw [som hs' ha] at hf hm
      rw [som hb' hb] at hm
      rcases hop with ⟨h, _⟩ | ⟨n, h, h2⟩
      · rw [hA] at h; cases h
      · rw [som hA h] at hn
        exact ⟨hf, hm, by rw [h2, hn]; exact sameB_refl _ _⟩
  obtain ⟨hf, hmd, hsrc⟩ := hfa
  have hdir : e0.dir = false := hf.1.trans (M.away i j a b ht ha hb hmv)
  have hat := atI_mem I.vol he0 hsrc
  have own : ∀ x, Th fold s t to p (.inl i) x → x ∈ V → x = e0 := fun x hx hxV => I.vol.one x hxV e0 he0 (hx.same h0)
  have hfree : ∀ x ∈ V, sameB fold x.pl b.pl = true → x = e0 := fun x hx hs => by
    obtain ⟨y, hy⟩ := I.all x hx
    rcases I.free P hb occ x hx y hy hs with ⟨i', rfl, h⟩ | rfl
    · have := (M.inv i' j).1 h
      rw [(M.inv i j).1 ht] at this
      cases this
      exact own x hy hx
    · have := (I.made.2 j hy.live).1
      rw [(M.inv i j).1 ht] at this
      cases this
  have hbel : belowL fold b.pl e0.pl = false := by
    cases h : belowL fold b.pl e0.pl with
    | false => rfl
    | true =>
      obtain ⟨u, v, h1, h2⟩ := (belowL_iff _ _ _).1 h
      rw [h1] at hrs
      obtain ⟨u', v', rfl, h3, _⟩ := same_cut (sameB_symm hrs)
      have hue : sameB fold u' e0.pl = true := sameB_trans (sameB_symm h3) h2
      have fin : ∀ z ∈ V, z.dir = true → z.pl = u' → False := fun z hz hzd hzp => by
        have := I.vol.one z hz e0 he0 (by rw [hzp]; exact hue)
        rw [this, hdir] at hzd
        cases hzd
      rcases last_cut v' with hv | ⟨x, y, rfl, hy⟩
      · have hpu : parentL (u' ++ 47 :: v') = u' := parentL_cut _ _ hv
        obtain ⟨z, hz, hzd, hzp⟩ := place_par hr (by
          rw [hpu]
          intro e
          rw [e] at hue
          exact pl_ne I.vol he0 (List.eq_nil_of_length_eq_zero (sameB_length hue).symm))
        exact (fin z hz hzd (hzp.trans hpu)).elim
      · have hpu : parentL (u' ++ 47 :: (x ++ 47 :: y)) = u' ++ 47 :: x := by
          rw [show u' ++ 47 :: (x ++ 47 :: y) = (u' ++ 47 :: x) ++ 47 :: y by simp]
          exact parentL_cut _ _ hy
        obtain ⟨z, hz, hzd, hzp⟩ := place_par hr (by rw [hpu]; simp)
        obtain ⟨z', hz', hzd', hzp'⟩ := anc I.vol _ z u' x rfl hz (hzp.trans hpu)
        exact (fin z' hz' hzd' hzp').elim
  have hbad : ∀ x ∈ V, badX e0 r x = false := fun x hx => by
    unfold badX
    cases hmx : mvB e0.pl x.pl with
    | false => rfl
    | true =>
      obtain rfl := file_alone I.vol he0 hdir hx hmx
      rw [hdir, List.drop_length, List.append_nil, same_cnt hrs]
      have := (pathL_nms (P.pt b (getE hb))).2
      simp; omega
  obtain ⟨h1, h2, h3, h4, h5⟩ := ren_all I.vol he0 hbel hfree hr (.inl (P.pt b (getE hb))) hbad
  refine ⟨_, by rw [do_ren hat hk, hot, h1], I.map (movP e0.pl r) h2 h3 h4 h5 (fun e he x hx => ?_) rfl rfl I.aside I.sep I.nm⟩
  by_cases hee : e = e0
  · subst hee
    obtain rfl := I.uniq e he x _ hx h0
    rw [movP_self]
    exact .come i j a b _ ha ht hb (.inr rfl) ⟨hf.1, hf.2.1, hf.2.2⟩ ⟨fun h => hmd.1 h, fun h => hmd.2 h⟩ ⟨by rw [pl_withP]; exact hrs, by rw [pl_withP]; exact hrl⟩
  · have hst : mvB e0.pl e.pl = false := by
      cases hmx : mvB e0.pl e.pl with
      | false => rfl
      | true => exact absurd (file_alone I.vol he0 hdir he hmx) hee
    rw [movP_stay hst]
    refine hx.other (fun k hk => ⟨fun h => h, ⟨fun h => ?_, fun h => .inl h⟩, Iff.rfl, rfl⟩) (fun k _ h => h)
    rcases h with h | rfl
    · exact h
    · subst hk
      exact absurd (own e hx he) hee
end
end Go.Proofs.YtpjjagalekolaaaGreatDoor

