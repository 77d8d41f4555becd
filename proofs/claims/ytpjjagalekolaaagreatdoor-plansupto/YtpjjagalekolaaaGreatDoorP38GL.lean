/- The steps of a plan as they are drawn up: who waits for whom, and how many. No program in this text. -/
import Derived.Test.YtpjjagalekolaaaGreatDoorP37
namespace Go.Proofs.YtpjjagalekolaaaGreatDoor
open Go.RowKit
set_option linter.unusedVariables false
set_option linter.unusedSimpArgs false

/-- No step is there without need. -/
def NeedS (fold : Bool) (s t : List EntD) (ms : List Mean) : Prop := (∀ (k i j : Nat) (a b : EntD), ms[k]? = some (Mean.ren i j) → s[i]? = some a → t[j]? = some b → sameB fold a.pl b.pl = false ∨ lastL a.pl ≠ lastL b.pl) ∧ ∀ (k i j : Nat) (a b : EntD), ms[k]? = some (Mean.chm i j) → s[i]? = some a → t[j]? = some b → a.mode ≠ b.mode
/-- All steps are there; e: of s, those that go behind what is in them; p1, p2: of t, those that come behind what stands in their place, and behind what they come into. -/
structure DB (fold : Bool) (s t : List EntD) (to fr : Nat → Option Nat) (ms : List Mean) (lv cm : Nat → Option Nat) (fd md : Nat → List Nat) (e p1 p2 : Nat) : Prop where
  A : ∃ md0, DA fold s t to fr ms lv cm md0 s.length s.length s.length t.length t.length
  fdI : ∀ x y, y ∈ fd x ↔ (∃ i q a c, i < e ∧ s[q]? = some a ∧ s[i]? = some c ∧ parentL c.pl = a.pl ∧ lv q = some y ∧ lv i = some x) ∨ (∃ i j a b, j < p1 ∧ s[i]? = some a ∧ t[j]? = some b ∧ sameB fold a.pl b.pl = true ∧ cm j = some y ∧ lv i = some x)
  mdI : ∀ x y, y ∈ md x ↔ EdgeA ms cm x y ∨ (∃ j q b c, j < p2 ∧ t[j]? = some b ∧ t[q]? = some c ∧ c.pl = parentL b.pl ∧ cm j = some y ∧ cm q = some x)
section
variable {fold : Bool} {s t : List EntD} {to fr : Nat → Option Nat} {ms : List Mean} {lv cm : Nat → Option Nat} {fd md : Nat → List Nat} {e p1 p2 : Nat}
theorem DB.start (h : DA fold s t to fr ms lv cm md s.length s.length s.length t.length t.length) : DB fold s t to fr ms lv cm (fun _ => []) md 0 0 0 where
  A := ⟨md, h⟩
  fdI := fun x y => by
    constructor
    · intro h; cases h
    · rintro (⟨i, q, a, c, h, _⟩ | ⟨i, j, a, b, h, _⟩) <;> omega
  mdI := fun x y => by
    rw [h.mdI]
    constructor
    · exact .inl
    · rintro (h | ⟨j, q, b, c, h, _⟩)
      · exact h
      · omega
theorem DB.skipE (h : DB fold s t to fr ms lv cm fd md e p1 p2) (hno : ∀ (q : Nat) (a c : EntD) (y : Nat), s[q]? = some a → s[e]? = some c → parentL c.pl = a.pl → lv q = some y → False) : DB fold s t to fr ms lv cm fd md (e + 1) p1 p2 where
  A := h.A
  fdI := fun x y => by
    rw [h.fdI]
    constructor
    · rintro (⟨i, q, a, c, h1, h2⟩ | h2)
      · exact .inl ⟨i, q, a, c, by omega, h2⟩
      · exact .inr h2
    · rintro (⟨i, q, a, c, h1, h2, h3, h4, h5, h6⟩ | h2)
      · by_cases e' : i = e
        · subst e'
          exact (hno q a c y h2 h3 h4 h5).elim
        · exact .inl ⟨i, q, a, c, by omega, h2, h3, h4, h5, h6⟩
      · exact .inr h2
  mdI := h.mdI
theorem DB.goE (V : VolOk fold s) (h : DB fold s t to fr ms lv cm fd md e p1 p2) {q y : Nat} {a c : EntD} (ha : s[q]? = some a) (hc : s[e]? = some c) (hp : parentL c.pl = a.pl) (hy : lv q = some y) : DB fold s t to fr ms lv cm (wt (lv e) y fd) md (e + 1) p1 p2 where
  A := h.A
  fdI := fun x y' => by
    rw [wt_mem, h.fdI]
    constructor
    · rintro ((⟨i, q, a, c, h1, h2⟩ | h2) | ⟨h2, rfl⟩)
      · exact .inl ⟨i, q, a, c, by omega, h2⟩
      · exact .inr h2
      · exact .inl ⟨e, q, a, c, by omega, ha, hc, hp, hy, h2⟩
    · rintro (⟨i, q', a', c', h1, h2, h3, h4, h5, h6⟩ | h2)
      · by_cases e' : i = e
        · subst e'
          rw [hc] at h3
          cases h3
          have := idx_one V h2 ha (by rw [← h4, ← hp]; exact sameB_refl _ _)
          subst this
          rw [hy] at h5
          cases h5
          exact .inr ⟨h6, rfl⟩
        · exact .inl (.inl ⟨i, q', a', c', by omega, h2, h3, h4, h5, h6⟩)
      · exact .inl (.inr h2)
  mdI := h.mdI
theorem DB.skipP (h : DB fold s t to fr ms lv cm fd md e p1 p2) (hno : ∀ (i : Nat) (a b : EntD) (y : Nat), s[i]? = some a → t[p1]? = some b → sameB fold a.pl b.pl = true → cm p1 = some y → False) : DB fold s t to fr ms lv cm fd md e (p1 + 1) p2 where
  A := h.A
  fdI := fun x y => by
    rw [h.fdI]
    constructor
    · rintro (h2 | ⟨i, j, a, b, h1, h2⟩)
      · exact .inl h2
      · exact .inr ⟨i, j, a, b, by omega, h2⟩
    · rintro (h2 | ⟨i, j, a, b, h1, h2, h3, h4, h5, h6⟩)
      · exact .inl h2
      · by_cases e' : j = p1
        · subst e'
          exact (hno i a b y h2 h3 h4 h5).elim
        · exact .inr ⟨i, j, a, b, by omega, h2, h3, h4, h5, h6⟩
  mdI := h.mdI
theorem DB.goP (V : VolOk fold s) (h : DB fold s t to fr ms lv cm fd md e p1 p2) {i y : Nat} {a b : EntD} (ha : s[i]? = some a) (hb : t[p1]? = some b) (hs : sameB fold a.pl b.pl = true) (hy : cm p1 = some y) : DB fold s t to fr ms lv cm (wt (lv i) y fd) md e (p1 + 1) p2 where
  A := h.A
  fdI := fun x y' => by
    rw [wt_mem, h.fdI]
    constructor
    · rintro ((h2 | ⟨i, j, a, b, h1, h2⟩) | ⟨h2, rfl⟩)
      · exact .inl h2
      · exact .inr ⟨i, j, a, b, by omega, h2⟩
      · exact .inr ⟨i, p1, a, b, by omega, ha, hb, hs, hy, h2⟩
    · rintro (h2 | ⟨i', j, a', b', h1, h2, h3, h4, h5, h6⟩)
      · exact .inl (.inl h2)
      · by_cases e' : j = p1
        · subst e'
          rw [hb] at h3
          cases h3
          have := idx_one V h2 ha (sameB_trans h4 (sameB_symm hs))
          subst this
          rw [hy] at h5
          cases h5
          exact .inr ⟨h6, rfl⟩
        · exact .inl (.inr ⟨i', j, a', b', by omega, h2, h3, h4, h5, h6⟩)
  mdI := h.mdI
theorem DB.skipQ (h : DB fold s t to fr ms lv cm fd md e p1 p2) (hno : ∀ (q : Nat) (b c : EntD) (y : Nat), t[p2]? = some b → t[q]? = some c → c.pl = parentL b.pl → cm p2 = some y → False) : DB fold s t to fr ms lv cm fd md e p1 (p2 + 1) where
  A := h.A
  fdI := h.fdI
  mdI := fun x y => by
    rw [h.mdI]
    constructor
    · rintro (h2 | ⟨j, q, b, c, h1, h2⟩)
      · exact .inl h2
      · exact .inr ⟨j, q, b, c, by omega, h2⟩
    · rintro (h2 | ⟨j, q, b, c, h1, h2, h3, h4, h5, h6⟩)
      · exact .inl h2
      · by_cases e' : j = p2
        · subst e'
          exact (hno q b c y h2 h3 h4 h5).elim
        · exact .inr ⟨j, q, b, c, by omega, h2, h3, h4, h5, h6⟩
theorem DB.goQ (V : VolOk fold t) (h : DB fold s t to fr ms lv cm fd md e p1 p2) {q y : Nat} {b c : EntD} (hb : t[p2]? = some b) (hc : t[q]? = some c) (hp : c.pl = parentL b.pl) (hy : cm p2 = some y) : DB fold s t to fr ms lv cm fd (wt (cm q) y md) e p1 (p2 + 1) where
  A := h.A
  fdI := h.fdI
  mdI := fun x y' => by
    rw [wt_mem, h.mdI]
    constructor
    · rintro ((h2 | ⟨j, q, b, c, h1, h2⟩) | ⟨h2, rfl⟩)
      · exact .inl h2
      · exact .inr ⟨j, q, b, c, by omega, h2⟩
      · exact .inr ⟨p2, q, b, c, by omega, hb, hc, hp, hy, h2⟩
    · rintro (h2 | ⟨j, q', b', c', h1, h2, h3, h4, h5, h6⟩)
      · exact .inl (.inl h2)
      · by_cases e' : j = p2
        · subst e'
          rw [hb] at h2
          cases h2
          have := idx_one V h3 hc (by rw [h4, hp]; exact sameB_refl _ _)
          subst this
          rw [hy] at h5
          cases h5
          exact .inr ⟨h6, rfl⟩
        · exact .inl (.inr ⟨j, q', b', c', by omega, h2, h3, h4, h5, h6⟩)
theorem DB.done (h : DB fold s t to fr ms lv cm fd md s.length t.length t.length) (M : Mat fold s t to fr) : Draft fold s t to fr ms lv cm fd md := by
  obtain ⟨md0, A⟩ := h.A
  exact {
    del1 := fun i hi => A.del1 i hi hi
    mov1 := fun i j a b ht => A.mov1 i j a b (M.bs i j ht).1 ht
    lv1 := A.lv1
    cm1 := A.cm1
    ren1 := fun i j a b ht => A.ren1 i j a b (M.bs i j ht).1 ht
    new1 := fun j hj hf => by
      have hb := List.getElem?_eq_getElem hj
      refine A.new1 j _ hb hf ?_
      cases h : (t[j]).dir with
      | true => exact .inl ⟨rfl, hj⟩
      | false => exact .inr ⟨rfl, hj⟩
    chm1 := fun i j a b ht => A.chm1 i j a b (M.bs i j ht).1 ht
    delS := fun k i hk => (A.delS k i hk).1
    renS := fun k i j hk => (A.renS k i j hk).1
    chmS := fun k i j hk => (A.chmS k i j hk).1
    mkdS := fun k j hk => (A.mkdS k j hk).1
    wriS := fun k j hk => (A.wriS k j hk).1
    cpyS := fun k j q hk => (A.cpyS k j q hk).1
    fdI := fun x y => by
      rw [h.fdI]
      constructor
      · rintro (⟨i, q, a, c, _, h2⟩ | ⟨i, j, a, b, _, h2⟩)
        · exact .inl ⟨i, q, a, c, h2⟩
        · exact .inr ⟨i, j, a, b, h2⟩
      · rintro (⟨i, q, a, c, h1, h2, h3⟩ | ⟨i, j, a, b, h1, h2, h3⟩)
        · exact .inl ⟨i, q, a, c, (List.getElem?_eq_some_iff.1 h2).1, h1, h2, h3⟩
        · exact .inr ⟨i, j, a, b, (List.getElem?_eq_some_iff.1 h2).1, h1, h2, h3⟩
    mdI := fun x y => by
      rw [h.mdI]
      constructor
      · rintro ((h2 | h2) | ⟨j, q, b, c, _, h2⟩)
        · exact .inl h2
        · exact .inr (.inl h2)
        · exact .inr (.inr ⟨j, q, b, c, h2⟩)
      · rintro (h2 | h2 | ⟨j, q, b, c, h1, h2⟩)
        · exact .inl (.inl h2)
        · exact .inl (.inr h2)
        · exact .inr ⟨j, q, b, c, (List.getElem?_eq_some_iff.1 h1).1, h1, h2⟩ }
theorem DB.need (h : DB fold s t to fr ms lv cm fd md e p1 p2) : NeedS fold s t ms := by
  obtain ⟨md0, A⟩ := h.A
  exact ⟨A.renN, A.chmN⟩
theorem DB.lvlt (h : DB fold s t to fr ms lv cm fd md e p1 p2) : (∀ i k, lv i = some k → k < ms.length) ∧ ∀ j k, cm j = some k → k < ms.length := by
  obtain ⟨md0, A⟩ := h.A
  refine ⟨fun i k hk => ?_, fun j k hk => ?_⟩
  · rcases A.lv1 i k hk with ⟨_, _, g⟩ | ⟨_, _, _, _, _, _, _, g⟩ <;> exact (List.getElem?_eq_some_iff.1 g).1
  · rcases A.cm1 j k hk with ⟨_, _, g⟩ | ⟨_, _, g | g | ⟨_, g⟩⟩ <;> exact (List.getElem?_eq_some_iff.1 g).1
end

/-- How many each waits for. -/
structure Wt (N : Nat) (ws : Nat → Nat) (fd md : Nat → List Nat) (L : Nat) : Prop where
  fb : ∀ x y, y ∈ fd x → x < N ∧ y < N
  mb : ∀ x y, y ∈ md x → x < N ∧ y < N
  cnt : ∀ y, y < N → ws y = cntE fd (fun _ => false) y N + cntE md (fun _ => false) y N
  zer : ∀ y, N ≤ y → ws y = 0
  lf : ∀ k, (fd k).length ≤ L
  lm : ∀ k, (md k).length ≤ L
def rl (fd md : Nat → List Nat) (r : Nat) : List Nat := if r % 2 = 0 then fd (r / 2) else md (r / 2)
section
variable {N L : Nat} {ws : Nat → Nat} {fd md : Nat → List Nat}
theorem Wt.start : Wt 0 (fun _ => 0) (fun _ => []) (fun _ => []) 0 := ⟨fun x y h => (by cases h), fun x y h => (by cases h), fun y h => (by omega), fun y _ => rfl, fun k => Nat.le_refl _, fun k => Nat.le_refl _⟩
theorem Wt.mono (h : Wt N ws fd md L) {L' : Nat} (hL : L ≤ L') : Wt N ws fd md L' := ⟨h.fb, h.mb, h.cnt, h.zer, fun k => Nat.le_trans (h.lf k) hL, fun k => Nat.le_trans (h.lm k) hL⟩
theorem cntE_none {g : Nat → List Nat} {off : Nat → Bool} {y : Nat} (h : ∀ x, y ∉ g x) : ∀ n, cntE g off y n = 0
  | 0 => rfl
  | n + 1 => by rw [cntE, cntE_none h n, List.count_eq_zero.2 (h n)]; simp
theorem Wt.add (h : Wt N ws fd md L) : Wt (N + 1) ws fd md L where
  fb := fun x y hy => by have := h.fb x y hy; omega
  mb := fun x y hy => by have := h.mb x y hy; omega
  cnt := fun y hy => by
    by_cases e : y = N
    · subst e
      rw [h.zer y (Nat.le_refl _), cntE_none (fun x hx => by have := h.fb x y hx; omega), cntE_none (fun x hx => by have := h.mb x y hx; omega)]
    · rw [h.cnt y (by omega), cntE, cntE]
      have h1 : (fd N).count y = 0 := List.count_eq_zero.2 (fun hx => by have := h.fb N y hx; omega)
      have h2 : (md N).count y = 0 := List.count_eq_zero.2 (fun hx => by have := h.mb N y hx; omega)
      simp [h1, h2]
  zer := fun y hy => h.zer y (by omega)
  lf := h.lf
  lm := h.lm
theorem cntE_up {g : Nat → List Nat} {z k y : Nat} : ∀ n, z < n → cntE (upN g z (g z ++ [k])) (fun _ => false) y n = cntE g (fun _ => false) y n + if y = k then 1 else 0
  | 0, h => by omega
  | n + 1, h => by
    rw [cntE, cntE]
    by_cases e : z = n
    · subst e
      rw [upN_at, List.count_append]
      have hs : ∀ m, m ≤ z → cntE (upN g z (g z ++ [k])) (fun _ => false) y m = cntE g (fun _ => false) y m := fun m => by
        induction m with
        | zero => intro _; rfl
        | succ m ih => intro hm; rw [cntE, cntE, ih (by omega), upN_ne _ _ (by omega)]
      rw [hs z (Nat.le_refl _)]
      have : [k].count y = if y = k then 1 else 0 := by
        by_cases e : y = k
        · subst e; simp
        · rw [if_neg e]; exact List.count_eq_zero.2 (by simpa using e)
      rw [this]
      simp only [Bool.false_eq_true, if_false]
      omega
    · rw [upN_ne _ _ (by omega), cntE_up n (by omega)]
      omega
theorem wt_len {o : Option Nat} {k : Nat} (h : ∀ x, (fd x).length ≤ L) : ∀ x, (wt o k fd x).length ≤ L + 1 := fun x => by
  cases o with
  | none => have := h x; show (fd x).length ≤ _; omega
  | some z =>
    show (upN fd z (fd z ++ [k]) x).length ≤ _
    by_cases e : x = z
    · subst e; rw [upN_at, List.length_append]; have := h x; simp; omega
    · rw [upN_ne _ _ e]; have := h x; omega
def wsW (o : Option Nat) (k : Nat) (ws : Nat → Nat) : Nat → Nat := match o with | none => ws | some _ => upN ws k (ws k + 1)
theorem Wt.f (h : Wt N ws fd md L) {o : Option Nat} {k : Nat} (hk : k < N) (ho : ∀ z, o = some z → z < N) : Wt N (wsW o k ws) (wt o k fd) md (L + 1) where
  fb := fun x y hy => by
    rcases wt_mem.1 hy with h' | ⟨h', rfl⟩
    · exact h.fb x y h'
    · exact ⟨ho x h', hk⟩
  mb := h.mb
  cnt := fun y hy => by
    cases o with
    | none => exact h.cnt y hy
    | some z =>
      show upN ws k (ws k + 1) y = cntE (upN fd z (fd z ++ [k])) _ y N + _
      rw [cntE_up N (ho z rfl)]
      by_cases e : y = k
      · subst e; rw [upN_at, h.cnt y hy, if_pos rfl]; omega
      · rw [upN_ne _ _ e, h.cnt y hy, if_neg e]; omega
  zer := fun y hy => by
    cases o with
    | none => exact h.zer y hy
    | some z => show upN ws k (ws k + 1) y = 0; rw [upN_ne _ _ (by omega)]; exact h.zer y hy
  lf := wt_len h.lf
  lm := fun k => by have := h.lm k; omega
theorem Wt.m (h : Wt N ws fd md L) {o : Option Nat} {k : Nat} (hk : k < N) (ho : ∀ z, o = some z → z < N) : Wt N (wsW o k ws) fd (wt o k md) (L + 1) where
  mb := fun x y hy => by
    rcases wt_mem.1 hy with h' | ⟨h', rfl⟩
    · exact h.mb x y h'
    · exact ⟨ho x h', hk⟩
  fb := h.fb
  cnt := fun y hy => by
    cases o with
    | none => exact h.cnt y hy
    | some z =>
      show upN ws k (ws k + 1) y = _ + cntE (upN md z (md z ++ [k])) _ y N
      rw [cntE_up N (ho z rfl)]
      by_cases e : y = k
      · subst e; rw [upN_at, h.cnt y hy, if_pos rfl]; omega
      · rw [upN_ne _ _ e, h.cnt y hy, if_neg e]; omega
  zer := fun y hy => by
    cases o with
    | none => exact h.zer y hy
    | some z => show upN ws k (ws k + 1) y = 0; rw [upN_ne _ _ (by omega)]; exact h.zer y hy
  lm := wt_len h.lm
  lf := fun k => by have := h.lf k; omega
theorem cntE_le {g : Nat → List Nat} {off : Nat → Bool} {y : Nat} (h : ∀ x, (g x).length ≤ L) : ∀ n, cntE g off y n ≤ n * L
  | 0 => by simp [cntE]
  | n + 1 => by
    rw [cntE, Nat.succ_mul]
    have := cntE_le h n (y := y) (off := off)
    have h1 := List.count_le_length (a := y) (l := g n)
    have h2 := h n
    split <;> omega
theorem Wt.small (h : Wt N ws fd md L) (hN : N ≤ 200) (hL : L ≤ 400) : ∀ y, ws y ≤ 1000000 := fun y => by
  by_cases hy : y < N
  · rw [h.cnt y hy]
    have h1 := cntE_le h.lf N (y := y) (off := fun _ => false)
    have h2 := cntE_le h.lm N (y := y) (off := fun _ => false)
    have : N * L ≤ 200 * 400 := Nat.mul_le_mul hN hL
    omega
  · rw [h.zer y (by omega)]; omega
theorem rl_f (x : Nat) : rl fd md (2 * x) = fd x := by unfold rl; rw [if_pos (by omega)]; congr 1; omega
theorem rl_m (x : Nat) : rl fd md (2 * x + 1) = md x := by unfold rl; rw [if_neg (by omega)]; congr 1; omega
theorem rl_upF (z : Nat) (v : List Nat) : upN (rl fd md) (2 * z) v = rl (upN fd z v) md := by
  funext r
  unfold rl
  by_cases h : r % 2 = 0
  · rw [if_pos h]
    by_cases e : r = 2 * z
    · subst e; rw [upN_at, show 2 * z / 2 = z by omega, upN_at]
    · rw [upN_ne _ _ e, if_pos h, upN_ne _ _ (by omega)]
  · rw [if_neg h, upN_ne _ _ (by omega), if_neg h]
theorem rl_upM (z : Nat) (v : List Nat) : upN (rl fd md) (2 * z + 1) v = rl fd (upN md z v) := by
  funext r
  unfold rl
  by_cases h : r % 2 = 0
  · rw [if_pos h, upN_ne _ _ (by omega), if_pos h]
  · rw [if_neg h]
    by_cases e : r = 2 * z + 1
    · subst e; rw [upN_at, show (2 * z + 1) / 2 = z by omega, upN_at]
    · rw [upN_ne _ _ e, if_neg h, upN_ne _ _ (by omega)]
theorem rl_len (hf : ∀ k, (fd k).length ≤ L) (hm : ∀ k, (md k).length ≤ L) (r : Nat) : (rl fd md r).length ≤ L := by
  unfold rl
  split
  · exact hf _
  · exact hm _
end
end Go.Proofs.YtpjjagalekolaaaGreatDoor

