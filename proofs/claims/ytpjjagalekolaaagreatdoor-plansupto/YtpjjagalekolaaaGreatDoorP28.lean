/- GD, GE: in one text. -/
import Derived.Test.YtpjjagalekolaaaGreatDoorP27
/- A plan, said plainly: the other operations of a plan; and where all are done. No program in this text. -/
namespace Go.Proofs.YtpjjagalekolaaaGreatDoor
open Go.RowKit
set_option linter.unusedVariables false
set_option linter.unusedSimpArgs false

section
variable {fold : Bool} {s t : List EntD} {to fr : Nat → Option Nat} {p : PS} {V : List EntD} {sp : Int}

theorem below_no47 {q e : BL} (h : ∀ c ∈ q, c ≠ 47) : belowL fold q e = false := by
  cases hb : belowL fold q e with
  | false => rfl
  | true =>
    obtain ⟨u, v, rfl, _⟩ := (belowL_iff _ _ _).1 hb
    exact absurd rfl (h 47 (by simp))
theorem cnt_no47 {q : BL} (h : ∀ c ∈ q, c ≠ 47) : cnt q = 1 := cnt_one q h

/-- A file that moves is put aside. -/
theorem Inv.put (P : Pair fold s t) (M : Mat fold s t to fr) (I : Inv fold s t to fr p V) {i j : Nat} {a b : EntD} {o : OpD} (ha : s[i]? = some a) (hb : t[j]? = some b) (ht : to i = some j) (hmv : sameB fold a.pl b.pl = false) (hR : ¬ p.R i) (hA : p.A i = none) (hk : o.kind = 6) (hop : o.pl = a.pl) (hot : o.tl = spN p.N) (hN : p.N < 100) :
    ∃ V', doL fold sp V o = .ok V' ∧ Inv fold s t to fr { p with A := fun k => if k = i then some p.N else p.A k, N := p.N + 1 } V' := by
  obtain ⟨e0, he0, h0⟩ := I.has (.inl i) ⟨(List.getElem?_eq_some_iff.1 ha).1, fun h => by rw [ht] at h; cases h.1⟩
  have hfa : Fld e0 a ∧ MdOk p.H i a b e0 ∧ sameB fold e0.pl o.pl = true := by
    cases h0 with
    | stay _ _ _ _ ht' => rw [ht] at ht'; cases ht'
    | here _ j' a' b' _ hs' ht' hb' _ hA hf hm hn =>
      obtain rfl := som ht' ht
      rw [som hs' ha] at hf hm hn
      rw [som hb' hb] at hm
      exact ⟨hf, hm, by rw [hop]; exact hn.1⟩
    | come _ _ _ _ _ _ _ _ hr' => exact absurd hr' hR
    | asid _ _ _ _ _ _ _ _ _ _ hA' => rw [hA] at hA'; cases hA'
  obtain ⟨hf, hmd, hsrc⟩ := hfa
  have hdir : e0.dir = false := hf.1.trans (M.away i j a b ht ha hb hmv)
  have hat := atI_mem I.vol he0 hsrc
  have own : ∀ x, Th fold s t to p (.inl i) x → x ∈ V → x = e0 := fun x hx hxV => I.vol.one x hxV e0 he0 (hx.same h0)
  have hspare := spN_spare hN
  have h47 := spare_no47 hspare
  have hfree : ∀ x ∈ V, sameB fold x.pl (spN p.N) = true → x = e0 := fun x hx hs => by
    have hpath : ∀ {q : BL}, pathL q = true → sameB fold x.pl q = true → False := fun {q} hq hxq => by
      have h1 := spN_path (fold := fold) hN hq
      rw [sameB_trans (sameB_symm hxq) hs] at h1
      cases h1
    obtain ⟨y, hy⟩ := I.all x hx
    cases hy with
    | stay k c _ hc _ _ _ _ hn => exact (hpath (P.ps c (getE hc)) hn.1).elim
    | here k _ c _ _ hc _ _ _ _ _ _ hn => exact (hpath (P.ps c (getE hc)) hn.1).elim
    | come k _ _ c _ _ _ hc _ _ _ hn => exact (hpath (P.pt c (getE hc)) hn.1).elim
    | asid k _ n _ _ _ _ _ _ _ hA' _ _ hn =>
      have h1 := (I.aside k n hA').1
      have h2 := spN_same hN hs
      rw [hn] at h2
      have := spN_inj (by omega) hN h2
      omega
    | anew _ c _ hc _ _ _ hn => exact (hpath (P.pt c (getE hc)) hn.1).elim
  have hbad : ∀ x ∈ V, badX e0 (spN p.N) x = false := fun x hx => by
    unfold badX
    cases hmx : mvB e0.pl x.pl with
    | false => rfl
    | true =>
      obtain rfl := file_alone I.vol he0 hdir hx hmx
      rw [hdir, List.drop_length, List.append_nil, cnt_no47 h47]
      simp
  obtain ⟨h1, h2, h3, h4, h5⟩ := ren_all I.vol he0 (below_no47 h47) hfree (place_top (parentL_none _ h47)) (.inr hspare) hbad
  refine ⟨_, by rw [do_ren hat hk, hot, h1], I.map (movP e0.pl (spN p.N)) h2 h3 h4 h5 (fun e he x hx => ?_) rfl rfl (fun k n hkn => ?_) (fun k k' n hk1 hk2 => ?_) hN⟩
  · by_cases hee : e = e0
    · subst hee
      obtain rfl := I.uniq e he x _ hx h0
      rw [movP_self]
      exact .asid i j p.N a b _ ha ht hb hR (if_pos rfl) ⟨hf.1, hf.2.1, hf.2.2⟩ ⟨fun h => hmd.1 h, fun h => hmd.2 h⟩ (pl_withP _ _)
    · have hst : mvB e0.pl e.pl = false := by
        cases hmx : mvB e0.pl e.pl with
        | false => rfl
        | true => exact absurd (file_alone I.vol he0 hdir he hmx) hee
      rw [movP_stay hst]
      refine hx.other (fun k hk => ⟨fun h => h, Iff.rfl, Iff.rfl, if_neg (fun e1 => ?_)⟩) (fun k _ h => h)
      subst e1
      subst hk
      exact hee (own e hx he)
  · dsimp only at hkn ⊢
    by_cases e : k = i
    · subst e
      rw [if_pos rfl] at hkn
      cases hkn
      exact ⟨Nat.lt_succ_self _, j, a, b, ht, ha, hb, hmv⟩
    · rw [if_neg e] at hkn
      obtain ⟨g1, g2⟩ := I.aside k n hkn
      exact ⟨by omega, g2⟩
  · dsimp only at hk1 hk2
    by_cases e : k = i
    · by_cases e' : k' = i
      · rw [e, e']
      · rw [if_pos e] at hk1
        rw [if_neg e'] at hk2
        cases hk1
        have := (I.aside k' _ hk2).1
        omega
    · by_cases e' : k' = i
      · rw [if_neg e] at hk1
        rw [if_pos e'] at hk2
        cases hk2
        have := (I.aside k _ hk1).1
        omega
      · rw [if_neg e] at hk1
        rw [if_neg e'] at hk2
        exact I.sep k k' n hk1 hk2

/-- One that stays where it is has its name written anew. -/
theorem Inv.turn (P : Pair fold s t) (M : Mat fold s t to fr) (I : Inv fold s t to fr p V) {i j : Nat} {a b : EntD} {o : OpD} (ha : s[i]? = some a) (hb : t[j]? = some b) (ht : to i = some j) (hmv : sameB fold a.pl b.pl = true) (hR : ¬ p.R i) (hk : o.kind = 6) (hop : o.pl = a.pl) (hot : o.tl = b.pl) :
    ∃ V', doL fold sp V o = .ok V' ∧ Inv fold s t to fr { p with R := fun k => p.R k ∨ k = i } V' := by
  obtain ⟨e0, he0, h0⟩ := I.has (.inl i) ⟨(List.getElem?_eq_some_iff.1 ha).1, fun h => by rw [ht] at h; cases h.1⟩
  have hfa : Fld e0 a ∧ MdOk p.H i a b e0 ∧ sameB fold e0.pl a.pl = true := by
    cases h0 with
    | stay _ _ _ _ ht' => rw [ht] at ht'; cases ht'
    | here _ j' a' b' _ hs' ht' hb' _ hA hf hm hn =>
      obtain rfl := som ht' ht
      rw [som hs' ha] at hf hm hn
      rw [som hb' hb] at hm
      exact ⟨hf, hm, hn.1⟩
    | come _ _ _ _ _ _ _ _ hr' => exact absurd hr' hR
    | asid _ _ n _ _ _ _ _ _ _ hA' =>
      obtain ⟨_, j', a', b', g1, g2, g3, g4⟩ := I.aside i n hA'
      obtain rfl := som g1 ht
      rw [som g2 ha, som g3 hb, hmv] at g4
      cases g4
  obtain ⟨hf, hmd, hsrc⟩ := hfa
  have hat := atI_mem I.vol he0 (p := o.pl) (by rw [hop]; exact hsrc)
  have heb : sameB fold e0.pl b.pl = true := sameB_trans hsrc hmv
  have own : ∀ x, Th fold s t to p (.inl i) x → x ∈ V → x = e0 := fun x hx hxV => I.vol.one x hxV e0 he0 (hx.same h0)
  obtain ⟨r, hr⟩ : ∃ r, placeL fold V b.pl = some r := by
    by_cases hp : parentL b.pl = []
    · exact ⟨_, place_top hp⟩
    · have hsp := same_parent heb
      have hne : parentL e0.pl ≠ [] := fun e => by
        rw [e] at hsp
        exact hp (List.eq_nil_of_length_eq_zero (sameB_length hsp).symm)
      obtain ⟨z, hz, hzd, hzp⟩ := I.vol.par e0 he0 hne
      exact ⟨_, place_in I.vol hz hzd (by rw [hzp]; exact hsp) hp⟩
  have hrs := place_same hr
  have hrl := place_last hr
  have hre : sameB fold r e0.pl = true := sameB_trans hrs (sameB_symm heb)
  have hrp : pathL r = true := (place_good I.vol hr (.inl (P.pt b (getE hb)))).1 (P.pt b (getE hb))
  have hbel : belowL fold b.pl e0.pl = false := by
    cases h : belowL fold b.pl e0.pl with
    | false => rfl
    | true =>
      unfold belowL at h
      simp only [Bool.and_eq_true, decide_eq_true_eq] at h
      have := sameB_length heb
      omega
  have hfree : ∀ x ∈ V, sameB fold x.pl b.pl = true → x = e0 := fun x hx hs => I.vol.one x hx e0 he0 (sameB_trans hs (sameB_symm heb))
  have hbad : ∀ x ∈ V, badX e0 r x = false := fun x hx => by
    unfold badX
    cases hmx : mvB e0.pl x.pl with
    | false => rfl
    | true =>
      obtain ⟨w, hw, _⟩ := (mvB_iff _ _).1 hmx
      have hc : cnt (r ++ x.pl.drop e0.pl.length) = cnt x.pl := by
        refine same_cnt (fold := fold) ?_
        rw [hw, List.drop_left]
        exact same_append hre (sameB_refl _ _)
      have h6 : cnt x.pl ≤ 6 := by
        rcases I.vol.names x hx with h | ⟨_, h⟩
        · exact (pathL_nms h).2
        · rw [cnt_no47 (spare_no47 h)]; omega
      have hns : spareL r = false := by
        cases h : spareL r with
        | false => rfl
        | true =>
          have := (pathL_nms hrp).1
          rw [spare_not_nms h] at this
          cases this
      rw [hc, hns]
      simp; omega
  obtain ⟨h1, h2, h3, h4, h5⟩ := ren_all I.vol he0 hbel hfree hr (.inl (P.pt b (getE hb))) hbad
  refine ⟨_, by rw [do_ren hat hk, hot, h1], I.map (movP e0.pl r) h2 h3 h4 h5 (fun e he x hx => ?_) rfl rfl I.aside I.sep I.nm⟩
  by_cases hee : e = e0
  · subst hee
    obtain rfl := I.uniq e he x _ hx h0
    rw [movP_self]
    exact .come i j a b _ ha ht hb (.inr rfl) ⟨hf.1, hf.2.1, hf.2.2⟩ ⟨fun h => hmd.1 h, fun h => hmd.2 h⟩ ⟨by rw [pl_withP]; exact hrs, by rw [pl_withP]; exact hrl⟩
  · have hx2 : Th fold s t to p x (movP e0.pl r e) := by
      cases hmx : mvB e0.pl e.pl with
      | false => rw [movP_stay hmx]; exact hx
      | true =>
        obtain ⟨w, hw, hw2⟩ := (mvB_iff _ _).1 hmx
        rw [movP_go hw hw2]
        rcases hw2 with rfl | ⟨w', rfl⟩
        · exact absurd (mem_eq_of_srt I.vol.srt he he0 (by simpa using hw)) hee
        · refine hx.moved ?_ ?_ (withP_fld e _).1 (withP_fld e _).2 (fun n hn he => ?_) (fun k n hkn => ?_)
          · rw [pl_withP, hw]; exact same_append hre (sameB_refl _ _)
          · rw [pl_withP, hw, lastL_app, lastL_app]
          · have h47 := spare_no47 (spN_spare hn)
            rw [← he, hw] at h47
            exact absurd rfl (h47 47 (by simp))
          · have := (I.aside k n hkn).1
            have := I.nm
            omega
    refine hx2.other (fun k hk => ⟨fun h => h, ⟨fun h => ?_, fun h => .inl h⟩, Iff.rfl, rfl⟩) (fun k _ h => h)
    rcases h with h | rfl
    · exact h
    · subst hk
      exact absurd (own e hx he) hee

/-- Where number i of s has come to its place in t. -/
theorem Inv.arrived (I : Inv fold s t to fr p V) (M : Mat fold s t to fr) {i j : Nat} {a b : EntD} (ha : s[i]? = some a) (hb : t[j]? = some b) (ht : to i = some j) (h : sameB fold a.pl b.pl = true ∨ p.R i) : ∃ e ∈ V, Th fold s t to p (.inl i) e ∧ sameB fold e.pl b.pl = true ∧ Fld e a ∧ MdOk p.H i a b e := by
  obtain ⟨e0, he0, h0⟩ := I.has (.inl i) ⟨(List.getElem?_eq_some_iff.1 ha).1, fun h => by rw [ht] at h; cases h.1⟩
  refine ⟨e0, he0, h0, ?_⟩
  cases h0 with
  | stay _ _ _ _ ht' => rw [ht] at ht'; cases ht'
  | here _ j' a' b' _ hs' ht' hb' hr hA hf hm hn =>
    obtain rfl := som ht' ht
    rw [som hs' ha] at hf hm hn
    rw [som hb' hb] at hm
    rcases h with h | h
    · exact ⟨sameB_trans hn.1 h, hf, hm⟩
    · exact absurd h hr
  | come _ j' a' b' _ hs' ht' hb' hr hf hm hn =>
    obtain rfl := som ht' ht
    rw [som hs' ha] at hf hm
    rw [som hb' hb] at hm hn
    exact ⟨hn.1, hf, hm⟩
  | asid _ _ n _ _ _ _ _ _ hr hA' =>
    rcases h with h | h
    · obtain ⟨_, j', a', b', g1, g2, g3, g4⟩ := I.aside i n hA'
      obtain rfl := som g1 ht
      rw [som g2 ha, som g3 hb, h] at g4
      cases g4
    · exact absurd h hr
theorem set_mem (K : VolOk fold V) {k : Nat} (hk : k < V.length) {v : EntD} (hv : v.pl = V[k].pl) (e' : EntD) : e' ∈ V.set k v ↔ e' = v ∨ (e' ∈ V ∧ e' ≠ V[k]) := by
  rw [← insL_set K.srt k hk v hv, insL_mem]
  exact ⟨fun h => h.imp id (fun h => mem_erase_ne K.srt hk h), fun h => h.imp id (fun h => mem_erase_of_ne hk h.1 h.2)⟩
theorem Inv.chm (P : Pair fold s t) (M : Mat fold s t to fr) (I : Inv fold s t to fr p V) {i j : Nat} {a b : EntD} {o : OpD} (ha : s[i]? = some a) (hb : t[j]? = some b) (ht : to i = some j) (h : sameB fold a.pl b.pl = true ∨ p.R i) (hk : o.kind = 7) (hop : o.pl = b.pl) (hom : o.mode = b.mode) :
    ∃ V', doL fold sp V o = .ok V' ∧ Inv fold s t to fr { p with H := fun k => p.H k ∨ k = i } V' := by
  obtain ⟨e0, he0, h0, hs, hf, hm⟩ := I.arrived M ha hb ht h
  have hat := atI_mem I.vol he0 (p := o.pl) (by rw [hop]; exact hs)
  obtain ⟨hi, hie⟩ := List.getElem?_eq_some_iff.1 hat
  have hbm : 0 ≤ b.mode ∧ b.mode ≤ 511 := by
    obtain ⟨h1, h2, _⟩ := fieldsB_true _ (P.vt.fields b (getE hb))
    exact ⟨h1, h2⟩
  have K := set_ok I.vol hi b.mode hbm.1 hbm.2
  rw [hie] at K
  have hsm := fun e' => set_mem I.vol hi (v := { e0 with mode := b.mode }) (by rw [hie]; rfl) e'
  rw [hie] at hsm
  classical
  refine ⟨_, by rw [do_chm hat hk, hom], I.map (fun e => if e = e0 then { e with mode := b.mode } else e) K (fun e' => ?_) (by rw [List.length_set]) (fun x hx y hy hxy => ?_) (fun e he x hx => ?_) rfl rfl I.aside I.sep I.nm⟩
  · rw [hsm]
    constructor
    · rintro (rfl | ⟨h1, h2⟩)
      · exact ⟨e0, he0, if_pos rfl⟩
      · exact ⟨e', h1, if_neg h2⟩
    · rintro ⟨e, he, rfl⟩
      by_cases hee : e = e0
      · rw [if_pos hee, hee]; exact .inl rfl
      · rw [if_neg hee]; exact .inr ⟨he, hee⟩
  · have pp : ∀ e : EntD, (if e = e0 then { e with mode := b.mode } else e).pl = e.pl := fun e => by split <;> rfl
    rw [pp, pp] at hxy
    exact I.vol.one x hx y hy hxy
  · by_cases hee : e = e0
    · subst hee
      obtain rfl := I.uniq e he x _ hx h0
      rw [if_pos rfl]
      have md : MdOk (fun k => p.H k ∨ k = i) i a b { e with mode := b.mode } := ⟨fun _ => rfl, fun h => absurd (.inr rfl) h⟩
      cases hx with
      | stay _ _ _ _ ht' => rw [ht] at ht'; cases ht'
      | here _ j' a' b' _ hs' ht' hb' hr hA hf hm hn =>
        obtain rfl := som ht' ht
        obtain rfl := som hs' ha
        obtain rfl := som hb' hb
        exact .here i j' a' b' _ hs' ht' hb' hr hA hf md hn
      | come _ j' a' b' _ hs' ht' hb' hr hf hm hn =>
        obtain rfl := som ht' ht
        obtain rfl := som hs' ha
        obtain rfl := som hb' hb
        exact .come i j' a' b' _ hs' ht' hb' hr hf md hn
      | asid _ j' n a' b' _ hs' ht' hb' hr hA hf hm hn =>
        obtain rfl := som ht' ht
        obtain rfl := som hs' ha
        obtain rfl := som hb' hb
        exact .asid i j' n a' b' _ hs' ht' hb' hr hA hf md hn
    · rw [if_neg hee]
      refine hx.other (fun k hk => ⟨fun h => h, Iff.rfl, ⟨fun h => ?_, fun h => .inl h⟩, rfl⟩) (fun k _ h => h)
      rcases h with h | rfl
      · exact h
      · subst hk
        exact absurd (I.vol.one e he e0 he0 (hx.same h0)) hee

theorem nodup_lt : ∀ (n : Nat) (l : List Nat), l.Nodup → (∀ x ∈ l, x < n) → l.length ≤ n
  | 0, l, _, h => by
    cases l with
    | nil => simp
    | cons x l => exact absurd (h x (by simp)) (by omega)
  | n + 1, l, hd, h => by
    have h1 := nodup_lt n (l.erase n) (hd.erase n) (fun x hx => by
      have := (hd.mem_erase_iff.1 hx)
      have := h x this.2
      omega)
    have := List.length_erase_le (a := n) (l := l)
    have h2 : l.length ≤ (l.erase n).length + 1 := by
      by_cases hm : n ∈ l
      · rw [List.length_erase_of_mem hm]; omega
      · rw [List.erase_of_not_mem hm]; omega
    omega
/-- Number j of t is made. -/
theorem Inv.make (P : Pair fold s t) (M : Mat fold s t to fr) (I : Inv fold s t to fr p V) {j : Nat} {b e : EntD} (hb : t[j]? = some b) (hfr : fr j = none) (hj : j ∉ p.C) (hep : e.pl = b.pl) (hf : Fld e b) (hm : e.mode = b.mode) (hsp : 20000 ≤ sp)
    (occ : ∀ k c, s[k]? = some c → sameB fold c.pl b.pl = true → to k = some j ∨ LeftS fold s t to p k) (mk : ∀ k c, t[k]? = some c → c.pl = parentL b.pl → fr k = none → k ∈ p.C) :
    ∃ V', mkL fold sp V e = .ok V' ∧ Inv fold s t to fr { p with C := j :: p.C } V' := by
  obtain ⟨r, hr, hrs, hrl⟩ := I.above P M hb mk
  have hlt := (List.getElem?_eq_some_iff.1 hb).1
  have hfree : ∀ x ∈ V, sameB fold x.pl b.pl = false := fun x hx => by
    cases h : sameB fold x.pl b.pl with
    | false => rfl
    | true =>
      obtain ⟨y, hy⟩ := I.all x hx
      rcases I.free P hb occ x hx y hy h with ⟨i, rfl, hi⟩ | rfl
      · have := (M.inv i j).1 hi
        rw [hfr] at this
        cases this
      · exact absurd hy.live hj
  have hfew : V.length < 120 := by
    have h1 := nodup_lt t.length (j :: p.C) (List.nodup_cons.2 ⟨hj, I.made.1⟩) (fun k hk => by
      rcases List.mem_cons.1 hk with rfl | hk
      · exact hlt
      · exact (I.made.2 k hk).2)
    have := I.few
    have := P.ls
    have := P.lt
    simp only [List.length_cons] at h1
    omega
  have hsz : (!e.dir && V.any fun x => !x.dir && decide (x.id = e.id) && decide (x.size ≠ e.size)) = false := by
    cases hd : e.dir with
    | true => rfl
    | false =>
      have hbd : b.dir = false := hf.1.symm.trans hd
      simp only [Bool.not_false, Bool.true_and]
      rw [List.any_eq_false]
      intro x hx h
      simp only [Bool.and_eq_true, Bool.not_eq_true', decide_eq_true_eq] at h
      obtain ⟨⟨hxd, hxi⟩, hxs⟩ := h
      obtain ⟨y, hy⟩ := I.all x hx
      apply hxs
      rw [hf.2.2]
      rw [hf.2.1] at hxi
      have sc : ∀ {k : Nat} {c : EntD}, s[k]? = some c → Fld x c → x.size = b.size := fun {k c} hc g => g.2.2.trans (P.sizes c (getE hc) b (getE hb) (g.1.symm.trans hxd) hbd (g.2.1.symm.trans hxi))
      cases hy with
      | stay k c _ hc _ _ g _ _ => exact sc hc g
      | here k _ c _ _ hc _ _ _ _ g _ _ => exact sc hc g
      | come k _ c _ _ hc _ _ _ g _ _ => exact sc hc g
      | asid k _ _ c _ _ hc _ _ _ _ g _ _ => exact sc hc g
      | anew k c _ hc _ g _ _ => exact g.2.2.trans (P.vt.sizes c (getE hc) b (getE hb) (g.1.symm.trans hxd) hbd (g.2.1.symm.trans hxi))
  have hes : e.size ≤ 100 := by
    rw [hf.2.2]
    obtain ⟨_, _, f⟩ := fieldsB_true _ (P.vt.fields b (getE hb))
    rcases f with ⟨_, _, z⟩ | ⟨_, _, _, _, z⟩
    · omega
    · exact z
  have hspc : (!e.dir && decide (sp < usedL V + e.size)) = false := by
    have := (used_le I.vol).2
    have : ¬ sp < usedL V + e.size := by omega
    simp [this]
  have hok : mkL fold sp V e = .ok (insL (e.withP r) V) := by
    unfold mkL
    rw [if_neg, hep, hr]
    · simp only
      rw [if_neg (by omega), if_neg (by rw [hsz]; decide), if_neg (by rw [hspc]; decide)]
    · intro h
      obtain ⟨x, hx, hh⟩ := List.any_eq_true.1 h
      rw [hep, hfree x hx] at hh
      cases hh
  have hbf := P.vt.fields b (getE hb)
  have hef : fieldsB e = true := by
    unfold fieldsB at hbf ⊢
    rw [hf.1, hf.2.1, hf.2.2, hm]
    exact hbf
  have K : VolOk fold (insL (e.withP r) V) := mk_ok I.vol hok (by rw [hep]; exact .inl (P.pt b (getE hb))) (fun _ => by rw [hep]; exact P.pt b (getE hb)) hef
  refine ⟨_, hok, I.grow (e0 := e.withP r) K (fun e' => by rw [insL_mem]) (by rw [(insL_perm _ _).length_eq]; rfl) (fun x hx => ?_) hj hfr hlt (.anew j b _ hb (by simp) ⟨hf.1, hf.2.1, hf.2.2⟩ hm ⟨by rw [pl_withP]; exact hrs, by rw [pl_withP]; exact hrl⟩)⟩
  rw [pl_withP]
  cases h : sameB fold x.pl r with
  | false => rfl
  | true =>
    have := hfree x hx
    rw [sameB_trans h hrs] at this
    cases this

/-- Where all is done, the volume holds t. -/
theorem Inv.done (P : Pair fold s t) (M : Mat fold s t to fr) (I : Inv fold s t to fr p V) (hD : ∀ i, i < s.length → to i = none → p.D i) (hR : ∀ i j a b, to i = some j → s[i]? = some a → t[j]? = some b → sameB fold a.pl b.pl = false ∨ lastL a.pl ≠ lastL b.pl → p.R i) (hH : ∀ i j a b, to i = some j → s[i]? = some a → t[j]? = some b → a.mode ≠ b.mode → p.H i) (hC : ∀ j, j < t.length → fr j = none → j ∈ p.C) : V = t := by
  have key : ∀ x e, Th fold s t to p x e → ∃ j b, t[j]? = some b ∧ Nxt fold e b ∧ Fld e b ∧ e.mode = b.mode ∧ (x = .inr j ∨ ∃ i, x = .inl i ∧ to i = some j) := by
    intro x e hx
    have fl : ∀ {i j : Nat} {a b : EntD}, to i = some j → s[i]? = some a → t[j]? = some b → Fld e a → MdOk p.H i a b e → Fld e b ∧ e.mode = b.mode := fun {i j a b} ht ha hb g gm => by
      obtain ⟨k1, k2⟩ := M.kind i j a b ht ha hb
      refine ⟨⟨g.1.trans k1, g.2.1.trans k2, g.2.2.trans ?_⟩, ?_⟩
      · cases hd : a.dir with
        | true => rw [(dir0 P.vs (getE ha) hd).2, (dir0 P.vt (getE hb) (k1.symm.trans hd)).2]
        | false => exact P.sizes a (getE ha) b (getE hb) hd (k1.symm.trans hd) k2
      · by_cases hh : p.H i
        · exact gm.1 hh
        · rw [gm.2 hh]
          by_cases hm : a.mode = b.mode
          · exact hm
          · exact absurd (hH i j a b ht ha hb hm) hh
    cases hx with
    | stay i a _ ha ht hd => exact absurd (hD i (List.getElem?_eq_some_iff.1 ha).1 ht) hd
    | here i j a b _ ha ht hb hr hA g gm gn =>
      have hs : sameB fold a.pl b.pl = true := by
        cases h : sameB fold a.pl b.pl with
        | true => rfl
        | false => exact absurd (hR i j a b ht ha hb (.inl h)) hr
      have hl : lastL a.pl = lastL b.pl := by
        by_cases h : lastL a.pl = lastL b.pl
        · exact h
        · exact absurd (hR i j a b ht ha hb (.inr h)) hr
      exact ⟨j, b, hb, ⟨sameB_trans gn.1 hs, gn.2.trans hl⟩, (fl ht ha hb g gm).1, (fl ht ha hb g gm).2, .inr ⟨i, rfl, ht⟩⟩
    | come i j a b _ ha ht hb hr g gm gn => exact ⟨j, b, hb, gn, (fl ht ha hb g gm).1, (fl ht ha hb g gm).2, .inr ⟨i, rfl, ht⟩⟩
    | asid i j n a b _ ha ht hb hr hA =>
      obtain ⟨_, j', a', b', g1, g2, g3, g4⟩ := I.aside i n hA
      obtain rfl := som g1 ht
      exact absurd (hR i j' a' b' g1 g2 g3 (.inl g4)) hr
    | anew j b _ hb hc g gm gn => exact ⟨j, b, hb, gn, g, gm, .inl rfl⟩
  have exact : ∀ (n : Nat) (e : EntD), e ∈ V → e.pl.length ≤ n → ∀ b ∈ t, Nxt fold e b → e.pl = b.pl := by
    intro n
    induction n with
    | zero =>
      intro e he hn b hb _
      exact absurd (List.eq_nil_of_length_eq_zero (by omega)) (pl_ne I.vol he)
    | succ n ih =>
      intro e he hn b hb hnx
      have hsp := same_parent hnx.1
      have hsl := sameB_length hsp
      by_cases hp : parentL b.pl = []
      · have hpe : parentL e.pl = [] := List.eq_nil_of_length_eq_zero (by rw [hsl, hp]; rfl)
        have hbn := (pathL_nms (P.pt b hb)).1
        have hb47 := nms_par_nil hbn hp
        have he47 := same_no47 (sameB_symm hnx.1) hb47
        rw [← lastL_none _ he47, ← lastL_none _ hb47]
        exact hnx.2
      · have hpe : parentL e.pl ≠ [] := fun e1 => by
          rw [e1] at hsl
          exact hp (List.eq_nil_of_length_eq_zero hsl.symm)
        obtain ⟨z, hz, hzd, hzp⟩ := I.vol.par e he hpe
        obtain ⟨c, hc, hcd, hcp⟩ := P.vt.par b hb hp
        obtain ⟨x, hx⟩ := I.all z hz
        obtain ⟨j', b', hb', hn', _⟩ := key x z hx
        have hlen : z.pl.length ≤ n := by
          have := congrArg List.length (par_last e.pl hpe)
          simp only [List.length_append, List.length_cons] at this
          rw [hzp]
          omega
        have h1 := ih z hz hlen b' (getE hb') hn'
        have h2 : b' = c := P.vt.one b' (getE hb') c hc (by
          rw [← h1, hzp, hcp]; exact hsp)
        rw [par_last e.pl hpe, par_last b.pl hp, ← hzp, h1, h2, hcp, hnx.2]
  have eq : ∀ e ∈ V, ∀ b ∈ t, Nxt fold e b → Fld e b → e.mode = b.mode → e = b := fun e he b hb h1 h2 h3 => ent_ext (exact _ e he (Nat.le_refl _) b hb h1) h2.1 h2.2.1 h2.2.2 h3
  have nd : ∀ {L : List EntD}, Srt L → L.Nodup := fun {L} h => by
    refine List.Pairwise.imp ?_ h
    intro a b hab e
    subst e
    exact List.lt_irrefl _ hab
  refine srt_eq I.vol.srt P.vt.srt ((List.perm_ext_iff_of_nodup (nd I.vol.srt) (nd P.vt.srt)).2 (fun e => ⟨fun he => ?_, fun hb => ?_⟩))
  · obtain ⟨x, hx⟩ := I.all e he
    obtain ⟨j, b, hb, h1, h2, h3, _⟩ := key x e hx
    rw [eq e he b (getE hb) h1 h2 h3]
    exact getE hb
  · obtain ⟨j, hj⟩ := List.mem_iff_getElem?.1 hb
    have hlt := (List.getElem?_eq_some_iff.1 hj).1
    have fin : ∀ x, Live s to p x → (∀ j', (x = .inr j' ∨ ∃ i, x = .inl i ∧ to i = some j') → j' = j) → e ∈ V := fun x hx hu => by
      obtain ⟨e', he', hx'⟩ := I.has x hx
      obtain ⟨j', b', hb', h1, h2, h3, h4⟩ := key x e' hx'
      obtain rfl := hu j' h4
      rw [som hb' hj] at h1 h2 h3
      rw [← eq e' he' e (getE hj) h1 h2 h3]
      exact he'
    cases hf : fr j with
    | none =>
      refine fin (.inr j) (hC j hlt hf) (fun j' h => ?_)
      rcases h with h | ⟨i, h, _⟩
      · cases h; rfl
      · cases h
    | some i =>
      have ht := (M.inv i j).2 hf
      refine fin (.inl i) ⟨(M.bs i j ht).1, fun h => by rw [ht] at h; cases h.1⟩ (fun j' h => ?_)
      rcases h with h | ⟨i', h, h'⟩
      · cases h
      · cases h
        exact som h' ht
/-- Whatever is in both trees is held. -/
theorem Inv.kept (M : Mat fold s t to fr) (I : Inv fold s t to fr p V) {k : Nat} {a b : EntD} (ha : s[k]? = some a) (hb : b ∈ t) (had : a.dir = false) (hbd : b.dir = false) (hid : a.id = b.id) : ∃ e ∈ V, e.dir = false ∧ e.id = a.id := by
  obtain ⟨j, hj⟩ := List.mem_iff_getElem?.1 hb
  have hold : ∀ i j' c, to i = some j' → s[i]? = some c → ∃ e ∈ V, e.dir = c.dir ∧ e.id = c.id := fun i j' c ht hc => by
    obtain ⟨e, he, hx⟩ := I.has (.inl i) ⟨(M.bs i j' ht).1, fun h => by rw [ht] at h; cases h.1⟩
    refine ⟨e, he, ?_⟩
    cases hx with
    | stay _ c' _ hc' _ _ g => rw [som hc' hc] at g; exact ⟨g.1, g.2.1⟩
    | here _ _ c' _ _ hc' _ _ _ _ g => rw [som hc' hc] at g; exact ⟨g.1, g.2.1⟩
    | come _ _ c' _ _ hc' _ _ _ g => rw [som hc' hc] at g; exact ⟨g.1, g.2.1⟩
    | asid _ _ _ c' _ _ hc' _ _ _ _ g => rw [som hc' hc] at g; exact ⟨g.1, g.2.1⟩
  cases hf : fr j with
  | none =>
    have := M.left k j a b ha hj hf hbd hid
    cases ht : to k with
    | none => exact absurd ht this
    | some j' =>
      obtain ⟨e, he, h1, h2⟩ := hold k j' a ht ha
      exact ⟨e, he, h1.trans had, h2⟩
  | some i =>
    have ht := (M.inv i j).2 hf
    obtain ⟨c, hc⟩ : ∃ c, s[i]? = some c := ⟨_, List.getElem?_eq_getElem (M.bs i j ht).1⟩
    obtain ⟨k1, k2⟩ := M.kind i j c b ht hc hj
    obtain ⟨e, he, h1, h2⟩ := hold i j c ht hc
    exact ⟨e, he, h1.trans (k1.trans hbd), h2.trans (k2.trans hid.symm)⟩
end
end Go.Proofs.YtpjjagalekolaaaGreatDoor

/- Steps that wait for one another: counted, let go, and a ring of them found. No program in this text. -/
namespace Go.Proofs.YtpjjagalekolaaaGreatDoor
set_option linter.unusedVariables false
set_option linter.unusedSimpArgs false

def upN {α : Type} (f : Nat → α) (k : Nat) (v : α) : Nat → α := fun x => if x = k then v else f x
theorem upN_at {α : Type} (f : Nat → α) (k : Nat) (v : α) : upN f k v k = v := if_pos rfl
theorem upN_ne {α : Type} (f : Nat → α) {k x : Nat} (v : α) (h : x ≠ k) : upN f k v x = f x := if_neg h

/-- How often y stands in the lists of those that are not off. -/
def cntE (fd : Nat → List Nat) (off : Nat → Bool) (y : Nat) : Nat → Nat
  | 0 => 0
  | n + 1 => cntE fd off y n + (if off n then 0 else (fd n).count y)
theorem cntE_same {fd : Nat → List Nat} {off off' : Nat → Bool} {y : Nat} : ∀ n, (∀ x, x < n → off x = off' x) → cntE fd off y n = cntE fd off' y n
  | 0, _ => rfl
  | n + 1, h => by rw [cntE, cntE, cntE_same n (fun x hx => h x (by omega)), h n (by omega)]
theorem cntE_off {fd : Nat → List Nat} {off : Nat → Bool} {y x : Nat} (hx : off x = false) : ∀ n, x < n → cntE fd (upN off x true) y n + (fd x).count y = cntE fd off y n
  | 0, h => by omega
  | n + 1, h => by
    rw [cntE, cntE]
    by_cases e : x = n
    · subst e
      rw [upN_at, if_pos rfl, hx, cntE_same (off' := off) x (fun z hz => upN_ne _ _ (by omega))]
      simp
    · rw [upN_ne _ _ (by omega), ← cntE_off hx n (by omega)]
      omega
theorem cntE_zero {fd : Nat → List Nat} {off : Nat → Bool} {y : Nat} : ∀ n, cntE fd off y n = 0 → ∀ x, x < n → off x = false → y ∉ fd x
  | 0, _, x, h, _ => by omega
  | n + 1, h0, x, h, hx => by
    rw [cntE] at h0
    by_cases e : x = n
    · subst e
      rw [hx] at h0
      simp only [Bool.false_eq_true, if_false] at h0
      intro hm
      have := List.count_pos_iff.2 hm
      omega
    · exact cntE_zero n (by omega) x (by omega) hx
theorem cntE_pos {fd : Nat → List Nat} {off : Nat → Bool} {y : Nat} : ∀ n, cntE fd off y n ≠ 0 → ∃ x, x < n ∧ off x = false ∧ y ∈ fd x
  | 0, h => by simp [cntE] at h
  | n + 1, h => by
    rw [cntE] at h
    by_cases e : cntE fd off y n = 0
    · cases ho : off n with
      | true => rw [ho, e] at h; simp at h
      | false =>
        rw [ho, e] at h
        simp only [Bool.false_eq_true, if_false, Nat.zero_add] at h
        exact ⟨n, by omega, ho, List.count_pos_iff.1 (by omega)⟩
    · obtain ⟨x, h1, h2⟩ := cntE_pos n e
      exact ⟨x, by omega, h2⟩
theorem cntE_ge {fd : Nat → List Nat} {off : Nat → Bool} {y x : Nat} (hx : off x = false) (n : Nat) (h : x < n) : (fd x).count y ≤ cntE fd off y n := by
  have := cntE_off (fd := fd) (y := y) hx n h
  omega

/-- Those that wait are let go, one after another: what they still wait for, and who need wait no more. -/
def relW (ws : Nat → Nat) : List Nat → Nat → Nat
  | [] => ws
  | y :: L => relW (upN ws y (ws y - 1)) L
def relN (ws : Nat → Nat) : List Nat → List Nat
  | [] => []
  | y :: L => (if ws y = 1 then [y] else []) ++ relN (upN ws y (ws y - 1)) L
theorem relW_snoc : ∀ (L : List Nat) (ws : Nat → Nat) (y : Nat), relW ws (L ++ [y]) = upN (relW ws L) y (relW ws L y - 1)
  | [], ws, y => rfl
  | x :: L, ws, y => by rw [List.cons_append, relW, relW, relW_snoc L]
theorem relN_snoc : ∀ (L : List Nat) (ws : Nat → Nat) (y : Nat), relN ws (L ++ [y]) = relN ws L ++ (if relW ws L y = 1 then [y] else [])
  | [], ws, y => by
    simp only [List.nil_append, relN, List.append_nil]
    rfl
  | x :: L, ws, y => by rw [List.cons_append, relN, relN, relN_snoc L, relW, List.append_assoc]
theorem rel_all : ∀ (L : List Nat) (ws : Nat → Nat), (∀ y, L.count y ≤ ws y) → (∀ y, relW ws L y + L.count y = ws y) ∧ (relN ws L).Nodup ∧ ∀ y, y ∈ relN ws L ↔ 0 < L.count y ∧ L.count y = ws y
  | [], ws, h => by simp [relW, relN]
  | x :: L, ws, h => by
    have hx := h x
    rw [List.count_cons_self] at hx
    have hc : ∀ y, y ≠ x → (x :: L).count y = L.count y := fun y hy => by rw [List.count_cons_of_ne (fun e => hy e.symm)]
    have h' : ∀ y, L.count y ≤ upN ws x (ws x - 1) y := fun y => by
      by_cases e : y = x
      · subst e; rw [upN_at]; omega
      · rw [upN_ne _ _ e, ← hc y e]; exact h y
    obtain ⟨i1, i2, i3⟩ := rel_all L _ h'
    refine ⟨fun y => ?_, ?_, fun y => ?_⟩
    · rw [relW]
      have := i1 y
      by_cases e : y = x
      · subst e; rw [upN_at] at this; rw [List.count_cons_self]; omega
      · rw [upN_ne _ _ e] at this; rw [hc y e]; exact this
    · rw [relN]
      by_cases e : ws x = 1
      · rw [if_pos e, List.singleton_append, List.nodup_cons]
        refine ⟨fun hm => ?_, i2⟩
        have := (i3 x).1 hm
        rw [upN_at] at this
        omega
      · rw [if_neg e, List.nil_append]; exact i2
    · rw [relN, List.mem_append, i3]
      by_cases e : y = x
      · subst e
        rw [upN_at, List.count_cons_self]
        by_cases e1 : ws y = 1
        · rw [if_pos e1]
          constructor
          · intro _; omega
          · intro _; left; simp
        · rw [if_neg e1]
          constructor
          · rintro (h | h)
            · simp at h
            · omega
          · intro h; right; omega
      · rw [upN_ne _ _ e, hc y e]
        constructor
        · rintro (h | h)
          · split at h
            · simp at h; exact absurd h e
            · simp at h
          · exact h
        · intro h; exact .inr h

/-- How far the steps are: ws: for how many each waits; fz: has it let go those that wait for its Path; dn: is it done; rd: those that wait for none. -/
structure RInv (n : Nat) (fd md : Nat → List Nat) (ws : Nat → Nat) (fz dn : Nat → Bool) (rd : List Nat) : Prop where
  cnt : ∀ y, y < n → ws y = cntE fd fz y n + cntE md dn y n
  nd : rd.Nodup
  ready : ∀ y ∈ rd, y < n ∧ ws y = 0 ∧ dn y = false
  all : ∀ y, y < n → ws y = 0 → y ∈ rd ∨ dn y = true
  df : ∀ y, dn y = true → fz y = true
  d0 : ∀ y, dn y = true → y < n ∧ ws y = 0
  fb : ∀ x y, y ∈ fd x → x < n ∧ y < n
  mb : ∀ x y, y ∈ md x → x < n ∧ y < n

section
variable {n : Nat} {fd md : Nat → List Nat} {ws : Nat → Nat} {fz dn : Nat → Bool} {rd : List Nat}

/-- What a ready step waited for has been let go. -/
theorem RInv.gone (R : RInv n fd md ws fz dn rd) {y : Nat} (hy : y < n) (h0 : ws y = 0) : (∀ x, y ∈ fd x → fz x = true) ∧ ∀ x, y ∈ md x → dn x = true := by
  have hc := R.cnt y hy
  constructor
  · intro x hx
    cases h : fz x with
    | true => rfl
    | false => exact absurd hx (cntE_zero n (by omega) x (R.fb x y hx).1 h)
  · intro x hx
    cases h : dn x with
    | true => rfl
    | false => exact absurd hx (cntE_zero n (by omega) x (R.mb x y hx).1 h)

/-- A list of those that wait for x is let go. -/
theorem RInv.free (R : RInv n fd md ws fz dn rd) {x : Nat} (hx : x < n) (hz : fz x = false) (hd : dn x = false) : RInv n fd md (relW ws (fd x)) (upN fz x true) dn (relN ws (fd x) ++ rd) := by
  have hle : ∀ y, (fd x).count y ≤ ws y := fun y => by
    by_cases hy : y < n
    · have := cntE_ge (fd := fd) (y := y) hz n hx
      have := R.cnt y hy
      omega
    · have : (fd x).count y = 0 := List.count_eq_zero.2 (fun h => hy (R.fb x y h).2)
      omega
  obtain ⟨h1, h2, h3⟩ := rel_all _ _ hle
  refine ⟨fun y hy => ?_, ?_, fun y hy => ?_, fun y hy h0 => ?_, fun y h => ?_, fun y h => ?_, R.fb, R.mb⟩
  · have e1 := cntE_off (fd := fd) (y := y) hz n hx
    have e2 := R.cnt y hy
    have e3 := h1 y
    omega
  · rw [List.nodup_append]
    refine ⟨h2, R.nd, fun a ha b hb e => ?_⟩
    subst e
    have := (h3 a).1 ha
    have := (R.ready a hb).2.1
    omega
  · rcases List.mem_append.1 hy with hy | hy
    · have := (h3 y).1 hy
      have e3 := h1 y
      have hm : y ∈ fd x := List.count_pos_iff.1 this.1
      refine ⟨(R.fb x y hm).2, by omega, ?_⟩
      cases hd' : dn y with
      | false => rfl
      | true =>
        have := (R.d0 y hd').2
        omega
    · obtain ⟨g1, g2, g3⟩ := R.ready y hy
      have := h1 y
      exact ⟨g1, by omega, g3⟩
  · have e3 := h1 y
    by_cases hc : 0 < (fd x).count y
    · exact .inl (List.mem_append.2 (.inl ((h3 y).2 ⟨hc, by omega⟩)))
    · rcases R.all y hy (by omega) with h | h
      · exact .inl (List.mem_append.2 (.inr h))
      · exact .inr h
  · by_cases e : y = x
    · subst e; rw [upN_at]
    · rw [upN_ne _ _ e]; exact R.df y h
  · have e3 := h1 y
    obtain ⟨g1, g2⟩ := R.d0 y h
    exact ⟨g1, by omega⟩

/-- A step that is ready, and has let go those that wait for its Path, is done: those that wait for what it makes are let go. -/
theorem RInv.done (R : RInv n fd md ws fz dn rd) {x : Nat} {rd' : List Nat} (hp : rd.Perm (x :: rd')) (hz : fz x = true) (hself : x ∉ md x) : RInv n fd md (relW ws (md x)) fz (upN dn x true) (relN ws (md x) ++ rd') := by
  obtain ⟨hx, hw, hd⟩ := R.ready x (hp.mem_iff.2 (by simp))
  have hnd := hp.nodup_iff.1 R.nd
  rw [List.nodup_cons] at hnd
  have hrd' : ∀ y, y ∈ rd' → y ∈ rd := fun y hy => hp.mem_iff.2 (List.mem_cons_of_mem _ hy)
  have hle : ∀ y, (md x).count y ≤ ws y := fun y => by
    by_cases hy : y < n
    · have := cntE_ge (fd := md) (y := y) hd n hx
      have := R.cnt y hy
      omega
    · have : (md x).count y = 0 := List.count_eq_zero.2 (fun h => hy (R.mb x y h).2)
      omega
  obtain ⟨h1, h2, h3⟩ := rel_all _ _ hle
  refine ⟨fun y hy => ?_, ?_, fun y hy => ?_, fun y hy h0 => ?_, fun y h => ?_, fun y h => ?_, R.fb, R.mb⟩
  · have e1 := cntE_off (fd := md) (y := y) hd n hx
    have e2 := R.cnt y hy
    have e3 := h1 y
    omega
  · rw [List.nodup_append]
    refine ⟨h2, hnd.2, fun a ha b hb e => ?_⟩
    subst e
    have := (h3 a).1 ha
    have := (R.ready a (hrd' a hb)).2.1
    omega
  · rcases List.mem_append.1 hy with hy | hy
    · have := (h3 y).1 hy
      have e3 := h1 y
      have hm : y ∈ md x := List.count_pos_iff.1 this.1
      refine ⟨(R.mb x y hm).2, by omega, ?_⟩
      rw [upN_ne _ _ (fun e => by rw [e] at hm; exact hself hm)]
      cases hd' : dn y with
      | false => rfl
      | true =>
        have := (R.d0 y hd').2
        omega
    · obtain ⟨g1, g2, g3⟩ := R.ready y (hrd' y hy)
      have := h1 y
      exact ⟨g1, by omega, by rw [upN_ne _ _ (fun e => by rw [e] at hy; exact hnd.1 hy)]; exact g3⟩
  · have e3 := h1 y
    by_cases e : y = x
    · subst e; exact .inr (upN_at _ _ _)
    · rw [upN_ne _ _ e]
      by_cases hc : 0 < (md x).count y
      · exact .inl (List.mem_append.2 (.inl ((h3 y).2 ⟨hc, by omega⟩)))
      · rcases R.all y hy (by omega) with h | h
        · rcases List.mem_cons.1 (hp.mem_iff.1 h) with h | h
          · exact absurd h e
          · exact .inl (List.mem_append.2 (.inr h))
        · exact .inr h
  · by_cases e : y = x
    · subst e; exact hz
    · rw [upN_ne _ _ e] at h; exact R.df y h
  · have e3 := h1 y
    by_cases e : y = x
    · subst e; exact ⟨hx, by omega⟩
    · rw [upN_ne _ _ e] at h
      obtain ⟨g1, g2⟩ := R.d0 y h
      exact ⟨g1, by omega⟩
theorem RInv.perm (R : RInv n fd md ws fz dn rd) {rd' : List Nat} (hp : rd'.Perm rd) : RInv n fd md ws fz dn rd' :=
  ⟨R.cnt, hp.nodup_iff.2 R.nd, fun y hy => R.ready y (hp.mem_iff.1 hy), fun y hy h => (R.all y hy h).imp (fun h => hp.mem_iff.2 h) id, R.df, R.d0, R.fb, R.mb⟩

/-- Who is reached from a list, by way of those that wait for one another. -/
inductive Rch (E : Nat → List Nat) (L : List Nat) : Nat → Prop
  | first (y : Nat) (h : y ∈ L) : Rch E L y
  | next (x y : Nat) (h : Rch E L x) (hy : y ∈ E x) : Rch E L y
theorem Rch.trans {E : Nat → List Nat} {L : List Nat} {x z : Nat} (h : Rch E L x) (h2 : Rch E (E x) z) : Rch E L z := by
  induction h2 with
  | first y hy => exact .next x y h hy
  | next y z _ hy ih => exact .next y z ih hy
theorem Rch.sub {E : Nat → List Nat} {L L' : List Nat} {z : Nat} (h : Rch E L z) (hs : ∀ y ∈ L, y ∈ L') : Rch E L' z := by
  induction h with
  | first y hy => exact .first y (hs y hy)
  | next x y _ hy ih => exact .next x y ih hy

/-- Of some numbers that an order without rings orders, one has none ahead of it. -/
theorem least_of (n : Nat) (Q : Nat → Prop) (r : Nat → Nat → Prop) (irr : ∀ x, Q x → ¬ r x x) (tr : ∀ x y z, r x y → r y z → r x z) (hb : ∀ x, Q x → x < n) (x0 : Nat) (h0 : Q x0) : ∃ x, Q x ∧ ∀ y, Q y → ¬ r y x := by
  classical
  have key : ∀ (m : Nat) (x : Nat), Q x → ((List.range n).filter (fun y => decide (Q y ∧ r y x))).length ≤ m → ∃ x, Q x ∧ ∀ y, Q y → ¬ r y x := by
    intro m
    induction m with
    | zero =>
      intro x hx hm
      refine ⟨x, hx, fun y hy hr => ?_⟩
      have : y ∈ (List.range n).filter (fun y => decide (Q y ∧ r y x)) := List.mem_filter.2 ⟨List.mem_range.2 (hb y hy), by simpa using ⟨hy, hr⟩⟩
      rw [List.eq_nil_of_length_eq_zero (Nat.le_zero.1 hm)] at this
      cases this
    | succ m ih =>
      intro x hx hm
      by_cases h : ∃ y, Q y ∧ r y x
      · obtain ⟨y, hy, hr⟩ := h
        refine ih y hy ?_
        have hle : ((List.range n).filter (fun z => decide (Q z ∧ r z y))).length < ((List.range n).filter (fun z => decide (Q z ∧ r z x))).length := by
          have hsub : ((List.range n).filter (fun z => decide (Q z ∧ r z y))) = (((List.range n).filter (fun z => decide (Q z ∧ r z x))).filter (fun z => decide (Q z ∧ r z y))) := by
            rw [List.filter_filter]
            refine List.filter_congr (fun z _ => ?_)
            rw [Bool.eq_iff_iff]
            simp only [decide_eq_true_eq, Bool.and_eq_true]
            exact ⟨fun h => ⟨h, h.1, tr z y x h.2 hr⟩, fun h => h.1⟩
          rw [hsub]
          refine Nat.lt_of_le_of_ne (List.length_filter_le _ _) (fun e => ?_)
          have hall := List.length_filter_eq_length_iff.1 e y (List.mem_filter.2 ⟨List.mem_range.2 (hb y hy), by simpa using ⟨hy, hr⟩⟩)
          simp only [decide_eq_true_eq] at hall
          exact irr y hy hall.2
        omega
      · exact ⟨x, hx, fun y hy hr => h ⟨y, hy, hr⟩⟩
  exact key _ x0 h0 (Nat.le_refl _)

/-- Where none is ready and not all are done, there is a ring of steps: a move that waits for itself. -/
theorem RInv.ring (R : RInv n fd md ws fz dn []) (mv : Nat → Prop) (rk : Nat → Nat) (hf : ∀ x y, y ∈ fd x → mv x ∨ rk x < rk y) (hm : ∀ x y, y ∈ md x → rk x < rk y) {y0 : Nat} (hy : y0 < n) (hd : dn y0 = false) :
    ∃ k, mv k ∧ dn k = false ∧ fz k = false ∧ Rch (fun x => (if fz x then [] else fd x) ++ md x) (if fz k then [] else fd k) k := by
  refine Classical.byContradiction (fun hno => ?_)
  have pred : ∀ y, y < n → dn y = false → ∃ x, dn x = false ∧ x < n ∧ ((fz x = false ∧ y ∈ fd x) ∨ y ∈ md x) := fun y hy hd => by
    have hw : ws y ≠ 0 := fun h => by
      rcases R.all y hy h with h | h
      · cases h
      · rw [hd] at h; cases h
    have hc := R.cnt y hy
    by_cases e : cntE fd fz y n = 0
    · obtain ⟨x, h1, h2, h3⟩ := cntE_pos (fd := md) (off := dn) (y := y) n (by omega)
      exact ⟨x, h2, h1, .inr h3⟩
    · obtain ⟨x, h1, h2, h3⟩ := cntE_pos n e
      refine ⟨x, ?_, h1, .inl ⟨h2, h3⟩⟩
      cases hdx : dn x with
      | false => rfl
      | true => rw [R.df x hdx] at h2; cases h2
  -- what no move reaches goes back for ever
  have stuck : ∀ (m : Nat) (y : Nat), rk y ≤ m → y < n → dn y = false → (∀ k, mv k → dn k = false → fz k = false → ¬ Rch (fun x => (if fz x then [] else fd x) ++ md x) (if fz k then [] else fd k) y) → False := by
    intro m
    induction m with
    | zero =>
      intro y hr hy hd hn
      obtain ⟨x, h1, h2, h3⟩ := pred y hy hd
      rcases h3 with ⟨hz, h3⟩ | h3
      · rcases hf x y h3 with h | h
        · exact hn x h h1 hz (.first y (by rw [hz]; exact h3))
        · omega
      · have := hm x y h3; omega
    | succ m ih =>
      intro y hr hy hd hn
      obtain ⟨x, h1, h2, h3⟩ := pred y hy hd
      have step : rk x < rk y → False := fun hlt => ih x (by omega) h2 h1 (fun k hk1 hk2 hk3 hr => hn k hk1 hk2 hk3 (.next x y hr (by
        rcases h3 with ⟨hz, h3⟩ | h3
        · rw [hz]; exact List.mem_append.2 (.inl h3)
        · exact List.mem_append.2 (.inr h3))))
      rcases h3 with ⟨hz, h3'⟩ | h3'
      · rcases hf x y h3' with h | h
        · exact hn x h h1 hz (.first y (by rw [hz]; exact h3'))
        · exact step h
      · exact step (hm x y h3')
  by_cases hex : ∃ k, mv k ∧ dn k = false ∧ fz k = false ∧ k < n
  · obtain ⟨k0, a1, a2, a3, a4⟩ := hex
    obtain ⟨k, ⟨b1, b2, b3, b4⟩, hmin⟩ := least_of n (fun k => mv k ∧ dn k = false ∧ fz k = false ∧ k < n) (fun x y => Rch (fun z => (if fz z then [] else fd z) ++ md z) (if fz x then [] else fd x) y) (fun x hx hr => hno ⟨x, hx.1, hx.2.1, hx.2.2.1, hr⟩) (fun x y z h1 h2 => h1.trans (h2.sub (fun w hw => List.mem_append.2 (.inl hw)))) (fun x hx => hx.2.2.2) k0 ⟨a1, a2, a3, a4⟩
    refine stuck _ k (Nat.le_refl _) b4 b2 (fun k' c1 c2 c3 hr => ?_)
    have hk' : k' < n := by
      cases hr with
      | first _ h => rw [c3] at h; exact (R.fb k' _ h).1
      | next x _ h h2 =>
        clear h2
        induction h with
        | first _ h => rw [c3] at h; exact (R.fb k' _ h).1
        | next _ _ _ _ ih => exact ih
    exact hmin k' ⟨c1, c2, c3, hk'⟩ hr
  · refine stuck _ y0 (Nat.le_refl _) hy hd (fun k c1 c2 c3 hr => hex ⟨k, c1, c2, c3, ?_⟩)
    cases hr with
    | first _ h => rw [c3] at h; exact (R.fb k _ h).1
    | next x _ h h2 =>
      clear h2
      induction h with
      | first _ h => rw [c3] at h; exact (R.fb k _ h).1
      | next _ _ _ _ ih => exact ih
end
end Go.Proofs.YtpjjagalekolaaaGreatDoor

