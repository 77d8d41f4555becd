/- LN, LP, OE, SA0: in one text. -/
import Derived.Test.YtpjjagalekolaaaGreatDoorP41
import Derived.Test.YtpjjagalekolaaaGreatDoorP15
import Derived.Test.YtpjjagalekolaaaGreatDoorP16
import Derived.Test.YtpjjagalekolaaaGreatDoorP29XH
import Derived.Test.YtpjjagalekolaaaGreatDoorP26
/- Rows of numbers handed in with spare room, and kept. -/
namespace Go.Proofs.YtpjjagalekolaaaGreatDoor
open Go.RowKit
set_option linter.unusedVariables false
set_option linter.unusedSimpArgs false

def intV (l : List Int) : List Value := l.map (fun t => Value.int .i64 t)
theorem intV_len (l : List Int) : (intV l).length = l.length * 1 := by simp [intV]
theorem intV_one (l : List Int) : ∀ u ∈ intV l, u.oneCell' = true := by
  intro u hu
  obtain ⟨t, _, rfl⟩ := List.mem_map.1 hu
  rfl
def IntsIn (w : World) (b off : Nat) (l : List Int) : Prop := ∀ (k : Nat) (hk : k < l.length), w.cell? ⟨b, off + k, none⟩ = some (.int .i64 l[k])
theorem intV_at {w : World} {b off : Nat} {l : List Int} (h : IntsIn w b off l) : ∀ j u, (intV l)[j]? = some u → w.cell? ((⟨b, off, none⟩ : Addr).add j) = some u := by
  intro j u hu
  have hj : j < l.length := by have := (List.getElem?_eq_some_iff.1 hu).1; simpa [intV] using this
  rw [Addr.add_lit, h j hj]
  rw [intV, List.getElem?_map, List.getElem?_eq_getElem hj] at hu
  simpa using hu
/-- What a list with spare room is. -/
def RoomyI (w : World) (B g cap : Nat) (l : List Int) : Prop := B ≤ g ∧ g < w.heap.size ∧ l.length + 1 ≤ cap ∧ cap ≤ maxLen ∧ IntsIn w g 0 (l ++ [-77])
theorem roomyI_of {w : World} {B : Nat} {v : Value} {l : List Int} (h : w.ownsRow B 3 1 v (l.length + 1) (intV l ++ intV [-77])) : ∃ g cap, v = .slice (some ⟨g, 0, none⟩) (l.length + 1) cap ∧ RoomyI w B g cap l := by
  have hc := h
  rcases h.2 with ⟨_, h0⟩ | ⟨g, cap, cur, rfl, hB, hg, hn, hm, _⟩
  · omega
  · refine ⟨g, cap, rfl, hB, heap_lt hg, hn, hm, fun k hk => ?_⟩
    have e : intV (l ++ [-77]) = intV l ++ intV [-77] := by simp [intV]
    have := hc.cells (g := g) rfl k (.int .i64 (l ++ [-77])[k]) (by rw [← e, intV, List.getElem?_map, List.getElem?_eq_getElem hk]; rfl)
    have e2 : ((⟨g, 0, none⟩ : Addr).add k) = ⟨g, k, none⟩ := by unfold Addr.add; split <;> simp_all
    rw [e2] at this
    rwa [Nat.zero_add]
theorem mineI_new (w : World) : ∀ j u, (intV [-77])[j]? = some u → (w.alloc (.cells #[.int .i64 (-77)] 3)).cell? ((⟨w.heap.size, 0, none⟩ : Addr).add j) = some u := by
  intro j u hu
  rw [Addr.add_lit, Nat.zero_add, World.cell?_alloc_at _ _ _ _ rfl, ← hu]
  match j with
  | 0 => rfl
  | n + 1 => rfl

set_option maxHeartbeats 2000000 in
set_option maxRecDepth 100000 in
theorem roomyI_any (b off cap : Nat) (l : List Int) (w : World) (hl : l.length ≤ 2000000) (hb : b < w.heap.size) (hc : IntsIn w b off l) :
    Calls Tryz.prog 9 #[.slice (some ⟨b, off, none⟩) l.length cap] w fun e w' => ∃ g cap', e = .returned (.slice (some ⟨g, 0, none⟩) l.length cap') ∧ RoomyI w' w.heap.size g cap' l ∧ Below w.heap.size w w' := by
  obtain ⟨i0, hi, hz0, hz1', hz2⟩ := info_parts info3
  have hneq := fun (u : World) (a : Option Addr) (n c : Nat) => Lib.run_eql_slice_nil (P := Tryz.prog) u 23 3 a n c 0 0 Tryz.underlying23
  go_enter Tryz.func9, Tryz.ntmps9
  go_wp2_with (first | (at_builtin; refine wpList_append_own _ rfl (.const (.slice none 0 0)) (.tmp 5) 23 rfl w.heap.size 3 i0 _ 1 8 Tryz.underlying23 hi hz0 hz1' hz2 rfl (by decide) (.slice none 0 0) 0 [] rfl (World.ownsRow_nil _ _ _ _) ⟨b, off, none⟩ l.length cap (intV l) rfl (intV_len l) (intV_at hc) (intV_one l) (by unfold maxLen; omega) (by omega) (Nat.le_refl _) ?_; intro v1 w1 hown1 hg1 _; simp only [Nat.zero_add, List.nil_append] at hown1; have hb1 := (Below.refl w.heap.size w).grown hg1 (Nat.le_refl _) (fun k hk => by simp [Value.ownBlock] at hk); have hz1 := hb1.size) | (at_builtin; refine wpList_append_own _ rfl (.tmp 6) (.tmp 7) 23 rfl w.heap.size 3 i0 _ 1 8 Tryz.underlying23 hi hz0 hz1' hz2 rfl (by decide) _ _ _ rfl (hown1.alloc _) ⟨_, 0, none⟩ 1 1 (intV [(-77 : Int)]) rfl rfl (mineI_new _) (intV_one _) (by unfold maxLen; omega) (by omega) (by simp only [World.size_alloc]; omega) ?_; intro v2 w2 hown2 hg2 _; obtain ⟨g, cap2, hv2, hr⟩ := roomyI_of hown2; subst hv2; have hb2 := (hb1.alloc hz1 _).grown hg2 (by simp only [World.size_alloc]; omega) (fun k hk => (hown1.lt k hk).1); have hcap := hr.2.2.1; have hcm := hr.2.2.2.1))
  go_ret
  exact ⟨g, cap2, rfl, hr, hb2⟩

set_option maxHeartbeats 1000000 in
theorem roomyI_nil (w : World) :
    Calls Tryz.prog 9 #[.slice none 0 0] w fun e w' => e = .returned (.slice none 0 0) ∧ w' = w := by
  have hneq := fun (u : World) (a : Option Addr) (n c : Nat) => Lib.run_eql_slice_nil (P := Tryz.prog) u 23 3 a n c 0 0 Tryz.underlying23
  go_enter Tryz.func9, Tryz.ntmps9
  go_wp2
  go_ret
  exact ⟨rfl, rfl⟩

set_option maxHeartbeats 2000000 in
set_option maxRecDepth 100000 in
theorem keptI_any (g cg b off cap : Nat) (l : List Int) (w : World) (B : Nat) (hl : l.length ≤ 2000000) (hr : RoomyI w B g cg l) (hc : IntsIn w b off l) :
    Calls Tryz.prog 13 #[.slice (some ⟨g, 0, none⟩) l.length cg, .slice (some ⟨b, off, none⟩) l.length cap] w fun e w' => e = .returned (.bool true) ∧ Below w.heap.size w w' := by
  have hneq := fun (u : World) (a : Option Addr) (n c : Nat) => Lib.run_eql_slice_nil (P := Tryz.prog) u 23 3 a n c 0 0 Tryz.underlying23
  obtain ⟨hB, hg, hcap, hcm, hrow⟩ := hr
  have HR : Hid (∀ (n k : Nat) (hk : k < l.length), (w.drewN n).cell? ⟨g, k, none⟩ = some (.int .i64 l[k])) := fun n k hk => by
    have := hrow k (by simp; omega)
    rw [Nat.zero_add, List.getElem_append_left hk] at this
    exact this
  have HC : Hid (∀ (n k : Nat) (hk : k < l.length), (w.drewN n).cell? ⟨b, off + k, none⟩ = some (.int .i64 l[k])) := fun n k hk => hc k hk
  have HM : Hid (∀ n : Nat, (w.drewN n).cell? ⟨g, l.length, none⟩ = some (.int .i64 (-77))) := fun n => by
    have := hrow l.length (by simp)
    rw [Nat.zero_add, List.getElem_append_right (Nat.le_refl _)] at this
    simpa using this
  have hcap' : ((l.length : Int) + 1) ≤ (cg : Int) := by omega
  unfold maxLen at hcm
  clear hrow hc
  go_enter Tryz.func13, Tryz.ntmps13
  go_wp2
  go_loopw [5] (fun i wr => ∃ k n : Nat, k ≤ l.length ∧ i = .int .i64 k ∧ Hid (wr = w.drewN n)) (fun i _ => l.length - (intOf i).toNat)
  case atStart => exact ⟨0, 0, Nat.zero_le _, rfl, rfl⟩
  case round =>
    obtain ⟨k, n, hk, rfl, HW⟩ := hrel
    have hw := HW.out
    subst hw
    clear HW
    by_cases hlt : k < l.length
    · have hlt' : (k : Int) < (l.length : Int) := by omega
      have a0 := HR.out n k hlt
      have b0 := HC.out n k hlt
      generalize l[k] = t at *
      generalize hW : w.drewN n = W at *
      go_wp2
      go_quiet (fail)
      go_wp2
      exact ⟨⟨k + 1, n + nq, by omega, by go_num, (by rw [← hW, World.drewN_drewN]; first | exact rfl | exact trivial)⟩, by simp [intOf]; omega⟩
    · have hke : k = l.length := by omega
      subst hke
      have m0 := HM.out n
      go_wp2
      go_ret
      exact ⟨rfl, below_drewE w n⟩
set_option maxHeartbeats 1000000 in
theorem keptI_nil (w : World) :
    Calls Tryz.prog 13 #[.slice none 0 0, .slice none 0 0] w fun e w' => e = .returned (.bool true) ∧ w' = w := by
  have hneq := fun (u : World) (a : Option Addr) (n c : Nat) => Lib.run_eql_slice_nil (P := Tryz.prog) u 23 3 a n c 0 0 Tryz.underlying23
  go_enter Tryz.func13, Tryz.ntmps13
  go_wp2
  go_ret
  exact ⟨rfl, rfl⟩

/-- The argument, and what stands for it with spare room. -/
inductive IntPair (w : World) : Value → Value → List Int → Prop
  | nil : IntPair w (.slice none 0 0) (.slice none 0 0) []
  | row (b off c B g cap : Nat) (l : List Int) (hb : b < w.heap.size) (he : IntsIn w b off l) (h : RoomyI w B g cap l) : IntPair w (.slice (some ⟨b, off, none⟩) l.length c) (.slice (some ⟨g, 0, none⟩) l.length cap) l
theorem IntsIn.below {w w' : World} {b off : Nat} {l : List Int} (h : IntsIn w b off l) (hb : Below w.heap.size w w') (hlt : b < w.heap.size) : IntsIn w' b off l := fun k hk => cell_kept hb hlt (h k hk)
theorem IntPair.below {w w' : World} {v v' : Value} {l : List Int} (h : IntPair w v v' l) (hb : Below w.heap.size w w') : IntPair w' v v' l := by
  cases h with
  | nil => exact .nil
  | row b off c B g cap _ hlt he h => exact .row b off c B g cap l (by have := hb.size; omega) (he.below hb hlt) ⟨h.1, by have := hb.size; have := h.2.1; omega, h.2.2.1, h.2.2.2.1, h.2.2.2.2.below hb h.2.1⟩
theorem IntPair.rm {w : World} {v v' : Value} {l : List Int} (h : IntPair w v v' l) : IntsAt w v' l := by
  cases h with
  | nil => exact .nil
  | row b off c B g cap _ hlt he h => exact .row g 0 cap l h.2.1 (fun k hk => by
      have := h.2.2.2.2 k (by simp; omega)
      rw [List.getElem_append_left hk] at this
      exact this)
theorem roomyI_u {w : World} {v : Value} {l : List Int} (h : IntsAt w v l) (hl : l.length ≤ 2000000) : Calls Tryz.prog 9 #[v] w fun e w' => ∃ v', e = .returned v' ∧ IntPair w' v v' l ∧ Below w.heap.size w w' := by
  cases h with
  | nil => exact (roomyI_nil w).mono (fun e w' he => ⟨_, he.1, .nil, by rw [he.2]; exact Below.refl _ _⟩)
  | row b off cap _ hlt h =>
    refine (roomyI_any b off cap l w hl hlt h).mono ?_
    rintro e w' ⟨g, cap', rfl, hr, hb⟩
    exact ⟨_, rfl, .row b off cap _ g cap' l (by have := hb.size; omega) (IntsIn.below h hb hlt) hr, hb⟩
theorem keptI_u {w : World} {v v' : Value} {l : List Int} (h : IntPair w v v' l) (hl : l.length ≤ 2000000) : Calls Tryz.prog 13 #[v', v] w fun e w' => e = .returned (.bool true) ∧ Below w.heap.size w w' := by
  cases h with
  | nil => exact (keptI_nil w).mono (fun e w' he => ⟨he.1, by rw [he.2]; exact Below.refl _ _⟩)
  | row b off c B g cap _ hlt he h => exact keptI_any g cap b off c l w B hl h he
end Go.Proofs.YtpjjagalekolaaaGreatDoor

/- The document's first errors of a plan. -/
namespace Go.Proofs.YtpjjagalekolaaaGreatDoor
open Go.RowKit
set_option linter.unusedVariables false
set_option linter.unusedSimpArgs false

def szB (s : List EntD) (e : EntD) : Bool := s.any fun a => !a.dir && a.id == e.id && !(a.size == e.size)
def leS (s : List EntD) (store : List Int) (least : Int) (e : EntD) : Int := if e.dir then least else if !(hasB s e.id || store.contains e.id) && (least == 0 || decide (e.id < least)) then e.id else least
def leL (s : List EntD) (store : List Int) (t : List EntD) : Int := t.foldl (leS s store) 0
def szL (s t : List EntD) : Bool := t.any fun e => !e.dir && szB s e
theorem szB_take {s : List EntD} {e : EntD} {i : Nat} {o : EntD} (h : s[i]? = some o) : szB (s.take (i + 1)) e = (szB (s.take i) e || (!o.dir && o.id == e.id && !(o.size == e.size))) := by
  unfold szB
  rw [List.take_add_one, h]
  simp [List.any_append]
theorem szL_take {s t : List EntD} {i : Nat} {e : EntD} (h : t[i]? = some e) : szL s (t.take (i + 1)) = (szL s (t.take i) || (!e.dir && szB s e)) := by
  unfold szL
  rw [List.take_add_one, h]
  simp [List.any_append]
theorem leL_take {s t : List EntD} {store : List Int} {i : Nat} {e : EntD} (h : t[i]? = some e) : leL s store (t.take (i + 1)) = leS s store (leL s store (t.take i)) e := by
  unfold leL
  rw [List.take_add_one, h, List.foldl_append]
  rfl
theorem con_take {l : List Int} {x y : Int} {i : Nat} (h : l[i]? = some y) : (l.take (i + 1)).contains x = ((l.take i).contains x || y == x) := by
  rw [List.take_add_one, h, Bool.eq_iff_iff, Bool.or_eq_true, List.contains_iff_mem, List.contains_iff_mem, List.mem_append, beq_iff_eq]
  constructor
  · rintro (h' | h')
    · exact .inl h'
    · right
      have : x = y := by simpa using h'
      exact this.symm
  · rintro (h' | h')
    · exact .inl h'
    · right
      simp [h']
section
variable {fold : Bool} {s t : List EntD} {store : List Int}
theorem any_has (S : VolOk fold s) {id : Int} (h : 1 ≤ id) : (s.any fun o => o.id == id) = hasB s id := by
  unfold hasB
  rw [Bool.eq_iff_iff, List.any_eq_true, List.any_eq_true]
  constructor
  · rintro ⟨a, ha, e⟩
    have e' : a.id = id := by simpa using e
    obtain ⟨_, _, f⟩ := fieldsB_true _ (S.fields a ha)
    rcases f with ⟨_, z, _⟩ | ⟨z, _⟩
    · omega
    · exact ⟨a, ha, by simp [z, e']⟩
  · rintro ⟨a, ha, e⟩
    exact ⟨a, ha, by simp at e; simp [e.2]⟩
theorem other_sz (S : VolOk fold s) {e : EntD} (h : fieldsB e = true) : otherB s e = (!e.dir && szB s e) := by
  unfold otherB szB
  obtain ⟨_, _, f⟩ := fieldsB_true _ h
  rcases f with ⟨d, z, q⟩ | ⟨d, z, _⟩
  · rw [d]
    simp only [Bool.not_true, Bool.false_and, List.any_eq_false]
    intro a ha
    obtain ⟨_, _, g⟩ := fieldsB_true _ (S.fields a ha)
    rcases g with ⟨_, z', q'⟩ | ⟨_, z', _⟩
    · simp [z', q', z, q]
    · have : ¬ a.id = e.id := by omega
      simp [this]
  · rw [d]
    simp only [Bool.not_false, Bool.true_and]
    rw [Bool.eq_iff_iff, List.any_eq_true, List.any_eq_true]
    constructor
    · rintro ⟨a, ha, e1⟩
      simp at e1
      obtain ⟨_, _, g⟩ := fieldsB_true _ (S.fields a ha)
      rcases g with ⟨_, z', _⟩ | ⟨d', _⟩
      · omega
      · exact ⟨a, ha, by simp [d', e1.1, e1.2]⟩
    · rintro ⟨a, ha, e1⟩
      simp at e1
      exact ⟨a, ha, by simp [e1.1.2, e1.2]⟩
theorem other_all (S : VolOk fold s) (T : VolOk fold t) : t.any (otherB s) = szL s t := by
  unfold szL
  rw [Bool.eq_iff_iff, List.any_eq_true, List.any_eq_true]
  constructor
  · rintro ⟨e, he, h⟩; exact ⟨e, he, by rw [← other_sz S (T.fields e he)]; exact h⟩
  · rintro ⟨e, he, h⟩; exact ⟨e, he, by rw [other_sz S (T.fields e he)]; exact h⟩
theorem miss_le (S : VolOk fold s) {least : Int} {e : EntD} (h : fieldsB e = true) : missStep s store least e = leS s store least e := by
  unfold missStep leS
  obtain ⟨_, _, f⟩ := fieldsB_true _ h
  rcases f with ⟨d, _⟩ | ⟨d, z, _⟩
  · simp [d]
  · rw [any_has S z, d]
    cases hasB s e.id with
    | true => simp
    | false =>
      cases store.contains e.id with
      | true => simp
      | false =>
        by_cases h0 : least = 0
        · simp [h0]
        · by_cases h1 : least ≤ e.id
          · have : ¬ e.id < least := by omega
            simp [h0, h1, this]
          · have : e.id < least := by omega
            simp [h0, h1, this]
theorem miss_leL (S : VolOk fold s) : ∀ (t : List EntD) (l : Int), (∀ e ∈ t, fieldsB e = true) → t.foldl (missStep s store) l = t.foldl (leS s store) l
  | [], l, _ => rfl
  | e :: t, l, h => by
    rw [List.foldl_cons, List.foldl_cons, miss_le S (h e (by simp))]
    exact miss_leL S t _ (fun x hx => h x (by simp [hx]))
theorem leL_pos : ∀ (t : List EntD) (l : Int), 0 ≤ l → (∀ e ∈ t, fieldsB e = true) → 0 ≤ t.foldl (leS s store) l
  | [], l, h0, _ => h0
  | e :: t, l, h0, h => by
    rw [List.foldl_cons]
    refine leL_pos t _ ?_ (fun x hx => h x (by simp [hx]))
    unfold leS
    obtain ⟨_, _, f⟩ := fieldsB_true _ (h e (by simp))
    rcases f with ⟨d, _⟩ | ⟨d, z, _⟩
    · simp [d]; exact h0
    · rw [d]
      simp only [Bool.false_eq_true, if_false]
      split <;> omega
end

set_option maxHeartbeats 16000000 in
set_option maxRecDepth 100000 in
theorem planErr11 {u : World} {sv tv nv : Value} {fold : Bool} {s t : List EntD} {store : List Int} (hs : RowAt u sv s) (ht : RowAt u tv t) (hn : IntsAt u nv store) (ss : SmallL s) (st : SmallL t) (hln : store.length ≤ 2000000) :
    Calls Tryz.prog 11 #[sv, tv, .bool fold, nv] u fun e w' => e = .returned (.tuple #[.int .i64 (refL fold s t store).1, .int .i64 (refL fold s t store).2]) ∧ Below u.heap.size u w' := by
  have HS := hidD hs
  have HT := hidD ht
  have HN := hidD hn
  have hls := ss.1
  have hlt := st.1
  have HC1 := hidD (refCheckF fold hs ss)
  have HC2 := hidD (fun (w1 : World) (hb : Below u.heap.size u w1) => refCheckF fold (ht.below hb (Nat.le_refl _)) st)
  obtain ⟨sa, sc, hsv⟩ := hs.val
  obtain ⟨ta, tc, htv⟩ := ht.val
  obtain ⟨na, nc, hnv⟩ := hn.val
  subst hsv htv hnv
  clear hs ht hn ss st
  obtain ⟨R, hR⟩ : ∃ R, refL fold s t store = R := ⟨_, rfl⟩
  rw [hR]
  have HR := hidD hR
  clear hR
  go_enter Tryz.func11, Tryz.ntmps11
  go_wp2_with fail
  refine HC1.out.mono ?_
  rintro e w1 ⟨c1, k1, rfl, hc1, hb1⟩
  have B1 := hidD hb1
  clear hb1 HC1
  cases hts : treeF fold s with
  | false =>
    rw [hts] at hc1
    have hc1' : (c1 != 0) = true := by simpa using hc1
    have E1 : Hid (R = (4, 0)) := by
      show R = _
      rw [← HR.out]; unfold refL; rw [hts]; rfl
    clear hc1 hts HR
    go_wp2_with fail
    go_ret2
    exact ⟨by rw [E1.out]; rfl, B1.out⟩
  | true =>
    rw [hts] at hc1
    obtain rfl : c1 = 0 := by simpa using hc1
    clear hc1
    go_wp2_with fail
    refine (HC2.out _ B1.out).mono ?_
    rintro e w2 ⟨c2, k2, rfl, hc2, hb2⟩
    have B2 := hidD (B1.out.trans (hb2.mono B1.out.size))
    clear hb2 HC2 B1
    cases htt : treeF fold t with
    | false =>
      rw [htt] at hc2
      have hc2' : (c2 != 0) = true := by simpa using hc2
      have E1 : Hid (R = (4, 1)) := by
        show R = _
        rw [← HR.out]; unfold refL; rw [hts, htt]; rfl
      clear hc2 hts htt HR
      go_wp2_with fail
      go_ret2
      exact ⟨by rw [E1.out]; rfl, B2.out⟩
    | true =>
      rw [htt] at hc2
      obtain rfl : c2 = 0 := by simpa using hc2
      clear hc2
      have VS := hidD (tree_vol hts)
      have VT := hidD (tree_vol htt)
      have hOA := other_all VS.out VT.out
      have hML : missL s store t = leL s store t := miss_leL VS.out t 0 VT.out.fields
      have hLP : 0 ≤ leL s store t := leL_pos t 0 (Int.le_refl _) VT.out.fields
      have E1 : Hid (R = if szL s t then (6, 0) else if leL s store t = 0 then (0, 0) else (7, leL s store t)) := by
        show R = _
        rw [← HR.out]; unfold refL; rw [hts, htt, hOA, hML]; rfl
      clear hOA hML hts htt HR
      have HLP := hidD hLP
      clear hLP
      go_wp2_with fail
      go_loopw [14, 12, 13] (fun kv lv zv wr => ∃ (k : Nat), k ≤ t.length ∧ kv = .int .i64 k ∧ lv = .int .i64 (leL s store (t.take k)) ∧ zv = .bool (szL s (t.take k)) ∧ Hid (Below u.heap.size u wr)) (fun kv _ _ _ => t.length - (intOf kv).toNat)
      case atStart => exact ⟨0, Nat.zero_le _, rfl, rfl, rfl, B2⟩
      case round =>
        clear B2
        obtain ⟨k, hk, rfl, rfl, rfl, HB⟩ := hrel
        by_cases hkl : k < t.length
        · have hkl' : (k : Int) < (t.length : Int) := by omega
          obtain ⟨b, off, cap, ⟨q, d, id, z, m⟩, hv, ho, hc⟩ := HT.out.ent hkl
          cases hv
          dsimp only at hc
          have HCT := hidD hc
          have HL := hidD (leL_take (s := s) (store := store) ho)
          have HZ := hidD (szL_take (s := s) ho)
          obtain ⟨c0, c1, c2, c3, c4⟩ := hc _ HB.out
          clear ho hc c0 c4
          generalize leL s store (t.take k) = le at *
          generalize szL s (t.take k) = sz at *
          cases d with
          | true =>
            have HL2 : Hid (leL s store (t.take (k + 1)) = le) := by show _ = _; have := HL.out; rw [this]; rfl
            have HZ2 : Hid (szL s (t.take (k + 1)) = sz) := by show _ = _; have := HZ.out; rw [this]; simp
            clear HL HZ
            go_wp2_with fail
            exact ⟨⟨k + 1, by omega, by go_num, by rw [HL2.out], by rw [HZ2.out], HB⟩, by simp [intOf]; omega⟩
          | false =>
            go_wp2_with fail
            go_loopw [16, 15, 13] (fun iv kv zv wr => ∃ (i : Nat), i ≤ s.length ∧ iv = .int .i64 i ∧ kv = .bool (hasB (s.take i) id) ∧ zv = .bool (sz || szB (s.take i) (EntD.mk q false id z m)) ∧ Hid (Below u.heap.size u wr)) (fun iv _ _ _ => s.length - (intOf iv).toNat)
            case atStart => exact ⟨0, Nat.zero_le _, rfl, rfl, by simp [szB], HB⟩
            case round =>
              clear HB c1 c2 c3
              obtain ⟨i, hi, rfl, rfl, rfl, HB⟩ := hrel
              by_cases hil : i < s.length
              · have hil' : (i : Int) < (s.length : Int) := by omega
                obtain ⟨b2, off2, cap2, ⟨q2, d2, id2, z2, m2⟩, hv2, ho2, hc2⟩ := HS.out.ent hil
                cases hv2
                dsimp only at hc2
                have HS3 := hidD hc2
                obtain ⟨e0, e1, e2, e3, e4⟩ := hc2 _ HB.out
                obtain ⟨c0, c1, c2, c3, c4⟩ := HCT.out _ HB.out
                have HA1 := hidD (hasB_take (id := id) ho2)
                have HZ1 := hidD (szB_take (e := EntD.mk q false id z m) ho2)
                dsimp only at HA1 HZ1
                clear ho2 hc2 e0 e4 c0 c4 c1
                generalize hasB (s.take i) id = kn at *
                generalize szB (s.take i) (EntD.mk q false id z m) = sb at *
                cases d2 with
                | true =>
                  have HA2 : Hid (hasB (s.take (i + 1)) id = kn) := by show _ = _; have := HA1.out; rw [this]; simp
                  have HZ2 : Hid (szB (s.take (i + 1)) (EntD.mk q false id z m) = sb) := by show _ = _; have := HZ1.out; rw [this]; simp
                  clear HA1 HZ1
                  go_wp2_with fail
                  go_quiet (fail)
                  have HB2 := hidD (HB.out.trans ((below_drewNB wr nq).mono HB.out.size))
                  generalize wr.drewN nq = w5 at *
                  clear HB
                  go_wp2_with fail
                  exact ⟨⟨i + 1, by omega, by go_num, by rw [HA2.out], by rw [HZ2.out], HB2⟩, by simp [intOf]; omega⟩
                | false =>
                  by_cases hid : id2 = id
                  · subst hid
                    have HA2 : Hid (hasB (s.take (i + 1)) id2 = true) := by show _ = _; have := HA1.out; rw [this]; simp
                    clear HA1
                    go_wp2_with fail
                    go_quiet (fail)
                    have HB2 := hidD (HB.out.trans ((below_drewNB wr nq).mono HB.out.size))
                    have a2 : Hid (∀ v, Below u.heap.size u v → v.cell? ⟨b2, off2 + i * 5 + 3, none⟩ = some (.int .i64 z2) ∧ v.cell? ⟨b, off + k * 5 + 3, none⟩ = some (.int .i64 z)) := fun v hv => ⟨(HS3.out _ hv).2.2.2.1, (HCT.out _ hv).2.2.2.1⟩
                    generalize wr.drewN nq = w5 at *
                    obtain ⟨y1, y2⟩ := a2.out _ HB2.out
                    clear HB e1 e2 e3 c2 c3 a2
                    generalize hzz : (sz || sb) = zz at *
                    cases zz with
                    | true =>
                      have HZ2 : Hid ((sz || szB (s.take (i + 1)) (EntD.mk q false id2 z m)) = true) := by
                        show _ = _
                        have := HZ1.out
                        rw [this, ← Bool.or_assoc, hzz]; simp
                      clear HZ1 hzz
                      go_wp2_with fail
                      go_quiet (fail)
                      have HB3 := hidD (HB2.out.trans ((below_drewNB w5 nq).mono HB2.out.size))
                      generalize w5.drewN nq = w6 at *
                      clear HB2 y1 y2
                      go_wp2_with fail
                      exact ⟨⟨i + 1, by omega, by go_num, by rw [HA2.out], by rw [HZ2.out], HB3⟩, by simp [intOf]; omega⟩
                    | false =>
                      by_cases hz2 : z2 = z
                      · have HZ2 : Hid ((sz || szB (s.take (i + 1)) (EntD.mk q false id2 z m)) = false) := by
                          show _ = _
                          have := HZ1.out
                          rw [this, ← Bool.or_assoc, hzz]; simp [hz2]
                        subst hz2
                        clear HZ1 hzz
                        go_wp2_with fail
                        go_quiet (fail)
                        have HB3 := hidD (HB2.out.trans ((below_drewNB w5 nq).mono HB2.out.size))
                        generalize w5.drewN nq = w6 at *
                        clear HB2 y1 y2
                        go_wp2_with fail
                        exact ⟨⟨i + 1, by omega, by go_num, by rw [HA2.out], by rw [HZ2.out], HB3⟩, by simp [intOf]; omega⟩
                      · have hz3 : (z2 != z) = true := by simp [hz2]
                        have HZ2 : Hid ((sz || szB (s.take (i + 1)) (EntD.mk q false id2 z m)) = true) := by
                          show _ = _
                          have := HZ1.out
                          rw [this, ← Bool.or_assoc, hzz]; simp [hz2]
                        clear HZ1 hzz hz2
                        go_wp2_with fail
                        go_quiet (fail)
                        have HB3 := hidD (HB2.out.trans ((below_drewNB w5 nq).mono HB2.out.size))
                        generalize w5.drewN nq = w6 at *
                        clear HB2 y1 y2
                        go_wp2_with fail
                        exact ⟨⟨i + 1, by omega, by go_num, by rw [HA2.out], by rw [HZ2.out], HB3⟩, by simp [intOf]; omega⟩
                  · have hidb : (id2 == id) = false := by simp [hid]
                    have HA2 : Hid (hasB (s.take (i + 1)) id = kn) := by show _ = _; have := HA1.out; rw [this]; simp [hidb]
                    have HZ2 : Hid (szB (s.take (i + 1)) (EntD.mk q false id z m) = sb) := by show _ = _; have := HZ1.out; rw [this]; simp [hid]
                    clear HA1 HZ1 hid
                    go_wp2_with fail
                    go_quiet (fail)
                    have HB2 := hidD (HB.out.trans ((below_drewNB wr nq).mono HB.out.size))
                    generalize wr.drewN nq = w5 at *
                    clear HB
                    go_wp2_with fail
                    exact ⟨⟨i + 1, by omega, by go_num, by rw [HA2.out], by rw [HZ2.out], HB2⟩, by simp [intOf]; omega⟩
              · have hie : i = s.length := by omega
                subst hie
                rw [List.take_length]
                generalize hkn : hasB s id = kn at *
                generalize hsb : szB s (EntD.mk q false id z m) = sb at *
                have HKN := hidD hkn
                have HSB := hidD hsb
                clear hkn hsb
                go_wp2_with fail
                go_loopw [17, 15] (fun iv kv wr => ∃ (i : Nat), i ≤ store.length ∧ iv = .int .i64 i ∧ kv = .bool (kn || (store.take i).contains id) ∧ Hid (Below u.heap.size u wr)) (fun iv _ _ => store.length - (intOf iv).toNat)
                case atStart => exact ⟨0, Nat.zero_le _, rfl, by simp, HB⟩
                case round =>
                  clear HB
                  obtain ⟨i, hi, rfl, rfl, HB⟩ := hrel
                  by_cases hil : i < store.length
                  · have hil' : (i : Int) < (store.length : Int) := by omega
                    obtain ⟨nb, noff, ncap, hv3, hcell⟩ := HN.out.at hil
                    cases hv3
                    have n0 := hcell _ HB.out
                    have c2 := (HCT.out _ HB.out).2.2.1
                    have HCN := hidD (con_take (x := id) (List.getElem?_eq_getElem hil))
                    clear hcell
                    generalize store[i] = y at *
                    generalize hkk : (kn || (store.take i).contains id) = kk at *
                    cases kk with
                    | true =>
                      have HK2 : Hid ((kn || (store.take (i + 1)).contains id) = true) := by
                        show _ = _
                        rw [HCN.out, ← Bool.or_assoc, hkk]; rfl
                      clear HCN hkk
                      go_wp2_with fail
                      go_quiet (fail)
                      have HB2 := hidD (HB.out.trans ((below_drewNB wr nq).mono HB.out.size))
                      generalize wr.drewN nq = w5 at *
                      clear HB n0 c2
                      go_wp2_with fail
                      exact ⟨⟨i + 1, by omega, by go_num, by rw [HK2.out], HB2⟩, by simp [intOf]; omega⟩
                    | false =>
                      by_cases hy : y = id
                      · have HK2 : Hid ((kn || (store.take (i + 1)).contains id) = true) := by
                          show _ = _
                          rw [HCN.out, ← Bool.or_assoc, hkk]; simp [hy]
                        subst hy
                        clear HCN hkk
                        go_wp2_with fail
                        go_quiet (fail)
                        have HB2 := hidD (HB.out.trans ((below_drewNB wr nq).mono HB.out.size))
                        generalize wr.drewN nq = w5 at *
                        clear HB n0 c2
                        go_wp2_with fail
                        exact ⟨⟨i + 1, by omega, by go_num, by rw [HK2.out], HB2⟩, by simp [intOf]; omega⟩
                      · have hyb : (y == id) = false := by simp [hy]
                        have HK2 : Hid ((kn || (store.take (i + 1)).contains id) = false) := by
                          show _ = _
                          rw [HCN.out, ← Bool.or_assoc, hkk]; simp [hy]
                        clear HCN hkk hy
                        go_wp2_with fail
                        go_quiet (fail)
                        have HB2 := hidD (HB.out.trans ((below_drewNB wr nq).mono HB.out.size))
                        generalize wr.drewN nq = w5 at *
                        clear HB n0 c2
                        go_wp2_with fail
                        exact ⟨⟨i + 1, by omega, by go_num, by rw [HK2.out], HB2⟩, by simp [intOf]; omega⟩
                  · have hie : i = store.length := by omega
                    subst hie
                    rw [List.take_length]
                    have c2 := (HCT.out _ HB.out).2.2.1
                    have HZ2 : Hid (szL s (t.take (k + 1)) = (sz || sb)) := by
                      show _ = _
                      have h1 := HZ.out
                      rw [h1, ← HSB.out]; simp
                    have HL1 : Hid (leL s store (t.take (k + 1)) = if !(kn || store.contains id) && (le == 0 || decide (id < le)) then id else le) := by
                      show _ = _
                      rw [HL.out]
                      unfold leS
                      rw [← HKN.out]
                      rfl
                    clear HL HZ HSB HKN
                    generalize (kn || store.contains id) = kk at *
                    generalize (sz || sb) = zz at *
                    cases kk with
                    | true =>
                      have HL2 : Hid (leL s store (t.take (k + 1)) = le) := by
                        show _ = _
                        rw [HL1.out]; simp
                      clear HL1
                      go_wp2_with fail
                      exact ⟨⟨k + 1, by omega, by go_num, by rw [HL2.out], by rw [HZ2.out], HB⟩, by simp [intOf]; omega⟩
                    | false =>
                      by_cases h0 : le = 0
                      · subst h0
                        have HL2 : Hid (leL s store (t.take (k + 1)) = id) := by
                          show _ = _
                          rw [HL1.out]; simp
                        clear HL1
                        go_wp2_with fail
                        exact ⟨⟨k + 1, by omega, by go_num, by rw [HL2.out], by rw [HZ2.out], HB⟩, by simp [intOf]; omega⟩
                      · have h0b : (le == 0) = false := by simp [h0]
                        by_cases h1 : id < le
                        · have HL2 : Hid (leL s store (t.take (k + 1)) = id) := by
                            show _ = _
                            rw [HL1.out]; simp [h1]
                          clear HL1 h0
                          go_wp2_with fail
                          exact ⟨⟨k + 1, by omega, by go_num, by rw [HL2.out], by rw [HZ2.out], HB⟩, by simp [intOf]; omega⟩
                        · have HL2 : Hid (leL s store (t.take (k + 1)) = le) := by
                            show _ = _
                            rw [HL1.out]; simp [h0, h1]
                          clear HL1 h0
                          go_wp2_with fail
                          exact ⟨⟨k + 1, by omega, by go_num, by rw [HL2.out], by rw [HZ2.out], HB⟩, by simp [intOf]; omega⟩
        · have hke : k = t.length := by omega
          subst hke
          rw [List.take_length]
          cases hz : szL s t with
          | true =>
            have E2 : Hid (R = (6, 0)) := by
              show R = _
              rw [E1.out, hz]; rfl
            clear E1 hz
            go_wp2_with fail
            go_ret2
            exact ⟨by rw [E2.out]; rfl, HB.out⟩
          | false =>
            by_cases h0 : leL s store t = 0
            · have E2 : Hid (R = (0, 0)) := by
                show R = _
                rw [E1.out, hz, h0]; rfl
              clear E1 hz
              rw [h0]
              clear h0
              go_wp2_with fail
              go_ret2
              exact ⟨by rw [E2.out]; rfl, HB.out⟩
            · have hp : 0 < leL s store t := by have := HLP.out; omega
              have E2 : Hid (R = (7, leL s store t)) := by
                show R = _
                rw [E1.out, hz, if_neg h0]; rfl
              clear E1 hz HLP h0
              generalize leL s store t = le at *
              go_wp2_with fail
              go_ret2
              exact ⟨by rw [E2.out]; rfl, HB.out⟩
end Go.Proofs.YtpjjagalekolaaaGreatDoor

/- The plan, whole. -/
namespace Go.Proofs.YtpjjagalekolaaaGreatDoor
open Go.RowKit
set_option linter.unusedVariables false
set_option linter.unusedSimpArgs false

/-- Each content that both trees have is held by some file. -/
def KeptQ (s t V : List EntD) : Prop := ∀ a ∈ s, ∀ b ∈ t, a.dir = false → b.dir = false → a.id = b.id → ∃ e ∈ V, e.dir = false ∧ e.id = a.id
/-- A plan, and what it comes of. -/
def Planned (fold : Bool) (s t : List EntD) (ops : List OpD) : Prop := ∃ (to fr : Nat → Option Nat) (ms : List Mean) (lv cm : Nat → Option Nat) (fd md : Nat → List Nat), Pair fold s t ∧ Mat fold s t to fr ∧ Draft fold s t to fr ms lv cm fd md ∧ NeedS fold s t ms ∧ PlanOk fold (KeptQ s t) s t ms lv ops
def PlanA (u : World) (fold : Bool) (s t : List EntD) (store : List Int) (e : Ending) (w' : World) : Prop := ∃ v, e = .returned (.tuple #[v, .int .i64 (refL fold s t store).1, .int .i64 (refL fold s t store).2]) ∧ Below u.heap.size u w' ∧ ((refL fold s t store).1 = 0 → ∃ ops, w'.ownsRow u.heap.size 59 6 v ops.length (flatOp ops) ∧ Planned fold s t ops) ∧ (¬ (refL fold s t store).1 = 0 → v = .slice none 0 0)
theorem refL_at {fold : Bool} {s t : List EntD} {store : List Int} (h : (refL fold s t store).1 = 0) : (refL fold s t store).2 = 0 := by
  obtain ⟨_, h1, h2, h3, h4⟩ := refL_ok h
  unfold refL
  rw [h1, h2, h3, h4]
  rfl

set_option maxHeartbeats 8000000 in
set_option maxRecDepth 100000 in
theorem planN {u : World} {sv tv nv : Value} {fold : Bool} {s t : List EntD} {store : List Int} (hs : RowAt u sv s) (ht : RowAt u tv t) (hn : IntsAt u nv store) (ss : SmallL s) (st : SmallL t) (hln : store.length ≤ 2000000) :
    Calls Tryz.prog 36 #[sv, tv, .bool fold, nv] u fun e w' => PlanA u fold s t store e w' := by
  have HS := hidD hs
  have HT := hidD ht
  have HSS := hidD ss
  have HST := hidD st
  have HR := hidD (refusalN (fold := fold) hs ht hn ss st hln)
  have HOK := hidD (fun h => refL_ok (fold := fold) (s := s) (t := t) (store := store) h)
  have HAT := hidD (fun h => refL_at (fold := fold) (s := s) (t := t) (store := store) h)
  obtain ⟨sa, sc, hsv⟩ := hs.val
  obtain ⟨ta, tc, htv⟩ := ht.val
  obtain ⟨na, nc, hnv⟩ := hn.val
  subst hsv htv hnv
  clear hs ht hn ss st
  unfold PlanA
  obtain ⟨r1, h1⟩ : ∃ r, (refL fold s t store).1 = r := ⟨_, rfl⟩
  obtain ⟨r2, h2⟩ : ∃ r, (refL fold s t store).2 = r := ⟨_, rfl⟩
  rw [h1] at HOK
  rw [h1, h2] at HAT HR ⊢
  clear h1 h2
  go_enter Tryz.func36, Tryz.ntmps36
  go_wp2_with fail
  refine HR.out.mono ?_
  rintro e w1 ⟨rfl, hb1⟩
  have HB1 := hidD hb1
  clear hb1 HR
  by_cases h0 : r1 = 0
  · obtain rfl := HAT.out h0
    have P := hidD (HOK.out h0).1
    have h0' : (r1 != 0) = false := by simp [h0]
    have H0E := hidD h0
    clear h0
    have X1 : Hid (Two w1 (.slice sa s.length sc) (.slice ta t.length tc) s t) := ⟨HS.out.below HB1.out (Nat.le_refl _), HT.out.below HB1.out (Nat.le_refl _), HSS.out, HST.out, P.out.ls, P.out.lt⟩
    clear HOK HAT
    go_wp2_with fail
    refine (stepsN X1.out P.out).mono ?_
    rintro e w2 ⟨v2, rfl, hst⟩
    obtain ⟨to, fr, ms, lv, cm, fd, md, ws, fv, mv, hM, hD, hN, hfew, hb2, hw, hws, hf, hm, hv⟩ := hst
    have H0 : Plan0 fold (KeptQ s t) s t to fr ms lv cm fd md := ⟨P.out, hM, hD, hfew, fun p V I a ha b hb had hbd hid => by
      obtain ⟨k, hk⟩ := List.mem_iff_getElem?.1 ha
      exact I.kept hM hk hb had hbd hid⟩
    have HP := hidD (show ∀ ops, PlanOk fold (KeptQ s t) s t ms lv ops → Planned fold s t ops from fun ops h => ⟨to, fr, ms, lv, cm, fd, md, P.out, hM, hD, hN, h⟩)
    have HB2 := hidD (HB1.out.trans (hb2.mono HB1.out.size))
    have hsz := HB1.out.size
    have hsz2 := HB2.out.size
    rcases hv with ⟨rfl, va, vc, rfl⟩ | ⟨g, vc, rfl, hg, hG, hF⟩
    · have HI := hidD (inOrder0 H0 (fun x y h => by have := (hf x y h).1; simp at this) (fun x y h => by have := (hm x y h).1; simp at this) w2 va vc)
      clear H0 hM hD hb2 hw hws hf hm
      go_wp2_with fail
      refine HI.out.mono ?_
      rintro e w3 ⟨v3, ops, rfl, hown, hb3, hok⟩
      obtain ⟨pa, pn, pc, hv3⟩ := shape_of hown
      subst hv3
      have HO := hidD (own_monoK hown hsz2)
      have HK := hidD (HP.out ops hok)
      have HB3 := hidD (HB2.out.trans (hb3.mono HB2.out.size))
      clear hown hb3 hok HI
      go_wp2_with fail
      go_ret3
      exact ⟨_, by rw [H0E.out]; rfl, HB3.out, fun _ => ⟨ops, HO.out, HK.out⟩, fun h => absurd H0E.out h⟩
    · have HI := hidD (inOrderN (c := vc) H0 hG hF hw hws hf hm)
      clear H0 hM hD hb2 hw hws hf hm hG hF
      go_wp2_with fail
      refine HI.out.mono ?_
      rintro e w3 ⟨v3, ops, rfl, hown, hk3, hok⟩
      obtain ⟨pa, pn, pc, hv3⟩ := shape_of hown
      subst hv3
      have HO := hidD (own_monoK hown hsz2)
      have HK := hidD (HP.out ops hok)
      have HB3 := hidD (show Below u.heap.size u w3 from ⟨hk3.os.trans HB2.out.os, hk3.tape.trans HB2.out.tape, hk3.output.trans HB2.out.output, Nat.le_trans hsz2 hk3.size, fun b hb => (hk3.block b (by omega) (by omega)).trans (HB2.out.block b hb)⟩)
      clear hown hk3 hok HI
      go_wp2_with fail
      go_ret3
      exact ⟨_, by rw [H0E.out]; rfl, HB3.out, fun _ => ⟨ops, HO.out, HK.out⟩, fun h => absurd H0E.out h⟩
  · have h0' : (r1 != 0) = true := by simp [h0]
    clear HOK HAT
    go_wp2_with fail
    go_ret3
    exact ⟨_, rfl, HB1.out, fun h => absurd h h0, fun _ => rfl⟩
set_option maxHeartbeats 4000000 in
set_option maxRecDepth 100000 in
theorem facePlan {u : World} {sv tv nv : Value} {fold : Bool} {s t : List EntD} {store : List Int} (hs : RowAt u sv s) (ht : RowAt u tv t) (hn : IntsAt u nv store) (ss : SmallL s) (st : SmallL t) (hln : store.length ≤ 2000000) :
    Calls Tryz.prog 10 #[sv, tv, .bool fold, nv] u fun e w' => PlanA u fold s t store e w' := by
  have HP := hidD (planN (fold := fold) hs ht hn ss st hln)
  obtain ⟨sa, sc, hsv⟩ := hs.val
  obtain ⟨ta, tc, htv⟩ := ht.val
  obtain ⟨na, nc, hnv⟩ := hn.val
  subst hsv htv hnv
  clear hs ht hn ss st
  go_enter Tryz.func10, Tryz.ntmps10
  go_wp2_with fail
  refine HP.out.mono ?_
  rintro e w1 ⟨ov, rfl, hb, h1, h2⟩
  obtain ⟨oa, on, oc, hov⟩ : ∃ a n c, ov = .slice a n c := by
    by_cases h0 : (refL fold s t store).1 = 0
    · obtain ⟨ops, ho, _⟩ := h1 h0
      exact shape_of ho
    · exact ⟨_, _, _, h2 h0⟩
  subst hov
  have H1 := hidD (And.intro hb (And.intro h1 h2))
  clear hb h1 h2 HP
  go_wp2_with fail
  go_ret3
  exact ⟨_, rfl, H1.out.1, H1.out.2.1, H1.out.2.2⟩
end Go.Proofs.YtpjjagalekolaaaGreatDoor

/- A plan, as the law Plans wants it. -/
namespace Go.Proofs.YtpjjagalekolaaaGreatDoor
open Go.RowKit
set_option linter.unusedVariables false
set_option linter.unusedSimpArgs false

theorem flatOp_get (l : List OpD) : ∀ (k : Nat) (h : k < l.length) (j : Nat) (hj : j < 6), (flatOp l)[k * 6 + j]? = l[k].cells[j]? := by
  induction l with
  | nil => intro k h; simp at h
  | cons o l ih =>
    intro k h j hj
    simp only [flatOp, List.map_cons, List.flatten_cons]
    cases k with
    | zero =>
      rw [List.getElem?_append_left (by simp [OpD.cells]; omega)]; simp
    | succ k =>
      rw [List.getElem?_append_right (by simp [OpD.cells]; omega)]
      have e : (k + 1) * 6 + j - o.cells.length = k * 6 + j := by simp [OpD.cells]; omega
      rw [e]
      exact ih k (by simpa using h) j hj
theorem at_flatOp {w : World} {g : Nat} {l : List OpD} (h : ∀ j u, (flatOp l)[j]? = some u → w.cell? ⟨g, j, none⟩ = some u) : OpsAt w g 0 l := by
  intro k hk j v hv
  have hj : j < 6 := (List.getElem?_eq_some_iff.1 hv).1
  have := h (k * 6 + j) v (by rw [flatOp_get l k hk j hj]; exact hv)
  rwa [Nat.zero_add]
theorem OpRow.ofOwn {w : World} {B : Nat} {v : Value} {l : List OpD} (h : w.ownsRow B 59 6 v l.length (flatOp l)) : OpRow w v l := by
  have hc := h
  rcases h.2 with ⟨rfl, h0⟩ | ⟨g, cap, cur, rfl, hB, hg, hn, hm, _⟩
  · obtain rfl : l = [] := List.eq_nil_of_length_eq_zero h0
    exact .nil
  · refine .row g 0 cap l (heap_lt hg) (at_flatOp fun j u hu => ?_)
    have := hc.cells (g := g) rfl j u hu
    have e2 : ((⟨g, 0, none⟩ : Addr).add j) = ⟨g, j, none⟩ := by unfold Addr.add; split <;> simp_all
    rwa [e2] at this
/-- One operation of such a row. -/
theorem OpRow.op {w : World} {v : Value} {l : List OpD} (h : OpRow w v l) {k : Nat} (hk : k < l.length) : ∃ b off cap o, v = .slice (some ⟨b, off, none⟩) l.length cap ∧ l[k]? = some o ∧ ∀ u : World, Below w.heap.size w u → u.cell? ⟨b, off + k * 6, none⟩ = some (.int .i64 o.kind) ∧ u.cell? ⟨b, off + k * 6 + 1, none⟩ = some (.string o.path) ∧ u.cell? ⟨b, off + k * 6 + 2, none⟩ = some (.string o.dest) ∧ u.cell? ⟨b, off + k * 6 + 3, none⟩ = some (.int .i64 o.id) ∧ u.cell? ⟨b, off + k * 6 + 4, none⟩ = some (.int .i64 o.size) ∧ u.cell? ⟨b, off + k * 6 + 5, none⟩ = some (.int .i64 o.mode) := by
  cases h with
  | nil => simp at hk
  | row b off cap l hb h =>
    refine ⟨b, off, cap, l[k], rfl, List.getElem?_eq_getElem hk, fun u hu => ?_⟩
    have key := fun j v hv => cell_kept hu hb (h k hk j v hv)
    exact ⟨key 0 _ rfl, key 1 _ rfl, key 2 _ rfl, key 3 _ rfl, key 4 _ rfl, key 5 _ rfl⟩

theorem spB_small {n : Nat} (h : n < 100) : (spB n).size ≤ 1500000 := by
  have : (List.range 100).all (fun n => decide ((spN n).length ≤ 10)) = true := by kernel_rfl
  have h1 := of_decide_eq_true (List.all_eq_true.1 this n (List.mem_range.2 h))
  have : (spB n).size = (spN n).length := by simp [spB, ByteArray.size]
  omega
theorem opOf_small {s t : List EntD} {ms : List Mean} {lv : Nat → Option Nat} (ss : SmallL s) (st : SmallL t) {o : OpD} (h : OpOf s t ms lv o) : o.small := by
  have key : ∀ (l : List EntD), SmallL l → ∀ i, (eg l i).path.size ≤ 1500000 := fun l hl i => by
    unfold eg
    cases h : l[i]? with
    | none => exact Nat.zero_le _
    | some a => exact hl.2 a (getE h)
  have e0 : (ByteArray.mk #[]).size ≤ 1500000 := Nat.zero_le _
  cases h with
  | step k m hk =>
    cases m with
    | del i => exact ⟨key s ss i, e0⟩
    | ren i j => exact ⟨key s ss i, key t st j⟩
    | chm i j => exact ⟨key t st j, e0⟩
    | mkd j => exact ⟨key t st j, e0⟩
    | wri j => exact ⟨key t st j, e0⟩
    | cpy j q => exact ⟨key t st q, key t st j⟩
  | back k i j n hk hl hn => exact ⟨spB_small hn, key t st j⟩
  | away k i j n hk hl hn => exact ⟨key s ss i, spB_small hn⟩

/-- A plan, as the laws want it. -/
structure PlanT (fold : Bool) (s t : List EntD) (ops : List OpD) : Prop where
  plan : Planned fold s t ops
  len : ops.length ≤ 240
  small : ∀ o ∈ ops, o.small
  ok : ∀ o ∈ ops, okOp o = true
  try_ : ∃ n, tryP fold 9223372036854775807 s ops = .ok (t, n)
  kept : ∀ k, k ≤ ops.length → KeptQ s t (wayT fold s ops k)
theorem Planned.told {fold : Bool} {s t : List EntD} {ops : List OpD} (h : Planned fold s t ops) (ss : SmallL s) (st : SmallL t) (hts : treeF fold s = true) : PlanT fold s t ops := by
  have hp := h
  obtain ⟨to, fr, ms, lv, cm, fd, md, P, M, D, N, W, hl, hof⟩ := h
  obtain ⟨h1, ⟨n, h2⟩, h3, h4⟩ := W.all
  have hls := P.ls
  have hlt := P.lt
  refine ⟨hp, by omega, fun o ho => opOf_small ss st (hof o ho), h1, ⟨n, ?_⟩, h4⟩
  unfold tryP
  rw [if_neg (by rw [hts]; decide), if_neg (by
    rw [fwrong_scriptB]
    simp only [scriptB, Bool.not_eq_true', Bool.and_eq_false_iff, decide_eq_false_iff_not, not_or, Bool.not_eq_false, decide_eq_true_eq, List.all_eq_true, Bool.not_not]
    exact ⟨by omega, h1⟩), h2]

end Go.Proofs.YtpjjagalekolaaaGreatDoor

