/- IT, IU, IV, IW, IX: in one text. -/
import Derived.Test.YtpjjagalekolaaaGreatDoorP36
import Derived.Test.YtpjjagalekolaaaGreatDoorP38GL
/- A draft in memory and what it says; small questions of the planner: does a thing move, a path's last name, who holds a content. -/
namespace Go.Proofs.YtpjjagalekolaaaGreatDoor
open Go.RowKit
set_option linter.unusedVariables false
set_option linter.unusedSimpArgs false

structure Xs (w0 : World) (x : Dw) (s t : List EntD) : Prop where
  two : Two w0 x.sv x.tv s t
  n : x.n = s.length
  m : x.m = t.length
/-- A draft in memory. -/
def DM (w0 u : World) (x : Dw) (s t : List EntD) (ms : List Mean) (lv cm : Nat → Option Nat) (fd md : Nat → List Nat) (L : Nat) : Prop := ∃ ws stv row, DsN w0 u x lv cm stv ms.length (opAt s t ms (fun _ => none)) ws row (rl fd md) ∧ Wt ms.length ws fd md L
theorem opNow_none (s t : List EntD) (m : Mean) : opNow s t (fun _ => none) m = opM s t m := by cases m <;> rfl
theorem mono_cN {p : Nat → Bool} {n m : Nat} (h : n ≤ m) : cN p n ≤ cN p m := by
  induction h with
  | refl => exact Nat.le_refl _
  | step _ ih => rw [cN]; omega
theorem DA.bound {fold : Bool} {s t : List EntD} {to fr : Nat → Option Nat} {ms : List Mean} {lv cm : Nat → Option Nat} {md : Nat → List Nat} {a c1 c2 d f : Nat} (h : DA fold s t to fr ms lv cm md a c1 c2 d f) (ha : a ≤ s.length) (h1 : c1 ≤ s.length) (h2 : c2 ≤ s.length) (hd : d ≤ t.length) (hf : f ≤ t.length) (hs : s.length ≤ 60) (ht : t.length ≤ 60) : ms.length ≤ 180 := by
  have := h.len
  have := mono_cN (p := fun i => (to i).isNone) ha
  have := mono_cN (p := fun i => !(to i).isNone) h1
  have := mono_cN (p := fun i => !(to i).isNone) h2
  have := mono_cN (p := fun j => (eg t j).dir) hd
  have := mono_cN (p := fun j => !(eg t j).dir) hf
  have k1 := cN_split (fun i => (to i).isNone) s.length
  have k2 := cN_split (fun j => (eg t j).dir) t.length
  have k3 := cN_le (fun i => !(to i).isNone) s.length
  omega
section
variable {w0 u u' : World} {x : Dw} {s t : List EntD} {ms : List Mean} {lv cm : Nat → Option Nat} {fd md : Nat → List Nat} {L : Nat}
theorem DM.below (h : DM w0 u x s t ms lv cm fd md L) (hb : Below u.heap.size u u') : DM w0 u' x s t ms lv cm fd md L := by
  obtain ⟨ws, stv, row, h1, h2⟩ := h
  exact ⟨ws, stv, row, h1.below hb, h2⟩
theorem DM.mono (h : DM w0 u x s t ms lv cm fd md L) {L' : Nat} (hL : L ≤ L') : DM w0 u x s t ms lv cm fd md L' := by
  obtain ⟨ws, stv, row, h1, h2⟩ := h
  exact ⟨ws, stv, row, h1, h2.mono hL⟩
theorem DM.setC (h : DM w0 u x s t ms lv cm fd md L) (i : Nat) (v : Option Nat) (hi : i < x.n) : DM w0 (u.setCell ⟨x.C, i, none⟩ (.int .i64 (optI v))) x s t ms (upN lv i v) cm fd md L := by
  obtain ⟨ws, stv, row, h1, h2⟩ := h
  exact ⟨ws, stv, row, h1.setC i v hi, h2⟩
theorem DM.setE (h : DM w0 u x s t ms lv cm fd md L) (i : Nat) (v : Option Nat) (hi : i < x.m) : DM w0 (u.setCell ⟨x.E, i, none⟩ (.int .i64 (optI v))) x s t ms lv (upN cm i v) fd md L := by
  obtain ⟨ws, stv, row, h1, h2⟩ := h
  exact ⟨ws, stv, row, h1.setE i v hi, h2⟩
theorem DM.d (h : DM w0 u x s t ms lv cm fd md L) : Blk u x.D 164 [x.sv, x.tv, .bool x.fold, .slice (some ⟨x.A, 0, none⟩) x.n x.n, .slice (some ⟨x.B, 0, none⟩) x.m x.m] ∧ u.cell? ⟨x.D, 6, none⟩ = some (.slice (some ⟨x.C, 0, none⟩) x.n x.n) ∧ u.cell? ⟨x.D, 7, none⟩ = some (.slice (some ⟨x.E, 0, none⟩) x.m x.m) := by
  obtain ⟨ws, stv, row, h1, h2⟩ := h
  refine ⟨?_, h1.d.cell 6 rfl, h1.d.cell 7 rfl⟩
  obtain ⟨cur, k1, k2⟩ := h1.d
  refine ⟨cur, k1, fun j v hv => k2 j v ?_⟩
  have hj : j < 5 := (List.getElem?_eq_some_iff.1 hv).1
  match j, hj with
  | 0, _ => exact hv
  | 1, _ => exact hv
  | 2, _ => exact hv
  | 3, _ => exact hv
  | 4, _ => exact hv
theorem DM.w (h : DM w0 u x s t ms lv cm fd md L) : Below w0.heap.size w0 u := by
  obtain ⟨ws, stv, row, h1, h2⟩ := h
  exact h1.w
theorem DM.a (h : DM w0 u x s t ms lv cm fd md L) : Blk u x.A 3 (optV x.to x.n) := by
  obtain ⟨ws, stv, row, h1, h2⟩ := h
  exact h1.a
theorem DM.b (h : DM w0 u x s t ms lv cm fd md L) : Blk u x.B 3 (optV x.fr x.m) := by
  obtain ⟨ws, stv, row, h1, h2⟩ := h
  exact h1.b
theorem DM.c (h : DM w0 u x s t ms lv cm fd md L) : Blk u x.C 3 (optV lv x.n) := by
  obtain ⟨ws, stv, row, h1, h2⟩ := h
  exact h1.c
theorem DM.e (h : DM w0 u x s t ms lv cm fd md L) : Blk u x.E 3 (optV cm x.m) := by
  obtain ⟨ws, stv, row, h1, h2⟩ := h
  exact h1.e
theorem DM.ne (h : DM w0 u x s t ms lv cm fd md L) : x.C ≠ x.E ∧ x.D ≠ x.C ∧ x.D ≠ x.E := by
  obtain ⟨ws, stv, row, h1, h2⟩ := h
  exact ⟨h1.ne.2.2.2.2, h1.d.ne h1.c (by decide), h1.d.ne h1.e (by decide)⟩
/-- A step is put behind the others. -/
theorem DM.add (h : DM w0 u x s t ms lv cm fd md L) (hN : ms.length ≤ 180) (m : Mean) {k : Int} {p q : ByteArray} {id sz mo : Int} (ho : opM s t m = ⟨k, p, q, id, sz, mo⟩) :
    Calls Tryz.prog 150 #[.pointer (some ⟨x.D, 0, none⟩), .agg #[.int .i64 k, .string p, .string q, .int .i64 id, .int .i64 sz, .int .i64 mo]] u fun e w' => e = .returned (.int .i64 ms.length) ∧ DM w0 w' x s t (ms ++ [m]) lv cm fd md L ∧ ∀ (b : Nat) (T : TypeId) (xs : List Value), Blk u b T xs → T ≠ 155 → T ≠ 164 → Blk w' b T xs := by
  obtain ⟨ws, stv, row, h1, h2⟩ := h
  refine (addN h1 (by omega) ⟨k, p, q, id, sz, mo⟩ (op' := opAt s t (ms ++ [m]) (fun _ => none)) (fun i hi => ?_) ?_ (h2.zer _ (Nat.le_refl _))).mono ?_
  · unfold opAt
    rw [List.getElem?_append_left hi]
  · have : (ms ++ [m])[ms.length]? = some m := by simp
    rw [opAt_at this, opNow_none, ho]
  · rintro e w' ⟨rfl, ⟨stv', hS⟩, hF⟩
    refine ⟨rfl, ⟨ws, stv', row, ?_, ?_⟩, hF⟩
    · rw [List.length_append]; exact hS
    · rw [List.length_append]; exact h2.add
theorem wtF_rl (o : Option Nat) (k : Nat) : wtF o k (rl fd md) = rl (wt o k fd) md := by
  cases o with
  | none => rfl
  | some y =>
    show upN (rl fd md) (2 * y) (rl fd md (2 * y) ++ [k]) = _
    rw [rl_f, rl_upF]; rfl
theorem wtM_rl (o : Option Nat) (k : Nat) : wtM o k (rl fd md) = rl fd (wt o k md) := by
  cases o with
  | none => rfl
  | some y =>
    show upN (rl fd md) (2 * y + 1) (rl fd md (2 * y + 1) ++ [k]) = _
    rw [rl_m, rl_upM]; rfl
theorem wtW_ws (o : Option Nat) (k : Nat) (ws : Nat → Nat) : wtW o k ws = wsW o k ws := by cases o <;> rfl
theorem DM.waitF (h : DM w0 u x s t ms lv cm fd md L) (hN : ms.length ≤ 180) (hL : L ≤ 390) {k : Nat} (hk : k < ms.length) (o : Option Nat) (ho : ∀ y, o = some y → y < ms.length) :
    Calls Tryz.prog 157 #[.pointer (some ⟨x.D, 0, none⟩), .int .i64 k, .int .i64 (optI o)] u fun e w' => e = .returned (.tuple #[]) ∧ DM w0 w' x s t ms lv cm (wt o k fd) md (L + 1) ∧ ∀ (b : Nat) (T : TypeId) (xs : List Value), Blk u b T xs → T ≠ 155 → T ≠ 3 → Blk w' b T xs := by
  obtain ⟨ws, stv, row, h1, h2⟩ := h
  refine (waitFreedN h1 hk o ho (h2.small (by omega) (by omega) k) (fun r => Nat.le_trans (rl_len h2.lf h2.lm r) (by omega)) (by omega)).mono ?_
  rintro e w' ⟨rfl, ⟨row', hS⟩, hF⟩
  rw [wtF_rl, wtW_ws] at hS
  exact ⟨rfl, ⟨_, _, row', hS, h2.f hk ho⟩, hF⟩
theorem DM.waitM (h : DM w0 u x s t ms lv cm fd md L) (hN : ms.length ≤ 180) (hL : L ≤ 390) {k : Nat} (hk : k < ms.length) (o : Option Nat) (ho : ∀ y, o = some y → y < ms.length) :
    Calls Tryz.prog 153 #[.pointer (some ⟨x.D, 0, none⟩), .int .i64 k, .int .i64 (optI o)] u fun e w' => e = .returned (.tuple #[]) ∧ DM w0 w' x s t ms lv cm fd (wt o k md) (L + 1) ∧ ∀ (b : Nat) (T : TypeId) (xs : List Value), Blk u b T xs → T ≠ 155 → T ≠ 3 → Blk w' b T xs := by
  obtain ⟨ws, stv, row, h1, h2⟩ := h
  refine (waitMadeN h1 hk o ho (h2.small (by omega) (by omega) k) (fun r => Nat.le_trans (rl_len h2.lf h2.lm r) (by omega)) (by omega)).mono ?_
  rintro e w' ⟨rfl, ⟨row', hS⟩, hF⟩
  rw [wtM_rl, wtW_ws] at hS
  exact ⟨rfl, ⟨_, _, row', hS, h2.m hk ho⟩, hF⟩

set_option maxHeartbeats 4000000 in
set_option maxRecDepth 100000 in
/-- Does number i of s become one of t elsewhere? -/
theorem DM.moves (h : DM w0 u x s t ms lv cm fd md L) (X : Xs w0 x s t) {i j : Nat} {a b : EntD} (ht : x.to i = some j) (ha : s[i]? = some a) (hb : t[j]? = some b) :
    Calls Tryz.prog 151 #[.pointer (some ⟨x.D, 0, none⟩), .int .i64 i] u fun e w' => e = .returned (.bool (!sameB x.fold a.pl b.pl)) ∧ ∃ m, w' = u.drewN m := by
  have hi : i < s.length := (List.getElem?_eq_some_iff.1 ha).1
  have hj : j < t.length := (List.getElem?_eq_some_iff.1 hb).1
  obtain ⟨bs, os, cs, a', hsv, ha', hcs⟩ := X.two.rs.ent hi
  obtain ⟨bt, ot, ct, b', htv, hb', hct⟩ := X.two.rt.ent hj
  rw [ha] at ha'
  rw [hb] at hb'
  cases ha'
  cases hb'
  have c0 := h.d.1.cell 0 rfl
  have c1 := h.d.1.cell 1 rfl
  have c2 := h.d.1.cell 2 rfl
  have c3 := h.d.1.cell 3 rfl
  have ca := h.a.cell i (optV_get _ _ _ (by rw [X.n]; exact hi))
  rw [hsv] at c0
  rw [htv] at c1
  rw [ht] at ca
  have o1 : optI (some j) = (j : Int) := rfl
  rw [o1] at ca
  rw [X.n] at c3
  have s0 := (hcs u h.w).1
  have t0 := (hct u h.w).1
  have hsa := X.two.ss.2 a (getE ha)
  have hsb := X.two.st.2 b (getE hb)
  have hi' : (i : Int) < (s.length : Int) := by omega
  have hj' : (j : Int) < (t.length : Int) := by omega
  have hne : ((j : Int) != -1) = true := by simp
  have HS := hidD (fun (w : World) => same_any a.path b.path x.fold w (by unfold EntD.small at hsa; omega) (by unfold EntD.small at hsb; omega))
  have EP : Hid (sameB x.fold a.path.data.toList b.path.data.toList = sameB x.fold a.pl b.pl) := rfl
  clear h X hcs hct ha hb ht o1 hsv htv
  generalize sameB x.fold a.pl b.pl = r at *
  rw [EP.out] at HS
  clear EP
  generalize x.D = D at *
  generalize x.A = A at *
  generalize x.fold = fold at *
  go_enter Tryz.func151, Tryz.ntmps151
  go_wp2
  go_region_held3 (fun v => v.cell? ⟨D, 0, none⟩ = some (.slice (some ⟨bs, os, none⟩) s.length cs) ∧ v.cell? ⟨D, 1, none⟩ = some (.slice (some ⟨bt, ot, none⟩) t.length ct) ∧ v.cell? ⟨D, 2, none⟩ = some (.bool fold) ∧ v.cell? ⟨bs, os + i * 5, none⟩ = some (.string a.path) ∧ v.cell? ⟨bt, ot + j * 5, none⟩ = some (.string b.path)) (go_keep) (first | (go_at_call 189; refine (HS.out _).mono ?_; rintro e w1 ⟨rfl, m, rfl⟩))
  go_wp2
  go_ret
  exact ⟨rfl, _, rfl⟩
end
end Go.Proofs.YtpjjagalekolaaaGreatDoor

/- A path's last name; who holds a content. -/
namespace Go.Proofs.YtpjjagalekolaaaGreatDoor
open Go.RowKit
set_option linter.unusedVariables false
set_option linter.unusedSimpArgs false

theorem ext_tail (s : ByteArray) (i : Nat) : (s.extract i s.size).data.toList = s.data.toList.drop i := by
  rw [ByteArray.data_extract, Array.toList_extract, List.extract_eq_take_drop, List.take_of_length_le]
  rw [List.length_drop, lenD]
  exact Nat.le_refl _
def lastB (s : ByteArray) : ByteArray := s.extract (Lib.lastIndexByte s 47 + 1).toNat s.size
theorem lastB_eq (s : ByteArray) : (lastB s).data.toList = lastL s.data.toList := by
  rcases Lib.lastIndexByte_spec s 47 with ⟨h, h1⟩ | ⟨i, hi, h, h1, h2⟩
  · rw [lastL_none, lastB, h]
    · rw [show ((-1 : Int) + 1).toNat = 0 from rfl, ext_tail, List.drop_zero]
    · intro c hc
      obtain ⟨j, hj, rfl⟩ := List.mem_iff_getElem.1 hc
      have := h1 j (by rw [← lenD]; exact hj)
      rw [getB s j (by rw [← lenD]; exact hj)] at this
      exact u8_not47 _ this
  · have hi' : i < s.data.toList.length := by rw [lenD]; exact hi
    have hc : s.data.toList[i] = 47 := by
      rw [getB s i hi] at h1
      apply UInt8.toNat_inj.1
      have : (47 : UInt8).toNat = 47 := rfl
      omega
    have e : s.data.toList = s.data.toList.take i ++ 47 :: s.data.toList.drop (i + 1) := by
      rw [← hc, ← List.drop_eq_getElem_cons hi', List.take_append_drop]
    have hp : lastL s.data.toList = s.data.toList.drop (i + 1) := by
      rw [e, lastL_cut]
      · rw [← e]
      · intro c hc
        obtain ⟨j, hj, rfl⟩ := List.mem_iff_getElem.1 hc
        rw [List.length_drop, lenD] at hj
        have := h2 (i + 1 + j) (by omega) (by omega)
        rw [getB s (i + 1 + j) (by omega)] at this
        rw [List.getElem_drop]
        exact u8_not47 _ this
    rw [hp, lastB, h]
    have : ((i : Int) + 1).toNat = i + 1 := by omega
    rw [this, ext_tail]
set_option maxHeartbeats 400000 in
theorem last91 (s : ByteArray) (w : World) (hs : s.size ≤ 2000000) : Calls Tryz.prog 152 #[.string s] w fun e w' => e = .returned (.string (lastB s)) ∧ w' = w := by
  obtain ⟨i, hi, hi2⟩ : ∃ i : Nat, Lib.lastIndexByte s 47 + 1 = (i : Int) ∧ i ≤ s.size := by
    rcases Lib.lastIndexByte_spec s 47 with ⟨h, _⟩ | ⟨i, hi, h, _⟩
    · exact ⟨0, by rw [h]; rfl, Nat.zero_le _⟩
    · exact ⟨i + 1, by rw [h]; rfl, hi⟩
  have hv : lastB s = s.extract i s.size := by rw [lastB, hi]; simp
  have w9 : IntKind.i64.wrap (i : Int) = (i : Int) := by rw [IntKind.wrap_i64]; omega
  have hi3 : (i : Int) ≤ (s.size : Int) := by omega
  go_enter Tryz.func152, Tryz.ntmps152
  go_wp2_with (go_at_call 190; refine (Tryz.strings_LastIndexByte _ _ (by omega) _).mono ?_; rintro e w' ⟨rfl, rfl⟩)
  go_ret
  exact ⟨by rw [hv]; rfl, rfl⟩

set_option maxHeartbeats 8000000 in
set_option maxRecDepth 100000 in
/-- The first of t that holds a content which was there before. -/
theorem DM.holder {w0 u : World} {x : Dw} {s t : List EntD} {ms : List Mean} {lv cm : Nat → Option Nat} {fd md : Nat → List Nat} {L : Nat} (h : DM w0 u x s t ms lv cm fd md L) (X : Xs w0 x s t) (id : Int) :
    Calls Tryz.prog 154 #[.pointer (some ⟨x.D, 0, none⟩), .int .i64 id] u fun e w' => ∃ r : Option Nat, e = .returned (.int .i64 (optI r)) ∧ Below u.heap.size u w' ∧ ((r = none ∧ ∀ (j : Nat) (b : EntD), t[j]? = some b → b.id = id → x.fr j = none) ∨ ∃ j b i, r = some j ∧ t[j]? = some b ∧ b.id = id ∧ x.fr j = some i) := by
  have XX := hidD X
  have H := hidD h
  obtain ⟨ta, tc, htv⟩ := X.two.rt.val
  have c1 := h.d.1.cell 1 rfl
  rw [htv] at c1
  have hlt := X.two.lt
  clear h X
  go_enter Tryz.func154, Tryz.ntmps154
  go_wp2_with fail
  go_loopw [12] (fun iv wr => ∃ j : Nat, j ≤ t.length ∧ iv = .int .i64 j ∧ Hid (Below u.heap.size u wr) ∧ Hid (∀ (j' : Nat) (b : EntD), j' < j → t[j']? = some b → b.id = id → x.fr j' = none)) (fun iv _ => t.length - (intOf iv).toNat)
  case atStart => exact ⟨0, Nat.zero_le _, rfl, Below.refl _ _, fun j' b h => by omega⟩
  case round =>
    clear c1
    obtain ⟨j, hj, rfl, hb, N⟩ := hrel
    have M := hidD (H.out.below hb.out)
    by_cases hlt : j < t.length
    · obtain ⟨bt, ot, ct, ⟨op, od, oi, oz, om⟩, hv, ho, hcells⟩ := XX.out.two.rt.ent hlt
      rw [htv] at hv
      cases hv
      dsimp only at hcells
      obtain ⟨t0, t1, t2, t3, t4⟩ := hcells wr M.out.w
      have HO := hidD ho
      have BB := hidD (box_below wr #[.string op, .bool od, .int .i64 oi, .int .i64 oz, .int .i64 om] 56)
      have XB := hidD (Blk.new wr 56 [.string op, .bool od, .int .i64 oi, .int .i64 oz, .int .i64 om])
      have M1 := hidD (M.out.below BB.out)
      have HB1 := hidD (hb.out.trans (BB.out.mono hb.out.size))
      have y2 := XB.out.cell 2 rfl
      have q4 := M1.out.d.1.cell 4 rfl
      have q5 := M1.out.b.cell j (optV_get x.fr x.m j (by rw [XX.out.m]; exact hlt))
      have hlt' : (j : Int) < (t.length : Int) := by omega
      have hltm : (j : Int) < (x.m : Int) := by rw [XX.out.m]; omega
      clear hcells ho M
      by_cases hid : oi = id
      · subst hid
        by_cases hf : x.fr j = none
        · rw [hf] at q5
          have o1 : optI none = -1 := rfl
          rw [o1] at q5
          have N2 : Hid (∀ (j' : Nat) (b : EntD), j' < j + 1 → t[j']? = some b → b.id = oi → x.fr j' = none) := fun j' b h1 h2 h3 => by
            by_cases e : j' = j
            · subst e; exact hf
            · exact N.out j' b (by omega) h2 h3
          clear o1 N hf
          go_wp2_with fail
          exact ⟨⟨j + 1, by omega, by go_num, HB1, N2⟩, by simp [intOf]; omega⟩
        · have hne := (optI_none _ hf).2.1
          have hne1 := (optI_none _ hf).2.2
          obtain ⟨i, hi⟩ : ∃ i, x.fr j = some i := by
            cases hx : x.fr j with
            | none => exact absurd hx hf
            | some i => exact ⟨i, rfl⟩
          have HI := hidD hi
          generalize optI (x.fr j) = fj at *
          clear hi hf
          go_wp2_with fail
          go_ret
          exact ⟨some j, rfl, HB1.out, .inr ⟨j, _, i, rfl, HO.out, rfl, HI.out⟩⟩
      · have hid1 : (oi == id) = false := by simp [hid]
        have N2 : Hid (∀ (j' : Nat) (b : EntD), j' < j + 1 → t[j']? = some b → b.id = id → x.fr j' = none) := fun j' b h1 h2 h3 => by
          by_cases e : j' = j
          · subst e
            rw [HO.out] at h2
            cases h2
            exact absurd h3 hid
          · exact N.out j' b (by omega) h2 h3
        clear N
        go_wp2_with fail
        exact ⟨⟨j + 1, by omega, by go_num, HB1, N2⟩, by simp [intOf]; omega⟩
    · have hje : j = t.length := by omega
      subst hje
      go_wp2_with fail
      go_ret
      exact ⟨none, rfl, hb.out, .inl ⟨rfl, fun j b hb' hid => N.out j b (List.getElem?_eq_some_iff.1 hb').1 hb' hid⟩⟩
end Go.Proofs.YtpjjagalekolaaaGreatDoor

/- The draft of a plan: what goes is taken away. -/
namespace Go.Proofs.YtpjjagalekolaaaGreatDoor
open Go.RowKit
set_option linter.unusedVariables false
set_option linter.unusedSimpArgs false

set_option maxHeartbeats 8000000 in
set_option maxRecDepth 100000 in
theorem takeAwayN {w0 u : World} {x : Dw} {s t : List EntD} {ms0 : List Mean} {lv0 cm : Nat → Option Nat} {fd md : Nat → List Nat} {L : Nat} (h : DM w0 u x s t ms0 lv0 cm fd md L) (X : Xs w0 x s t) (MM : Mat x.fold s t x.to x.fr) (A : DA x.fold s t x.to x.fr ms0 lv0 cm md 0 0 0 0 0) :
    Calls Tryz.prog 99 #[.pointer (some ⟨x.D, 0, none⟩)] u fun e w' => e = .returned (.tuple #[]) ∧ ∃ ms lv, DM w0 w' x s t ms lv cm fd md L ∧ DA x.fold s t x.to x.fr ms lv cm md s.length 0 0 0 0 := by
  have XX := hidD X
  have XM := hidD MM
  have H := hidD h
  have A0 := hidD A
  obtain ⟨sa, sc, hsv⟩ := X.two.rs.val
  have c0 := h.d.1.cell 0 rfl
  rw [hsv] at c0
  have hls := X.two.ls
  have hlt := X.two.lt
  clear h X MM A
  go_enter Tryz.func99, Tryz.ntmps99
  go_wp2_with fail
  go_loopw [11] (fun iv wr => ∃ (i : Nat) (ms : List Mean) (lv : Nat → Option Nat), i ≤ s.length ∧ iv = .int .i64 i ∧ Hid (DM w0 wr x s t ms lv cm fd md L) ∧ Hid (DA x.fold s t x.to x.fr ms lv cm md i 0 0 0 0)) (fun iv _ => s.length - (intOf iv).toNat)
  case atStart => exact ⟨0, ms0, lv0, Nat.zero_le _, rfl, H, A0⟩
  case round =>
    clear c0 H A0
    obtain ⟨i, ms, lv, hi, rfl, M, A⟩ := hrel
    by_cases his : i < s.length
    · obtain ⟨bs, os, cs, ⟨op, od, oi, oz, om⟩, hv, ho, hcells⟩ := XX.out.two.rs.ent his
      rw [hsv] at hv
      cases hv
      dsimp only at hcells
      obtain ⟨t0, t1, t2, t3, t4⟩ := hcells wr M.out.w
      have HO := hidD ho
      have BB := hidD (box_below wr #[.string op, .bool od, .int .i64 oi, .int .i64 oz, .int .i64 om] 56)
      have XB := hidD (Blk.new wr 56 [.string op, .bool od, .int .i64 oi, .int .i64 oz, .int .i64 om])
      have M1 := hidD (M.out.below BB.out)
      have hin : i < x.n := by rw [XX.out.n]; exact his
      have q3 := M1.out.d.1.cell 3 rfl
      have qa := M1.out.a.cell i (optV_get x.to x.n i hin)
      have his' : (i : Int) < (s.length : Int) := by omega
      have hin' : (i : Int) < (x.n : Int) := by omega
      have hms := A.out.bound hi (Nat.zero_le _) (Nat.zero_le _) (Nat.zero_le _) (Nat.zero_le _) hls hlt
      clear hcells ho M
      by_cases hto : x.to i = none
      · rw [hto] at qa
        have o1 : optI none = -1 := rfl
        rw [o1] at qa
        have A2 := hidD (A.out.del XM.out his hto)
        have y1 := XB.out.cell 1 rfl
        have nCX : ¬ wr.heap.size = x.C := fun e => XB.out.ne M1.out.c (by decide) e
        have nXC : ¬ x.C = wr.heap.size := fun e => nCX e.symm
        have nDC : ¬ x.D = x.C := M1.out.ne.2.1
        have nCD : ¬ x.C = x.D := fun e => nDC e.symm
        clear o1 A
        have key : ∀ (kk : Int), (od = true → kk = 2) → (od = false → kk = 3) → opM s t (.del i) = ⟨kk, op, ⟨#[]⟩, 0, 0, 0⟩ := fun kk h1 h2 => by
          rw [opM, eg_at HO.out]
          cases od with
          | true => rw [h1 rfl]; rfl
          | false => rw [h2 rfl]; rfl
        cases od with
        | true =>
          have HADD := hidD (fun (u1 : World) (hu : DM w0 u1 x s t ms lv cm fd md L) => hu.add hms (.del i) (key 2 (fun _ => rfl) (fun h => by cases h)))
          clear key
          go_wp2_with fail
          have y0 := XB.out.cell 0 rfl
          have q6 := M1.out.d.2.1
          generalize wr.alloc (.cells #[.string op, .bool true, .int .i64 oi, .int .i64 oz, .int .i64 om] 56) = u1 at *
          go_region_held3 (fun v => v.cell? ⟨x.D, 6, none⟩ = some (.slice (some ⟨x.C, 0, none⟩) x.n x.n) ∧ v.cell? ⟨wr.heap.size, 0, none⟩ = some (.string op)) (go_keep) (first | (go_at_call 150; refine (HADD.out _ (M1.out.below (below_drewB u1))).mono ?_; rintro e u4 ⟨rfl, hM4, hF4⟩; have M4 := hidD hM4; have X4 := hidD (hF4 _ _ _ (XB.out.below (below_drewB u1)) (by decide) (by decide)); have l6 := M4.out.d.2.1; have l0 := X4.out.cell 0 rfl; have lc := M4.out.c.cell i (optV_get lv x.n i hin); have lf := M4.out.c.frozen i; clear hM4 hF4))
          have M5 := hidD (M4.out.setC i (some ms.length) hin)
          go_wp2_with fail
          exact ⟨⟨i + 1, _, _, by omega, by go_num, M5, A2⟩, by simp [intOf]; omega⟩
        | false =>
          have HADD := hidD (fun (u1 : World) (hu : DM w0 u1 x s t ms lv cm fd md L) => hu.add hms (.del i) (key 3 (fun h => by cases h) (fun _ => rfl)))
          clear key
          go_wp2_with fail
          have y0 := XB.out.cell 0 rfl
          have q6 := M1.out.d.2.1
          generalize wr.alloc (.cells #[.string op, .bool false, .int .i64 oi, .int .i64 oz, .int .i64 om] 56) = u1 at *
          go_region_held3 (fun v => v.cell? ⟨x.D, 6, none⟩ = some (.slice (some ⟨x.C, 0, none⟩) x.n x.n) ∧ v.cell? ⟨wr.heap.size, 0, none⟩ = some (.string op)) (go_keep) (first | (go_at_call 150; refine (HADD.out _ (M1.out.below (below_drewB u1))).mono ?_; rintro e u4 ⟨rfl, hM4, hF4⟩; have M4 := hidD hM4; have X4 := hidD (hF4 _ _ _ (XB.out.below (below_drewB u1)) (by decide) (by decide)); have l6 := M4.out.d.2.1; have l0 := X4.out.cell 0 rfl; have lc := M4.out.c.cell i (optV_get lv x.n i hin); have lf := M4.out.c.frozen i; clear hM4 hF4))
          have M5 := hidD (M4.out.setC i (some ms.length) hin)
          go_wp2_with fail
          exact ⟨⟨i + 1, _, _, by omega, by go_num, M5, A2⟩, by simp [intOf]; omega⟩
      · have hne := (optI_none _ hto).2.1
        have hne1 := (optI_none _ hto).2.2
        have A2 := hidD (A.out.skip (a' := i + 1) (Nat.le_succ _) (Nat.le_refl _) (Nat.le_refl _) (Nat.le_refl _) (Nat.le_refl _) (fun i' h1 h2 h3 => by
          by_cases e : i' = i
          · subst e; exact absurd h3 hto
          · omega) (fun _ _ _ _ h _ _ _ _ => h) (fun _ _ _ _ h _ _ _ _ => h) (fun _ _ _ _ h => h))
        generalize optI (x.to i) = ti at *
        clear hto A
        go_wp2_with fail
        exact ⟨⟨i + 1, ms, lv, by omega, by go_num, M1, A2⟩, by simp [intOf]; omega⟩
    · have hie : i = s.length := by omega
      subst hie
      go_wp2_with fail
      refine bodyPost_end (results_none rfl _ _ _) rfl ?_
      exact ⟨rfl, ms, lv, M.out, A.out⟩
end Go.Proofs.YtpjjagalekolaaaGreatDoor

/- The draft of a plan: directories are made. -/
namespace Go.Proofs.YtpjjagalekolaaaGreatDoor
open Go.RowKit
set_option linter.unusedVariables false
set_option linter.unusedSimpArgs false

set_option maxHeartbeats 8000000 in
set_option maxRecDepth 100000 in
theorem makeDirsN {w0 u : World} {x : Dw} {s t : List EntD} {ms0 : List Mean} {lv cm0 : Nat → Option Nat} {fd md : Nat → List Nat} {L : Nat} (h : DM w0 u x s t ms0 lv cm0 fd md L) (X : Xs w0 x s t) (MM : Mat x.fold s t x.to x.fr) (A : DA x.fold s t x.to x.fr ms0 lv cm0 md s.length s.length s.length 0 0) :
    Calls Tryz.prog 101 #[.pointer (some ⟨x.D, 0, none⟩)] u fun e w' => e = .returned (.tuple #[]) ∧ ∃ ms cm, DM w0 w' x s t ms lv cm fd md L ∧ DA x.fold s t x.to x.fr ms lv cm md s.length s.length s.length t.length 0 := by
  have XX := hidD X
  have XM := hidD MM
  have H := hidD h
  have A0 := hidD A
  obtain ⟨ta, tc, htv⟩ := X.two.rt.val
  have c0 := h.d.1.cell 1 rfl
  rw [htv] at c0
  have hls := X.two.ls
  have hlt := X.two.lt
  clear h X MM A
  go_enter Tryz.func101, Tryz.ntmps101
  go_wp2_with fail
  go_loopw [10] (fun iv wr => ∃ (j : Nat) (ms : List Mean) (cm : Nat → Option Nat), j ≤ t.length ∧ iv = .int .i64 j ∧ Hid (DM w0 wr x s t ms lv cm fd md L) ∧ Hid (DA x.fold s t x.to x.fr ms lv cm md s.length s.length s.length j 0)) (fun iv _ => t.length - (intOf iv).toNat)
  case atStart => exact ⟨0, ms0, cm0, Nat.zero_le _, rfl, H, A0⟩
  case round =>
    clear c0 H A0
    obtain ⟨j, ms, cm, hj, rfl, M, A⟩ := hrel
    by_cases hjt : j < t.length
    · obtain ⟨bt, ot, ct, ⟨op, od, oi, oz, om⟩, hv, ho, hcells⟩ := XX.out.two.rt.ent hjt
      rw [htv] at hv
      cases hv
      dsimp only at hcells
      obtain ⟨t0, t1, t2, t3, t4⟩ := hcells wr M.out.w
      have HO := hidD ho
      have BB := hidD (box_below wr #[.string op, .bool od, .int .i64 oi, .int .i64 oz, .int .i64 om] 56)
      have XB := hidD (Blk.new wr 56 [.string op, .bool od, .int .i64 oi, .int .i64 oz, .int .i64 om])
      have M1 := hidD (M.out.below BB.out)
      have hjm : j < x.m := by rw [XX.out.m]; exact hjt
      have q4 := M1.out.d.1.cell 4 rfl
      have qb := M1.out.b.cell j (optV_get x.fr x.m j hjm)
      have hjt' : (j : Int) < (t.length : Int) := by omega
      have hjm' : (j : Int) < (x.m : Int) := by omega
      have hms := A.out.bound (Nat.le_refl _) (Nat.le_refl _) (Nat.le_refl _) hj (Nat.zero_le _) hls hlt
      have y1 := XB.out.cell 1 rfl
      clear hcells ho M
      have skp : (od = true → x.fr j ≠ none) → DA x.fold s t x.to x.fr ms lv cm md s.length s.length s.length (j + 1) 0 := fun hno =>
        A.out.skip (Nat.le_refl _) (Nat.le_refl _) (Nat.le_refl _) (Nat.le_succ _) (Nat.le_refl _) (fun _ h _ _ => h) (fun _ _ _ _ h _ _ _ _ => h) (fun _ _ _ _ h _ _ _ _ => h) (fun j' b hb hf hh => by
          rcases hh with ⟨g1, g2⟩ | g
          · by_cases e : j' = j
            · subst e
              rw [HO.out] at hb
              cases hb
              exact absurd hf (hno g1)
            · exact .inl ⟨g1, by omega⟩
          · exact .inr g)
      have SKP := hidD skp
      clear skp
      cases od with
      | false =>
        have A2 := hidD (SKP.out (fun h => by cases h))
        clear SKP A
        go_wp2_with fail
        exact ⟨⟨j + 1, ms, cm, by omega, by go_num, M1, A2⟩, by simp [intOf]; omega⟩
      | true =>
        by_cases hfr : x.fr j = none
        · rw [hfr] at qb
          have o1 : optI none = -1 := rfl
          rw [o1] at qb
          have A2 := hidD (A.out.mkd XM.out HO.out rfl hfr)
          have nEX : ¬ wr.heap.size = x.E := fun e => XB.out.ne M1.out.e (by decide) e
          have nXE : ¬ x.E = wr.heap.size := fun e => nEX e.symm
          have nDE : ¬ x.D = x.E := M1.out.ne.2.2
          have nED : ¬ x.E = x.D := fun e => nDE e.symm
          clear o1 A SKP
          have HADD := hidD (fun (u1 : World) (hu : DM w0 u1 x s t ms lv cm fd md L) => hu.add hms (.mkd j) (k := 1) (p := op) (q := ⟨#[]⟩) (id := 0) (sz := 0) (mo := om) (by rw [opM, eg_at HO.out]))
          go_wp2_with fail
          have y0 := XB.out.cell 0 rfl
          have y4 := XB.out.cell 4 rfl
          have q7 := M1.out.d.2.2
          generalize wr.alloc (.cells #[.string op, .bool true, .int .i64 oi, .int .i64 oz, .int .i64 om] 56) = u1 at *
          go_region_held3 (fun v => v.cell? ⟨x.D, 7, none⟩ = some (.slice (some ⟨x.E, 0, none⟩) x.m x.m) ∧ v.cell? ⟨wr.heap.size, 0, none⟩ = some (.string op) ∧ v.cell? ⟨wr.heap.size, 4, none⟩ = some (.int .i64 om)) (go_keep) (first | (go_at_call 150; refine (HADD.out _ (M1.out.below (below_drewB u1))).mono ?_; rintro e u4 ⟨rfl, hM4, hF4⟩; have M4 := hidD hM4; have X4 := hidD (hF4 _ _ _ (XB.out.below (below_drewB u1)) (by decide) (by decide)); have l7 := M4.out.d.2.2; have l0 := X4.out.cell 0 rfl; have l4 := X4.out.cell 4 rfl; have lc := M4.out.e.cell j (optV_get cm x.m j hjm); have lf := M4.out.e.frozen j; clear hM4 hF4))
          have M5 := hidD (M4.out.setE j (some ms.length) hjm)
          go_wp2_with fail
          exact ⟨⟨j + 1, _, _, by omega, by go_num, M5, A2⟩, by simp [intOf]; omega⟩
        · have hne := (optI_none _ hfr).1
          have hne1 := (optI_none _ hfr).2.2
          have A2 := hidD (SKP.out (fun _ => hfr))
          generalize optI (x.fr j) = ti at *
          clear hfr A SKP
          go_wp2_with fail
          exact ⟨⟨j + 1, ms, cm, by omega, by go_num, M1, A2⟩, by simp [intOf]; omega⟩
    · have hje : j = t.length := by omega
      subst hje
      go_wp2_with fail
      refine bodyPost_end (results_none rfl _ _ _) rfl ?_
      exact ⟨rfl, ms, cm, M.out, A.out⟩
end Go.Proofs.YtpjjagalekolaaaGreatDoor

/- The draft of a plan: files are filled. -/
namespace Go.Proofs.YtpjjagalekolaaaGreatDoor
open Go.RowKit
set_option linter.unusedVariables false
set_option linter.unusedSimpArgs false

theorem RowAt.blt {w0 : World} {v : Value} {l : List EntD} (h : RowAt w0 v l) {b off n c : Nat} (hv : v = .slice (some ⟨b, off, none⟩) n c) : b < w0.heap.size := by
  cases h with
  | nil => cases hv
  | row b off cap l hb hc hm h => cases hv; exact hb
theorem DM.ge {w0 u : World} {x : Dw} {s t : List EntD} {ms : List Mean} {lv cm : Nat → Option Nat} {fd md : Nat → List Nat} {L : Nat} (h : DM w0 u x s t ms lv cm fd md L) : w0.heap.size ≤ x.C ∧ w0.heap.size ≤ x.E := by
  obtain ⟨ws, stv, row, h1, h2⟩ := h
  exact h1.ge.2.2.2
theorem DA.cmlt {fold : Bool} {s t : List EntD} {to fr : Nat → Option Nat} {ms : List Mean} {lv cm : Nat → Option Nat} {md : Nat → List Nat} {a c1 c2 d f : Nat} (h : DA fold s t to fr ms lv cm md a c1 c2 d f) : ∀ j k, cm j = some k → k < ms.length := fun j k hk => by
  rcases h.cm1 j k hk with ⟨_, _, g⟩ | ⟨_, _, g | g | ⟨_, g⟩⟩ <;> exact (List.getElem?_eq_some_iff.1 g).1
set_option maxHeartbeats 8000000 in
set_option maxRecDepth 100000 in
theorem fillFilesN {w0 u : World} {x : Dw} {s t : List EntD} {ms0 : List Mean} {lv cm0 : Nat → Option Nat} {fd md0 : Nat → List Nat} {L : Nat} (h : DM w0 u x s t ms0 lv cm0 fd md0 L) (X : Xs w0 x s t) (MM : Mat x.fold s t x.to x.fr) (PP : Pair x.fold s t) (A : DA x.fold s t x.to x.fr ms0 lv cm0 md0 s.length s.length s.length t.length 0) (hL : L ≤ 60) :
    Calls Tryz.prog 102 #[.pointer (some ⟨x.D, 0, none⟩)] u fun e w' => e = .returned (.tuple #[]) ∧ ∃ ms cm md, DM w0 w' x s t ms lv cm fd md (L + t.length) ∧ DA x.fold s t x.to x.fr ms lv cm md s.length s.length s.length t.length t.length := by
  have XX := hidD X
  have XM := hidD MM
  have XP := hidD PP
  have H := hidD h
  have A0 := hidD A
  obtain ⟨ta, tc, htv⟩ := X.two.rt.val
  have c0 := h.d.1.cell 1 rfl
  rw [htv] at c0
  have hls := X.two.ls
  have hlt := X.two.lt
  clear h X MM PP A
  go_enter Tryz.func102, Tryz.ntmps102
  go_wp2_with fail
  go_loopw [11] (fun iv wr => ∃ (j : Nat) (ms : List Mean) (cm : Nat → Option Nat) (md : Nat → List Nat), j ≤ t.length ∧ iv = .int .i64 j ∧ Hid (DM w0 wr x s t ms lv cm fd md (L + j)) ∧ Hid (DA x.fold s t x.to x.fr ms lv cm md s.length s.length s.length t.length j)) (fun iv _ => t.length - (intOf iv).toNat)
  case atStart => exact ⟨0, ms0, cm0, md0, Nat.zero_le _, rfl, H, A0⟩
  case round =>
    clear c0 H A0
    obtain ⟨j, ms, cm, md, hj, rfl, M, A⟩ := hrel
    by_cases hjt : j < t.length
    · obtain ⟨bt, ot, ct, ⟨op, od, oi, oz, om⟩, hv, ho, hcells⟩ := XX.out.two.rt.ent hjt
      have htv2 := htv
      rw [htv] at hv
      cases hv
      dsimp only at hcells
      obtain ⟨t0, t1, t2, t3, t4⟩ := hcells wr M.out.w
      have HO := hidD ho
      have BB := hidD (box_below wr #[.string op, .bool od, .int .i64 oi, .int .i64 oz, .int .i64 om] 56)
      have XB := hidD (Blk.new wr 56 [.string op, .bool od, .int .i64 oi, .int .i64 oz, .int .i64 om])
      have M1 := hidD (M.out.below BB.out)
      have hjm : j < x.m := by rw [XX.out.m]; exact hjt
      have q4 := M1.out.d.1.cell 4 rfl
      have qb := M1.out.b.cell j (optV_get x.fr x.m j hjm)
      have hjt' : (j : Int) < (t.length : Int) := by omega
      have hjm' : (j : Int) < (x.m : Int) := by omega
      have hms := A.out.bound (Nat.le_refl _) (Nat.le_refl _) (Nat.le_refl _) (Nat.le_refl _) hj hls hlt
      have y1 := XB.out.cell 1 rfl
      clear hcells ho M
      have skp : (od = false → x.fr j ≠ none) → DA x.fold s t x.to x.fr ms lv cm md s.length s.length s.length t.length (j + 1) := fun hno =>
        A.out.skip (Nat.le_refl _) (Nat.le_refl _) (Nat.le_refl _) (Nat.le_refl _) (Nat.le_succ _) (fun _ h _ _ => h) (fun _ _ _ _ h _ _ _ _ => h) (fun _ _ _ _ h _ _ _ _ => h) (fun j' b hb hf hh => by
          rcases hh with g | ⟨g1, g2⟩
          · exact .inl g
          · by_cases e : j' = j
            · subst e
              rw [HO.out] at hb
              cases hb
              exact absurd hf (hno g1)
            · exact .inr ⟨g1, by omega⟩)
      have SKP := hidD skp
      have M1s := hidD (M1.out.mono (L' := L + (j + 1)) (by omega))
      clear skp
      cases od with
      | true =>
        have A2 := hidD (SKP.out (fun h => by cases h))
        clear SKP A
        go_wp2_with fail
        exact ⟨⟨j + 1, ms, cm, md, by omega, by go_num, M1s, A2⟩, by simp [intOf]; omega⟩
      | false =>
        by_cases hfr : x.fr j = none
        · rw [hfr] at qb
          have o1 : optI none = -1 := rfl
          rw [o1] at qb
          clear o1 SKP M1s
          go_wp2_with fail
          have y2 := XB.out.cell 2 rfl
          have hb0 : wr.heap.size < (wr.alloc (.cells #[.string op, .bool false, .int .i64 oi, .int .i64 oz, .int .i64 om] 56)).heap.size := by simp
          generalize wr.alloc (.cells #[.string op, .bool false, .int .i64 oi, .int .i64 oz, .int .i64 om] 56) = u1 at *
          go_region_held3 (fun v => v.cell? ⟨wr.heap.size, 2, none⟩ = some (.int .i64 oi)) (go_keep) (first | (go_at_call 154; refine ((M1.out.below (below_drewB u1)).holder XX.out oi).mono ?_; rintro e w2 ⟨r, rfl, hb2, hr⟩; have HR := hidD hr; have HB2 : Hid (Below u1.heap.size u1 w2) := (below_drewB u1).trans hb2; have X2 := hidD (XB.out.below HB2.out); have M2 := hidD (M1.out.below HB2.out); have z2 := X2.out.cell 2 rfl; clear hr hb2))
          have nEX : ¬ wr.heap.size = x.E := fun e => X2.out.ne M2.out.e (by decide) e
          have nXE : ¬ x.E = wr.heap.size := fun e => nEX e.symm
          have nDE : ¬ x.D = x.E := M2.out.ne.2.2
          have nED : ¬ x.E = x.D := fun e => nDE e.symm
          clear M1 XB BB t0 t1 t2 t3 t4
          have z0 := X2.out.cell 0 rfl
          have z3 := X2.out.cell 3 rfl
          have z4 := X2.out.cell 4 rfl
          have q7 := M2.out.d.2.2
          rcases HR.out with ⟨rfl, hno⟩ | ⟨q, c, i, rfl, hc, hid, hq⟩
          · have A2 := hidD (A.out.wri XM.out HO.out rfl hfr (fun a ha had hid => by
              obtain ⟨i, hi⟩ := List.mem_iff_getElem?.1 ha
              have hleft := XM.out.left i j a _ hi HO.out hfr rfl hid
              cases hti : x.to i with
              | none => exact hleft hti
              | some q =>
                obtain ⟨b, hb⟩ : ∃ b, t[q]? = some b := ⟨_, List.getElem?_eq_getElem (XM.out.bs i q hti).2⟩
                have k := XM.out.kind i q a b hti hi hb
                have := hno q b hb (k.2.symm.trans hid)
                rw [(XM.out.inv i q).1 hti] at this
                cases this))
            have HADD := hidD (fun (u1 : World) (hu : DM w0 u1 x s t ms lv cm fd md (L + j)) => hu.add hms (.wri j) (k := 4) (p := op) (q := ⟨#[]⟩) (id := oi) (sz := oz) (mo := om) (by rw [opM, eg_at HO.out]))
            have o1 : optI none = -1 := rfl
            rw [o1]
            clear HR hno A hfr
            go_wp2_with fail
            go_region_held3 (fun v => v.cell? ⟨x.D, 7, none⟩ = some (.slice (some ⟨x.E, 0, none⟩) x.m x.m) ∧ v.cell? ⟨wr.heap.size, 0, none⟩ = some (.string op) ∧ v.cell? ⟨wr.heap.size, 2, none⟩ = some (.int .i64 oi) ∧ v.cell? ⟨wr.heap.size, 3, none⟩ = some (.int .i64 oz) ∧ v.cell? ⟨wr.heap.size, 4, none⟩ = some (.int .i64 om)) (go_keep) (first | (go_at_call 150; refine (HADD.out _ (M2.out.below (below_drewB w2))).mono ?_; rintro e u4 ⟨rfl, hM4, hF4⟩; have M4 := hidD hM4; have X4 := hidD (hF4 _ _ _ (X2.out.below (below_drewB w2)) (by decide) (by decide)); have l7 := M4.out.d.2.2; have l0 := X4.out.cell 0 rfl; have l2 := X4.out.cell 2 rfl; have l3 := X4.out.cell 3 rfl; have l4 := X4.out.cell 4 rfl; have lc := M4.out.e.cell j (optV_get cm x.m j hjm); have lf := M4.out.e.frozen j; clear hM4 hF4))
            have M5 := hidD ((M4.out.setE j (some ms.length) hjm).mono (L' := L + (j + 1)) (by omega))
            go_wp2_with fail
            exact ⟨⟨j + 1, _, _, _, by omega, by go_num, M5, A2⟩, by simp [intOf]; omega⟩
          · have hqt : q < t.length := (List.getElem?_eq_some_iff.1 hc).1
            have hqm : q < x.m := by rw [XX.out.m]; exact hqt
            have hqt' : (q : Int) < (t.length : Int) := by omega
            have hqm' : (q : Int) < (x.m : Int) := by omega
            obtain ⟨bq, oq', cq, c', hvq, hcq', hcellq⟩ := XX.out.two.rt.ent hqt
            rw [htv] at hvq
            cases hvq
            rw [hc] at hcq'
            cases hcq'
            have HCQ := hidD (fun (v : World) (hv : Below w0.heap.size w0 v) => (hcellq v hv).1)
            have A2 := hidD (A.out.cpy XM.out HO.out rfl hfr hc hid hq)
            have hoq := A2.out.cmlt q
            have HADD := hidD (fun (u1 : World) (hu : DM w0 u1 x s t ms lv cm fd md (L + j)) => hu.add hms (.cpy j q) (k := 5) (p := c.path) (q := op) (id := 0) (sz := 0) (mo := om) (by rw [opM, eg_at HO.out, eg_at hc]))
            have o1 : optI (some q) = (q : Int) := rfl
            rw [o1]
            have hblt := XX.out.two.rt.blt htv
            have hge := M2.out.ge.2
            have nbE : ¬ bt = x.E := by omega
            have nEb : ¬ x.E = bt := by omega
            have hq0 : ((q : Int) == -1) = false := by simp
            have zq := HCQ.out w2 M2.out.w
            have z1 := M2.out.d.1.cell 1 rfl
            rw [htv] at z1
            clear HR A hfr hcellq hid hq hc
            go_wp2_with fail
            go_region_held3 (fun v => v.cell? ⟨x.D, 7, none⟩ = some (.slice (some ⟨x.E, 0, none⟩) x.m x.m) ∧ v.cell? ⟨x.D, 1, none⟩ = some (.slice (some ⟨bt, ot, none⟩) t.length tc) ∧ v.cell? ⟨bt, ot + q * 5, none⟩ = some (.string c.path) ∧ v.cell? ⟨wr.heap.size, 0, none⟩ = some (.string op) ∧ v.cell? ⟨wr.heap.size, 4, none⟩ = some (.int .i64 om)) (go_keep) (first | (go_at_call 150; refine (HADD.out _ (M2.out.below (below_drewB w2))).mono ?_; rintro e u4 ⟨rfl, hM4, hF4⟩; have M4 := hidD hM4; have X4 := hidD (hF4 _ _ _ (X2.out.below (below_drewB w2)) (by decide) (by decide)); have l7 := M4.out.d.2.2; have l1 := M4.out.d.1.cell 1 rfl; rw [htv] at l1; have lq := HCQ.out u4 M4.out.w; have l0 := X4.out.cell 0 rfl; have l4 := X4.out.cell 4 rfl; have lc := M4.out.e.cell j (optV_get cm x.m j hjm); have lf := M4.out.e.frozen j; clear hM4 hF4))
            have M5 : Hid (DM w0 (u4.setCell ⟨x.E, j, none⟩ (.int .i64 (ms.length : Int))) x s t (ms ++ [.cpy j q]) lv (upN cm j (some ms.length)) fd md (L + j)) := M4.out.setE j (some ms.length) hjm
            generalize u4.setCell ⟨x.E, j, none⟩ (.int .i64 (ms.length : Int)) = u5 at *
            have ej := M5.out.e.cell j (optV_get _ x.m j hjm)
            rw [upN_at] at ej
            have o2 : optI (some ms.length) = (ms.length : Int) := rfl
            rw [o2] at ej
            have eq := M5.out.e.cell q (optV_get _ x.m q hqm)
            have e7 := M5.out.d.2.2
            have HW := hidD (fun (v : World) (hv : DM w0 v x s t (ms ++ [.cpy j q]) lv (upN cm j (some ms.length)) fd md (L + j)) => hv.waitM (by have := A2.out.bound (Nat.le_refl _) (Nat.le_refl _) (Nat.le_refl _) (Nat.le_refl _) (by omega) hls hlt; exact this) (by omega) (k := ms.length) (by simp) (upN cm j (some ms.length) q) hoq)
            obtain ⟨oq, HOQ'⟩ : ∃ oq, upN cm j (some ms.length) q = oq := ⟨_, rfl⟩
            have HOQ := hidD HOQ'
            rw [HOQ'] at eq HW A2
            clear HOQ'
            clear M4 X4 l7 l1 lq l0 l4 lc lf M2 X2 hoq HADD
            go_wp2_with fail
            go_region_held3 (fun v => v.cell? ⟨x.D, 7, none⟩ = some (.slice (some ⟨x.E, 0, none⟩) x.m x.m) ∧ v.cell? ⟨x.E, j, none⟩ = some (.int .i64 (ms.length : Int)) ∧ v.cell? ⟨x.E, q, none⟩ = some (.int .i64 (optI oq))) (go_keep) (first | (go_at_call 153; refine (HW.out _ (M5.out.below (below_drewB u5))).mono ?_; rintro e u6 ⟨rfl, hM6, _⟩; have M6 := hidD hM6; have m7 := M6.out.d.2.2; have mj := M6.out.e.cell j (optV_get _ x.m j hjm); rw [upN_at, o2] at mj; have mq := M6.out.e.cell q (optV_get _ x.m q hqm); rw [HOQ.out] at mq; clear hM6))
            go_wp2_with fail
            exact ⟨⟨j + 1, _, _, _, by omega, by go_num, M6, A2⟩, by simp [intOf]; omega⟩
        · have hne := (optI_none _ hfr).2.1
          have hne1 := (optI_none _ hfr).2.2
          have A2 := hidD (SKP.out (fun _ => hfr))
          generalize optI (x.fr j) = ti at *
          clear hfr A SKP
          go_wp2_with fail
          exact ⟨⟨j + 1, ms, cm, md, by omega, by go_num, M1s, A2⟩, by simp [intOf]; omega⟩
    · have hje : j = t.length := by omega
      subst hje
      go_wp2_with fail
      refine bodyPost_end (results_none rfl _ _ _) rfl ?_
      exact ⟨rfl, ms, cm, md, M.out, A.out⟩
end Go.Proofs.YtpjjagalekolaaaGreatDoor

