/- CF, CG, FA, FC: in one text. -/
import Derived.Test.YtpjjagalekolaaaGreatDoorP09
/- Plain: the order of paths by bytes is their order by names. No program in this text. -/
namespace Go.Proofs.YtpjjagalekolaaaGreatDoor
open Go.RowKit
set_option linter.unusedVariables false
set_option linter.unusedSimpArgs false

theorem spl_47 (l : List UInt8) : spl (47 :: l) = [] :: spl l := spl_cut [] l (by simp)
theorem spl_head (l : List UInt8) : ∃ h t, spl l = h :: t := by
  cases hs : spl l with
  | nil => have := spl_pos l; rw [hs] at this; simp at this
  | cons h t => exact ⟨h, t, rfl⟩
theorem spl_cons (c : UInt8) (l : List UInt8) (h : List UInt8) (t : List (List UInt8)) (hc : c ≠ 47) (hs : spl l = h :: t) : spl (c :: l) = (c :: h) :: t := by
  rcases indexByte_split l 47 with ⟨_, hn⟩ | ⟨i, _, _, he, hn⟩
  · rw [spl_none l hn] at hs
    obtain ⟨rfl, rfl⟩ := List.cons.inj hs
    exact spl_none _ (by intro x hx; rcases List.mem_cons.1 hx with rfl | hx; exact hc; exact hn x hx)
  · rw [he, spl_cut _ _ hn] at hs
    obtain ⟨e1, e2⟩ := List.cons.inj hs
    have : c :: l = (c :: l.take i) ++ 47 :: l.drop (i + 1) := by rw [List.cons_append, ← he]
    rw [this, spl_cut _ _ (by intro x hx; rcases List.mem_cons.1 hx with rfl | hx; exact hc; exact hn x hx), e1, e2]

theorem lessN_pos (l : List (List UInt8)) (h : 1 ≤ l.length) : lessN [] l = true := by
  cases l with
  | nil => simp at h
  | cons a t => rfl

theorem less_cmp (a b : List UInt8) : lessN (spl a) (spl b) = decide (cmpL a b < 0) := by
  induction a generalizing b with
  | nil =>
    cases b with
    | nil => rfl
    | cons d b =>
      by_cases hd : d = 47
      · subst hd
        rw [spl_47]
        show lessN [[]] ([] :: spl b) = _
        rw [lessN, if_pos rfl, lessN_pos _ (spl_pos b)]; rfl
      · obtain ⟨h, t, hs⟩ := spl_head b
        rw [spl_cons d b h t hd hs]
        show lessN [[]] ((d :: h) :: t) = _
        rw [lessN, if_neg (by simp)]; rfl
  | cons c a ih =>
    obtain ⟨h, t, hs⟩ := spl_head a
    cases b with
    | nil =>
      by_cases hc : c = 47
      · subst hc
        rw [spl_47]
        show lessN ([] :: spl a) [[]] = _
        rw [lessN, if_pos rfl, hs]; rfl
      · rw [spl_cons c a h t hc hs]
        show lessN ((c :: h) :: t) [[]] = _
        rw [lessN, if_neg (by simp)]; rfl
    | cons d b =>
      obtain ⟨h', t', hs'⟩ := spl_head b
      rw [cmpL]
      by_cases he : c = d
      · subst he
        rw [if_pos rfl, ← ih]
        by_cases hc : c = 47
        · subst hc
          rw [spl_47, spl_47, lessN, if_pos rfl]
        · rw [spl_cons c a h t hc hs, spl_cons c b h' t' hc hs', hs, hs', lessN, lessN]
          by_cases hh : h = h'
          · rw [if_pos hh, if_pos (by rw [hh])]
          · rw [if_neg hh, if_neg (by simpa using hh), Op.bytesLess]; simp
      · rw [if_neg he]
        by_cases hc : c = 47
        · subst hc
          have hd : d ≠ 47 := fun e => he e.symm
          rw [if_pos rfl, spl_47, spl_cons d b h' t' hd hs', lessN, if_neg (by simp)]; rfl
        · rw [if_neg hc, spl_cons c a h t hc hs]
          by_cases hd : d = 47
          · subst hd
            rw [if_pos rfl, spl_47, lessN, if_neg (by simp)]; rfl
          · rw [if_neg hd, spl_cons d b h' t' hd hs', lessN, if_neg (by simp [he]), Op.bytesLess]
            have : (c == d) = false := by simpa using he
            rw [this]
            by_cases hlt : c < d
            · rw [if_pos hlt]; simp [hlt]
            · rw [if_neg hlt]; simp [hlt]

/-- The order by numbers of bytes, the slash the least. -/
def rk (c : UInt8) : Nat := if c = 47 then 0 else c.toNat + 1
def key (l : List UInt8) : List Nat := l.map rk
theorem rk_inj {c d : UInt8} (h : rk c = rk d) : c = d := by
  unfold rk at h
  split at h <;> split at h
  · next a b => rw [a, b]
  · omega
  · omega
  · exact UInt8.toNat_inj.1 (by omega)
theorem rk_cmp {c d : UInt8} (h : c ≠ d) : (if c = 47 then (-1 : Int) else if d = 47 then 1 else if c < d then -1 else 1) = if rk c < rk d then -1 else 1 := by
  unfold rk
  by_cases h1 : c = 47
  · have h2 : d ≠ 47 := fun e => h (h1.trans e.symm)
    simp [h1, h2]
  · by_cases h2 : d = 47
    · simp [h1, h2]
    · have : c < d ↔ c.toNat < d.toNat := UInt8.lt_iff_toNat_lt
      simp [h1, h2, this]
theorem cmpL_key (a b : List UInt8) : (cmpL a b < 0 ↔ key a < key b) ∧ (0 < cmpL a b ↔ key b < key a) ∧ (cmpL a b = 0 ↔ a = b) := by
  induction a generalizing b with
  | nil =>
    cases b with
    | nil => simp [cmpL, key]
    | cons d b => simp [cmpL, key]
  | cons c a ih =>
    cases b with
    | nil => simp [cmpL, key]
    | cons d b =>
      rw [cmpL]
      simp only [key, List.map_cons, List.cons_lt_cons_iff]
      by_cases he : c = d
      · subst he
        rw [if_pos rfl]
        have := ih b
        simp only [key] at this
        simpa using this
      · rw [if_neg he, rk_cmp he]
        have hne : rk c ≠ rk d := fun e => he (rk_inj e)
        by_cases hlt : rk c < rk d
        · rw [if_pos hlt]
          simp only [hlt, true_or, he, List.cons.injEq, false_and]
          refine ⟨by simp, ⟨fun h => by omega, fun h => by omega⟩, ⟨fun h => by omega, fun h => h.elim⟩⟩
        · rw [if_neg hlt]
          have hgt : rk d < rk c := by omega
          simp only [hlt, hgt, true_or, he, List.cons.injEq, false_and]
          refine ⟨⟨fun h => by omega, fun h => by rcases h with h | h; exact h.elim; exact absurd h.1 hne⟩, by simp, ⟨fun h => by omega, fun h => h.elim⟩⟩
theorem key_prefix (a : List UInt8) (b : List UInt8) (h : b ≠ []) : key a < key (a ++ b) := by
  induction a with
  | nil => cases b with
    | nil => exact absurd rfl h
    | cons c b => simp [key]
  | cons c a ih => simp only [key, List.map_cons, List.cons_append, List.cons_lt_cons_iff] at ih ⊢; simpa using ih
theorem parentL_lt (l : List UInt8) (h : parentL l ≠ []) : key (parentL l) < key l := by
  rcases indexByte_split l.reverse 47 with ⟨_, hn⟩ | ⟨i, _, _, he, hn⟩
  · exact absurd (parentL_none l (fun c hc => hn c (by simpa using hc))) h
  · have e2 : l = (l.reverse.drop (i + 1)).reverse ++ 47 :: (l.reverse.take i).reverse := by
      have := congrArg List.reverse he
      rw [List.reverse_reverse] at this
      refine this.trans ?_
      rw [List.reverse_append, List.reverse_cons, List.append_assoc, List.singleton_append]
    have hp : parentL l = (l.reverse.drop (i + 1)).reverse := by
      rw [e2, parentL_cut]
      · rw [← e2]
      · intro c hc; exact hn c (by simpa using hc)
    rw [hp]
    conv => rhs; rw [e2]
    exact key_prefix _ _ (by simp)
end Go.Proofs.YtpjjagalekolaaaGreatDoor

/- The reference's look at one entry, of trees that do not fold. -/
namespace Go.Proofs.YtpjjagalekolaaaGreatDoor
open Go.RowKit
set_option linter.unusedVariables false
set_option linter.unusedSimpArgs false

def upB (l : List EntD) (up : ByteArray) : Bool := (up.data.toList == []) || l.any fun o => o.dir && (o.path.data.toList == up.data.toList)
def twiceB (l : List EntD) (e : EntD) : Bool := l.any fun o => o.path.data.toList == e.path.data.toList
def sizeB (l : List EntD) (e : EntD) : Bool := l.any fun o => !e.dir && !o.dir && decide (o.id = e.id) && decide (o.size ≠ e.size)
def refErr (l : List EntD) (i : Nat) (e : EntD) : Int :=
  if pathL e.path.data.toList = false then 1
  else if fieldsB e = false then 4
  else if 0 < i ∧ lessN (spl ((l[i - 1]?.map (·.path.data.toList)).getD [])) (spl e.path.data.toList) = false then 3
  else if upB (l.take i) (parentB e.path) = false then 2
  else if twiceB (l.take i) e = true then 8
  else if sizeB (l.take i) e = true then 6 else 0

set_option maxRecDepth 4000 in
set_option maxHeartbeats 2000000 in
theorem refEntry_name (b off cap : Nat) (l : List EntD) (i : Nat) (e : EntD) (w : World) (hi : i < l.length) (hx : l[i] = e) (hl : l.length ≤ 2000000) (hs : ∀ o ∈ l, o.small) (hb : b < w.heap.size) (hc : EntsAt w b off l) (h1 : pathL e.path.data.toList = false) :
    Calls Tryz.prog 105 #[.slice (some ⟨b, off, none⟩) l.length cap, .int .i64 i, .bool false, .bool false] w fun r w' => r = .returned (.int .i64 (refErr l i e)) ∧ Below w.heap.size w w' := by
  have hcw := hc i hi
  rw [hx] at hcw
  have c0 := hcw 0 _ rfl
  have c1 := hcw 1 _ rfl
  have c2 := hcw 2 _ rfl
  have c3 := hcw 3 _ rfl
  have c4 := hcw 4 _ rfl
  simp only [Nat.add_zero] at c0
  clear hcw
  have hsm : e.small := hx ▸ hs _ (List.getElem_mem hi)
  unfold EntD.small at hsm
  have st := Eb.start w e
  have hv : refErr l i e = 1 := by rw [refErr, if_pos h1]
  go_enter Tryz.func105, Tryz.ntmps105
  go_wp2_with (first | (go_at_call 107; refine (refPath_any _ _ hsm).mono ?_; rintro r w1 ⟨rfl, hb1⟩; rw [h1]; have s1 := st.below hb1; have k0 := s1.cell 0; simp [EntD.cells] at k0) | (go_at_call 113; refine (refSpare_any _ _ (by omega)).mono ?_; rintro r w2 ⟨rfl, rfl⟩))
  go_ret
  exact ⟨by rw [hv]; rfl, s1.bel⟩

set_option maxRecDepth 4000 in
set_option maxHeartbeats 4000000 in
theorem refEntry_bad (b off cap : Nat) (l : List EntD) (i : Nat) (e : EntD) (w : World) (hi : i < l.length) (hx : l[i] = e) (hl : l.length ≤ 2000000) (hs : ∀ o ∈ l, o.small) (hb : b < w.heap.size) (hc : EntsAt w b off l) (h1 : pathL e.path.data.toList = true) (h2 : fieldsB e = false) :
    Calls Tryz.prog 105 #[.slice (some ⟨b, off, none⟩) l.length cap, .int .i64 i, .bool false, .bool false] w fun r w' => r = .returned (.int .i64 (refErr l i e)) ∧ Below w.heap.size w w' := by
  have hcw := hc i hi
  rw [hx] at hcw
  have c0 := hcw 0 _ rfl
  have c1 := hcw 1 _ rfl
  have c2 := hcw 2 _ rfl
  have c3 := hcw 3 _ rfl
  have c4 := hcw 4 _ rfl
  simp only [Nat.add_zero] at c0
  clear hcw
  have hsm : e.small := hx ▸ hs _ (List.getElem_mem hi)
  unfold EntD.small at hsm
  have st := Eb.start w e
  have hv : refErr l i e = 4 := by rw [refErr, h1, if_neg (by simp), if_pos h2]
  have HV : Hid (refErr l i e = 4) := hv
  have h2' : fieldsB e = true → False := by rw [h2]; simp
  clear h2 st hv
  obtain ⟨p, d, q, z, m⟩ := e
  dsimp only at *
  by_cases m1 : 0 ≤ m
  · by_cases m2 : m ≤ 511
    · cases d
      · by_cases j1 : 1 ≤ q
        · by_cases j2 : q ≤ 9999
          · by_cases j3 : 0 ≤ z
            · have j4 : ¬ z ≤ 100 := fun j4 => h2' (by simp [fieldsB, m1, m2, j1, j2, j3, j4])
              clear h2'
              have st := Eb.start w ⟨p, false, q, z, m⟩
              go_enter Tryz.func105, Tryz.ntmps105
              go_wp2_with (first | (go_at_call 107; refine (refPath_any _ _ hsm).mono ?_; rintro r w1 ⟨rfl, hb1⟩; rw [h1]; have s1 := st.below hb1; have k0 := s1.cell 0; simp [EntD.cells] at k0) | (go_at_call 113; refine (refSpare_any _ _ (by omega)).mono ?_; rintro r w2 ⟨rfl, rfl⟩; have k1 := s1.cell 1; have k2 := s1.cell 2; have k3 := s1.cell 3; have k4 := s1.cell 4; simp [EntD.cells] at k1 k2 k3 k4))
              go_ret
              exact ⟨by rw [HV.out]; rfl, s1.bel⟩
            · clear h2'
              have st := Eb.start w ⟨p, false, q, z, m⟩
              go_enter Tryz.func105, Tryz.ntmps105
              go_wp2_with (first | (go_at_call 107; refine (refPath_any _ _ hsm).mono ?_; rintro r w1 ⟨rfl, hb1⟩; rw [h1]; have s1 := st.below hb1; have k0 := s1.cell 0; simp [EntD.cells] at k0) | (go_at_call 113; refine (refSpare_any _ _ (by omega)).mono ?_; rintro r w2 ⟨rfl, rfl⟩; have k1 := s1.cell 1; have k2 := s1.cell 2; have k3 := s1.cell 3; have k4 := s1.cell 4; simp [EntD.cells] at k1 k2 k3 k4))
              go_ret
              exact ⟨by rw [HV.out]; rfl, s1.bel⟩
          · clear h2'
            have st := Eb.start w ⟨p, false, q, z, m⟩
            go_enter Tryz.func105, Tryz.ntmps105
            go_wp2_with (first | (go_at_call 107; refine (refPath_any _ _ hsm).mono ?_; rintro r w1 ⟨rfl, hb1⟩; rw [h1]; have s1 := st.below hb1; have k0 := s1.cell 0; simp [EntD.cells] at k0) | (go_at_call 113; refine (refSpare_any _ _ (by omega)).mono ?_; rintro r w2 ⟨rfl, rfl⟩; have k1 := s1.cell 1; have k2 := s1.cell 2; have k3 := s1.cell 3; have k4 := s1.cell 4; simp [EntD.cells] at k1 k2 k3 k4))
            go_ret
            exact ⟨by rw [HV.out]; rfl, s1.bel⟩
        · clear h2'
          have st := Eb.start w ⟨p, false, q, z, m⟩
          go_enter Tryz.func105, Tryz.ntmps105
          go_wp2_with (first | (go_at_call 107; refine (refPath_any _ _ hsm).mono ?_; rintro r w1 ⟨rfl, hb1⟩; rw [h1]; have s1 := st.below hb1; have k0 := s1.cell 0; simp [EntD.cells] at k0) | (go_at_call 113; refine (refSpare_any _ _ (by omega)).mono ?_; rintro r w2 ⟨rfl, rfl⟩; have k1 := s1.cell 1; have k2 := s1.cell 2; have k3 := s1.cell 3; have k4 := s1.cell 4; simp [EntD.cells] at k1 k2 k3 k4))
          go_ret
          exact ⟨by rw [HV.out]; rfl, s1.bel⟩
      · by_cases j1 : q = 0
        · have j2 : ¬ z = 0 := fun j2 => h2' (by simp [fieldsB, m1, m2, j1, j2])
          subst j1
          clear h2'
          have st := Eb.start w ⟨p, true, 0, z, m⟩
          go_enter Tryz.func105, Tryz.ntmps105
          go_wp2_with (first | (go_at_call 107; refine (refPath_any _ _ hsm).mono ?_; rintro r w1 ⟨rfl, hb1⟩; rw [h1]; have s1 := st.below hb1; have k0 := s1.cell 0; simp [EntD.cells] at k0) | (go_at_call 113; refine (refSpare_any _ _ (by omega)).mono ?_; rintro r w2 ⟨rfl, rfl⟩; have k1 := s1.cell 1; have k2 := s1.cell 2; have k3 := s1.cell 3; have k4 := s1.cell 4; simp [EntD.cells] at k1 k2 k3 k4))
          go_ret
          exact ⟨by rw [HV.out]; rfl, s1.bel⟩
        · clear h2'
          have st := Eb.start w ⟨p, true, q, z, m⟩
          go_enter Tryz.func105, Tryz.ntmps105
          go_wp2_with (first | (go_at_call 107; refine (refPath_any _ _ hsm).mono ?_; rintro r w1 ⟨rfl, hb1⟩; rw [h1]; have s1 := st.below hb1; have k0 := s1.cell 0; simp [EntD.cells] at k0) | (go_at_call 113; refine (refSpare_any _ _ (by omega)).mono ?_; rintro r w2 ⟨rfl, rfl⟩; have k1 := s1.cell 1; have k2 := s1.cell 2; have k3 := s1.cell 3; have k4 := s1.cell 4; simp [EntD.cells] at k1 k2 k3 k4))
          go_ret
          exact ⟨by rw [HV.out]; rfl, s1.bel⟩
    · clear h2'
      have st := Eb.start w ⟨p, d, q, z, m⟩
      go_enter Tryz.func105, Tryz.ntmps105
      go_wp2_with (first | (go_at_call 107; refine (refPath_any _ _ hsm).mono ?_; rintro r w1 ⟨rfl, hb1⟩; rw [h1]; have s1 := st.below hb1; have k0 := s1.cell 0; simp [EntD.cells] at k0) | (go_at_call 113; refine (refSpare_any _ _ (by omega)).mono ?_; rintro r w2 ⟨rfl, rfl⟩; have k1 := s1.cell 1; have k2 := s1.cell 2; have k3 := s1.cell 3; have k4 := s1.cell 4; simp [EntD.cells] at k1 k2 k3 k4))
      go_ret
      exact ⟨by rw [HV.out]; rfl, s1.bel⟩
  · clear h2'
    have st := Eb.start w ⟨p, d, q, z, m⟩
    go_enter Tryz.func105, Tryz.ntmps105
    go_wp2_with (first | (go_at_call 107; refine (refPath_any _ _ hsm).mono ?_; rintro r w1 ⟨rfl, hb1⟩; rw [h1]; have s1 := st.below hb1; have k0 := s1.cell 0; simp [EntD.cells] at k0) | (go_at_call 113; refine (refSpare_any _ _ (by omega)).mono ?_; rintro r w2 ⟨rfl, rfl⟩; have k1 := s1.cell 1; have k2 := s1.cell 2; have k3 := s1.cell 3; have k4 := s1.cell 4; simp [EntD.cells] at k1 k2 k3 k4))
    go_ret
    exact ⟨by rw [HV.out]; rfl, s1.bel⟩
end Go.Proofs.YtpjjagalekolaaaGreatDoor

/- One text or another, by folding. -/
namespace Go.Proofs.YtpjjagalekolaaaGreatDoor
open Go.RowKit
set_option linter.unusedVariables false
set_option linter.unusedSimpArgs false

/-- The number of a byte, folded. -/
def foN (x : Int) : Int := if 65 ≤ x ∧ x ≤ 90 then x + 32 else x
theorem foN_byte (c : UInt8) : ((foldB c).toNat : Int) = foN c.toNat := by
  unfold foldB foN
  by_cases h : 65 ≤ c.toNat ∧ c.toNat ≤ 90
  · rw [if_pos h, if_pos (by omega)]
    have : (c + 32).toNat = c.toNat + 32 := by
      rw [UInt8.toNat_add]
      have : (32 : UInt8).toNat = 32 := rfl
      omega
    omega
  · rw [if_neg h, if_neg (by omega)]
set_option maxHeartbeats 4000000 in
theorem one_fold (a b : ByteArray) (w : World) (ha : a.size ≤ 1500000) (hb : b.size ≤ 1500000) :
    Calls Tryz.prog 110 #[.string a, .string b, .bool true] w fun e w' => e = .returned (.bool (sameB true a.data.toList b.data.toList)) ∧ ∃ n, w' = w.drewN n := by
  by_cases hl : a.size = b.size
  · have hl' : ((a.size : Int) != (b.size : Int)) = false := by simp; omega
    have HL : Hid (a.size = b.size) := hl
    clear hl
    go_enter Tryz.func110, Tryz.ntmps110
    go_wp2
    go_loopw [7] (fun i wr => ∃ (k n : Nat), k ≤ a.size ∧ i = .int .i64 k ∧ wr = w.drewN n ∧ (a.data.toList.take k).map foldB = (b.data.toList.take k).map foldB) (fun i _ => a.size - (intOf i).toNat)
    case atStart => exact ⟨0, 0, Nat.zero_le _, rfl, rfl, rfl⟩
    case round =>
      obtain ⟨k, n, hka, rfl, rfl, hc⟩ := hrel
      have HC : Hid ((a.data.toList.take k).map foldB = (b.data.toList.take k).map foldB) := hc
      clear hc
      by_cases hlt : k < a.size
      · have h2 : k < b.size := by have := HL.out; omega
        have HA : Hid (a.data.toList.take (k + 1) = a.data.toList.take k ++ [a[k]]) := take_snoc a k hlt
        have HB : Hid (b.data.toList.take (k + 1) = b.data.toList.take k ++ [b[k]]) := take_snoc b k h2
        have fa := foN_byte a[k]
        have fb := foN_byte b[k]
        have ra : (0 : Int) ≤ (a[k]).toNat ∧ ((a[k]).toNat : Int) ≤ 255 := by have := (a[k]).toNat_lt; omega
        have rb : (0 : Int) ≤ (b[k]).toNat ∧ ((b[k]).toNat : Int) ≤ 255 := by have := (b[k]).toNat_lt; omega
        have HV : Hid (foldB a[k] ≠ foldB b[k] → sameB true a.data.toList b.data.toList = false) := by
          show foldB a[k] ≠ foldB b[k] → sameB true a.data.toList b.data.toList = false
          intro hne
          cases hs : sameB true a.data.toList b.data.toList with
          | false => rfl
          | true =>
            exfalso
            apply hne
            have hs' : a.data.toList.map foldB = b.data.toList.map foldB := by simpa [sameB] using hs
            have e1 := congrArg (fun l => l[k]?) hs'
            have e2 : foldB (a.data[k]'hlt) = foldB (b.data[k]'h2) := by simpa [hlt, h2] using e1
            exact e2
        have HQ : Hid (foldB a[k] = foldB b[k] ↔ foN (a[k]).toNat = foN (b[k]).toNat) := by
          show foldB a[k] = foldB b[k] ↔ foN (a[k]).toNat = foN (b[k]).toNat
          rw [← fa, ← fb, ← UInt8.toNat_inj]; omega
        clear fa fb
        obtain ⟨ra1, ra2⟩ := ra
        obtain ⟨rb1, rb2⟩ := rb
        generalize hW : w.drewN n = W
        have HE : Hid (foN (a[k]).toNat = foN (b[k]).toNat → (a.data.toList.take (k + 1)).map foldB = (b.data.toList.take (k + 1)).map foldB) := fun h => by
          rw [HA.out, HB.out, List.map_append, List.map_append, HC.out]
          simp [HQ.out.2 h]
        have HN : Hid (foN (a[k]).toNat ≠ foN (b[k]).toNat → sameB true a.data.toList b.data.toList = false) := fun h => HV.out (fun e => h (HQ.out.1 e))
        clear HV HQ HA HB HC
        have tri : ∀ x : Int, (x < 65 ∧ foN x = x) ∨ (65 ≤ x ∧ x ≤ 90 ∧ foN x = x + 32 ∧ IntKind.u8.wrap (x - 65) = x - 65 ∧ IntKind.u8.wrap (x - 65 + 97) = x + 32) ∨ (90 < x ∧ foN x = x) := by
          intro x
          unfold foN
          by_cases h1 : x < 65
          · exact .inl ⟨h1, if_neg (by omega)⟩
          · by_cases h2 : x ≤ 90
            · exact .inr (.inl ⟨by omega, h2, if_pos (by omega), by simp [IntKind.wrap, IntKind.bits, IntKind.signed]; omega, by simp [IntKind.wrap, IntKind.bits, IntKind.signed]; omega⟩)
            · exact .inr (.inr ⟨by omega, if_neg (by omega)⟩)
        by_cases hq : foN (a[k]).toNat = foN (b[k]).toNat
        · have hr := hidD (HE.out hq)
          clear HE HN
          rcases tri (a[k]).toNat with ⟨p, fx⟩ | ⟨p, p2, fx, x1, x2⟩ | ⟨p, fx⟩
          all_goals rw [fx] at hq
          all_goals rcases tri (b[k]).toNat with ⟨q, fy⟩ | ⟨q, q2, fy, y1, y2⟩ | ⟨q, fy⟩
          all_goals rw [fy] at hq
          all_goals have hq' := bne_eq_false_iff_eq.2 hq
          all_goals clear tri hq fx fy
          all_goals go_wp2
          all_goals exact ⟨⟨k + 1, n, by omega, by go_num, hW.symm, hr.out⟩, by simp [intOf]; omega⟩
        · have hr := hidD (HN.out hq)
          clear HE HN
          rcases tri (a[k]).toNat with ⟨p, fx⟩ | ⟨p, p2, fx, x1, x2⟩ | ⟨p, fx⟩
          all_goals rw [fx] at hq
          all_goals rcases tri (b[k]).toNat with ⟨q, fy⟩ | ⟨q, q2, fy, y1, y2⟩ | ⟨q, fy⟩
          all_goals rw [fy] at hq
          all_goals have hq' := bne_iff_ne.2 hq
          all_goals clear tri hq fx fy
          all_goals go_wp2
          all_goals go_ret
          all_goals exact ⟨ret_bool hr.out.symm, n, hW.symm⟩
      · go_wp2
        go_ret
        refine ⟨ret_bool ?_, n, rfl⟩
        have h := HC.out
        rw [List.take_of_length_le (by simp; omega), List.take_of_length_le (by simp; have := HL.out; omega)] at h
        simp [h, sameB]
  · have hl' : ((a.size : Int) != (b.size : Int)) = true := by simp; omega
    have HV : Hid (sameB true a.data.toList b.data.toList = false) := by
      show sameB true a.data.toList b.data.toList = false
      cases hs : sameB true a.data.toList b.data.toList with
      | false => rfl
      | true =>
        exfalso
        have hs' : a.data.toList.map foldB = b.data.toList.map foldB := by simpa [sameB] using hs
        have := congrArg List.length hs'
        simp at this
        omega
    go_enter Tryz.func110, Tryz.ntmps110
    go_wp2
    go_ret
    exact ⟨ret_bool HV.out.symm, 0, rfl⟩

end Go.Proofs.YtpjjagalekolaaaGreatDoor

/- The program's look at one entry, and its Check, of trees that fold. -/
namespace Go.Proofs.YtpjjagalekolaaaGreatDoor
open Go.RowKit
set_option linter.unusedVariables false
set_option linter.unusedSimpArgs false

theorem find_n (b off cap n : Nat) (l : List EntD) (p : ByteArray) (w : World) (hn : n ≤ l.length) (hl : l.length ≤ 2000000) (hs : ∀ o ∈ l, o.small) (hp : p.size ≤ 1500000) (hb : b < w.heap.size) (hc : EntsAt w b off l) :
    Calls Tryz.prog 155 #[.slice (some ⟨b, off, none⟩) n cap, .string p, .bool true] w fun r w' => r = .returned (.int .i64 (fstI (fun o => sameB true o.path.data.toList p.data.toList) (l.take n))) ∧ Below w.heap.size w w' := by
  have h := find_any b off cap (l.take n) p true w (by simp; omega) (fun o ho => hs o (List.mem_of_mem_take ho)) hp hb (hc.take n)
  rw [show (l.take n).length = n by simp; omega] at h
  exact h

set_option maxHeartbeats 4000000 in
theorem entErrT_0 (b off cap : Nat) (l : List EntD) (e : EntD) (w : World) (hi : 0 < l.length) (hx : l[0] = e) (hl : l.length ≤ 2000000) (hcap : l.length ≤ cap) (hs : ∀ o ∈ l, o.small) (hb : b < w.heap.size) (hc : EntsAt w b off l) (h1 : fieldsB e = true) :
    Calls Tryz.prog 137 #[.slice (some ⟨b, off, none⟩) l.length cap, .int .i64 (0 : Nat), .bool true] w fun r w' => r = .returned (.int .i64 (entErr l 0 e true)) ∧ Below w.heap.size w w' := by
  have hcw := hc 0 hi
  rw [hx] at hcw
  have c0 := hcw 0 _ rfl
  have c1 := hcw 1 _ rfl
  have c2 := hcw 2 _ rfl
  have c3 := hcw 3 _ rfl
  have c4 := hcw 4 _ rfl
  simp only [Nat.add_zero, Nat.zero_mul] at c0 c1 c2 c3 c4
  clear hcw
  have hsm : e.small := hx ▸ hs _ (List.getElem_mem hi)
  unfold EntD.small at hsm
  have st := Eb.start w e
  have HFD : Hid (fstI (fun o : EntD => sameB true o.path.data.toList e.path.data.toList) (l.take 0) = -1) := rfl
  by_cases h2 : hasParB l e.path = true
  · have h3 : otherB (l.take 0) e = false := rfl
    have hv : entErr l 0 e true = 0 := by rw [entErr, h1, if_neg (by simp), if_neg (by simp), h2, if_neg (by simp), HFD.out, if_neg (by simp), h3, if_neg (by simp)]
    go_enter Tryz.func137, Tryz.ntmps137
    go_wp2_with (go_at_call 176; refine (fieldsFit_any e _).mono ?_; rintro r w1 ⟨rfl, hb1⟩; rw [h1]; have s1 := st.below hb1; have k0 := s1.cell 0; have k1 := s1.cell 1; have k2 := s1.cell 2; have k3 := s1.cell 3; have k4 := s1.cell 4; simp [EntD.cells] at k0 k1 k2 k3 k4)
    go_quiet (fail)
    have s1' := s1.drewN nq
    clear k0 k1 k2 k3 k4
    generalize w1.drewN nq = u1 at *
    have k0 := s1'.cell 0
    simp [EntD.cells] at k0
    go_wp2_with (go_at_call 178; refine (hasParent_any b off cap l _ _ hl hs hsm (by have := s1'.lt; omega) (hc.below s1'.bel hb)).mono ?_; rintro r w2 ⟨rfl, hb2⟩; rw [h2]; have s2 := s1'.below hb2)
    have e0 := s2.cell 0
    simp [EntD.cells] at e0
    go_region_held (fun u => u.cell? ⟨w.heap.size, 0, none⟩ = some (.string e.path)) (go_keep) (first | (go_at_call 155; refine (find_n b off cap 0 l e.path _ (by omega) hl hs hsm (by have := (s2.drewN 1).lt; omega) (hc.below (s2.drewN 1).bel hb)).mono ?_; rintro r u2 ⟨rfl, hb2'⟩; rw [HFD.out]; have s2' := (s2.drewN 1).below hb2'; have e1 := s2'.cell 0; simp [EntD.cells] at e1))
    all_goals (have k0 := s2'.cell 0; have k1 := s2'.cell 1; have k2 := s2'.cell 2; have k3 := s2'.cell 3; have k4 := s2'.cell 4; simp [EntD.cells] at k0 k1 k2 k3 k4)
    all_goals go_wp2
    all_goals go_region_held (fun u => u.cell? ⟨w.heap.size, 0, none⟩ = some (.string e.path) ∧ u.cell? ⟨w.heap.size, 1, none⟩ = some (.bool e.dir) ∧ u.cell? ⟨w.heap.size, 2, none⟩ = some (.int .i64 e.id) ∧ u.cell? ⟨w.heap.size, 3, none⟩ = some (.int .i64 e.size) ∧ u.cell? ⟨w.heap.size, 4, none⟩ = some (.int .i64 e.mode)) (go_keep) (first | (go_at_call 91; refine (hasOther_n b off cap 0 l e _ (by omega) hl (by have := s2'.drew.lt; omega) (hc.below s2'.drew.bel hb)).mono ?_; rintro r w' ⟨rfl, hb3⟩; rw [h3]; have s4 := s2'.drew.below hb3; have m0 := s4.cell 0; have m1 := s4.cell 1; have m2 := s4.cell 2; have m3 := s4.cell 3; have m4 := s4.cell 4; simp [EntD.cells] at m0 m1 m2 m3 m4))
    all_goals go_wp2
    all_goals go_ret
    all_goals exact ⟨by rw [hv]; rfl, s4.bel⟩
  · simp only [Bool.not_eq_true] at h2
    have hv : entErr l 0 e true = 2 := by rw [entErr, h1, if_neg (by simp), if_neg (by simp), if_pos h2]
    go_enter Tryz.func137, Tryz.ntmps137
    go_wp2_with (go_at_call 176; refine (fieldsFit_any e _).mono ?_; rintro r w1 ⟨rfl, hb1⟩; rw [h1]; have s1 := st.below hb1; have k0 := s1.cell 0; have k1 := s1.cell 1; have k2 := s1.cell 2; have k3 := s1.cell 3; have k4 := s1.cell 4; simp [EntD.cells] at k0 k1 k2 k3 k4)
    go_quiet (fail)
    have s1' := s1.drewN nq
    clear k0 k1 k2 k3 k4
    generalize w1.drewN nq = u1 at *
    have k0 := s1'.cell 0
    simp [EntD.cells] at k0
    go_wp2_with (go_at_call 178; refine (hasParent_any b off cap l _ _ hl hs hsm (by have := s1'.lt; omega) (hc.below s1'.bel hb)).mono ?_; rintro r w2 ⟨rfl, hb2⟩; rw [h2]; have s2 := s1'.below hb2)
    go_ret
    exact ⟨by rw [hv]; rfl, s2.bel⟩

set_option maxHeartbeats 8000000 in
theorem entErrT_pos (b off cap m : Nat) (l : List EntD) (o e : EntD) (w : World) (hi : m + 1 < l.length) (hy : l[m] = o) (hx : l[m + 1] = e) (hl : l.length ≤ 2000000) (hcap : l.length ≤ cap) (hs : ∀ o ∈ l, o.small) (hb : b < w.heap.size) (hc : EntsAt w b off l) (h1 : fieldsB e = true) :
    Calls Tryz.prog 137 #[.slice (some ⟨b, off, none⟩) l.length cap, .int .i64 (m + 1 : Nat), .bool true] w fun r w' => r = .returned (.int .i64 (entErr l (m + 1) e true)) ∧ Below w.heap.size w w' := by
  have hcw := hc (m + 1) hi
  rw [hx] at hcw
  have c0 := hcw 0 _ rfl
  have c1 := hcw 1 _ rfl
  have c2 := hcw 2 _ rfl
  have c3 := hcw 3 _ rfl
  have c4 := hcw 4 _ rfl
  simp only [Nat.add_zero] at c0
  clear hcw
  have hsm : e.small := hx ▸ hs _ (List.getElem_mem hi)
  have hso : o.small := hy ▸ hs _ (List.getElem_mem (by omega))
  unfold EntD.small at hsm hso
  have hpv : (l[m + 1 - 1]?.map (·.path.data.toList)).getD [] = o.path.data.toList := by
    rw [show m + 1 - 1 = m by omega, List.getElem?_eq_getElem (by omega : m < l.length), hy]; rfl
  have st := Eb.start w e
  by_cases hcm : 0 ≤ cmpL o.path.data.toList e.path.data.toList
  · have hv : entErr l (m + 1) e true = 3 := by rw [entErr, h1, if_neg (by simp), hpv, if_pos ⟨by omega, hcm⟩]
    go_enter Tryz.func137, Tryz.ntmps137
    go_wp2_with (go_at_call 176; refine (fieldsFit_any e _).mono ?_; rintro r w1 ⟨rfl, hb1⟩; rw [h1]; have s1 := st.below hb1; have k0 := s1.cell 0; simp [EntD.cells] at k0; have p0 := (hc.below s1.bel hb) m (by omega) 0 _ rfl; simp only [Nat.add_zero] at p0; rw [hy] at p0)
    go_quiet (first | (go_at_call 177; exact Calls.quiet_of (compare_any _ _ _ (by omega) (by omega))))
    have s1' := s1.drewN nq
    clear k0 p0
    generalize w1.drewN nq = u1 at *
    have k0 := s1'.cell 0
    simp [EntD.cells] at k0
    go_wp2
    go_ret
    exact ⟨by rw [hv]; rfl, s1'.bel⟩
  · by_cases h2 : hasParB l e.path = true
    · rcases fstI_find (fun o : EntD => sameB true o.path.data.toList e.path.data.toList) (l.take (m + 1)) with ⟨hf, _⟩ | ⟨j, hj, hf, _⟩
      · have HFD := hidD hf
        clear hf
        cases h3 : otherB (l.take (m + 1)) e
        · have hv : entErr l (m + 1) e true = 0 := by rw [entErr, h1, if_neg (by simp), hpv, if_neg (by omega), h2, if_neg (by simp), HFD.out, if_neg (by simp), h3, if_neg (by simp)]
          go_enter Tryz.func137, Tryz.ntmps137
          go_wp2_with (go_at_call 176; refine (fieldsFit_any e _).mono ?_; rintro r w1 ⟨rfl, hb1⟩; rw [h1]; have s1 := st.below hb1; have k0 := s1.cell 0; simp [EntD.cells] at k0; have p0 := (hc.below s1.bel hb) m (by omega) 0 _ rfl; simp only [Nat.add_zero] at p0; rw [hy] at p0)
          go_quiet (first | (go_at_call 177; exact Calls.quiet_of (compare_any _ _ _ (by omega) (by omega))))
          have s1' := s1.drewN nq
          clear k0 p0
          generalize w1.drewN nq = u1 at *
          have k0 := s1'.cell 0
          simp [EntD.cells] at k0
          go_wp2_with (go_at_call 178; refine (hasParent_any b off cap l _ _ hl hs hsm (by have := s1'.lt; omega) (hc.below s1'.bel hb)).mono ?_; rintro r w2 ⟨rfl, hb2⟩; rw [h2]; have s2 := s1'.below hb2)
          have e0 := s2.cell 0
          simp [EntD.cells] at e0
          go_region_held (fun u => u.cell? ⟨w.heap.size, 0, none⟩ = some (.string e.path)) (go_keep) (first | (go_at_call 155; refine (find_n b off cap (m + 1) l e.path _ (by omega) hl hs hsm (by have := (s2.drewN 1).lt; omega) (hc.below (s2.drewN 1).bel hb)).mono ?_; rintro r u2 ⟨rfl, hb2'⟩; rw [HFD.out]; have s2' := (s2.drewN 1).below hb2'; have e1 := s2'.cell 0; simp [EntD.cells] at e1))
          all_goals (have k0 := s2'.cell 0; have k1 := s2'.cell 1; have k2 := s2'.cell 2; have k3 := s2'.cell 3; have k4 := s2'.cell 4; simp [EntD.cells] at k0 k1 k2 k3 k4)
          all_goals go_wp2
          all_goals go_region_held (fun u => u.cell? ⟨w.heap.size, 0, none⟩ = some (.string e.path) ∧ u.cell? ⟨w.heap.size, 1, none⟩ = some (.bool e.dir) ∧ u.cell? ⟨w.heap.size, 2, none⟩ = some (.int .i64 e.id) ∧ u.cell? ⟨w.heap.size, 3, none⟩ = some (.int .i64 e.size) ∧ u.cell? ⟨w.heap.size, 4, none⟩ = some (.int .i64 e.mode)) (go_keep) (first | (go_at_call 91; refine (hasOther_n b off cap (m + 1) l e _ (by omega) hl (by have := s2'.drew.lt; omega) (hc.below s2'.drew.bel hb)).mono ?_; rintro r w' ⟨rfl, hb3⟩; rw [h3]; have s4 := s2'.drew.below hb3; have m0 := s4.cell 0; have m1 := s4.cell 1; have m2 := s4.cell 2; have m3 := s4.cell 3; have m4 := s4.cell 4; simp [EntD.cells] at m0 m1 m2 m3 m4))
          all_goals go_wp2
          all_goals go_ret
          all_goals exact ⟨by rw [hv]; rfl, s4.bel⟩
        · have hv : entErr l (m + 1) e true = 6 := by rw [entErr, h1, if_neg (by simp), hpv, if_neg (by omega), h2, if_neg (by simp), HFD.out, if_neg (by simp), if_pos h3]
          go_enter Tryz.func137, Tryz.ntmps137
          go_wp2_with (go_at_call 176; refine (fieldsFit_any e _).mono ?_; rintro r w1 ⟨rfl, hb1⟩; rw [h1]; have s1 := st.below hb1; have k0 := s1.cell 0; simp [EntD.cells] at k0; have p0 := (hc.below s1.bel hb) m (by omega) 0 _ rfl; simp only [Nat.add_zero] at p0; rw [hy] at p0)
          go_quiet (first | (go_at_call 177; exact Calls.quiet_of (compare_any _ _ _ (by omega) (by omega))))
          have s1' := s1.drewN nq
          clear k0 p0
          generalize w1.drewN nq = u1 at *
          have k0 := s1'.cell 0
          simp [EntD.cells] at k0
          go_wp2_with (go_at_call 178; refine (hasParent_any b off cap l _ _ hl hs hsm (by have := s1'.lt; omega) (hc.below s1'.bel hb)).mono ?_; rintro r w2 ⟨rfl, hb2⟩; rw [h2]; have s2 := s1'.below hb2)
          have e0 := s2.cell 0
          simp [EntD.cells] at e0
          go_region_held (fun u => u.cell? ⟨w.heap.size, 0, none⟩ = some (.string e.path)) (go_keep) (first | (go_at_call 155; refine (find_n b off cap (m + 1) l e.path _ (by omega) hl hs hsm (by have := (s2.drewN 1).lt; omega) (hc.below (s2.drewN 1).bel hb)).mono ?_; rintro r u2 ⟨rfl, hb2'⟩; rw [HFD.out]; have s2' := (s2.drewN 1).below hb2'; have e1 := s2'.cell 0; simp [EntD.cells] at e1))
          all_goals (have k0 := s2'.cell 0; have k1 := s2'.cell 1; have k2 := s2'.cell 2; have k3 := s2'.cell 3; have k4 := s2'.cell 4; simp [EntD.cells] at k0 k1 k2 k3 k4)
          all_goals go_wp2
          all_goals go_region_held (fun u => u.cell? ⟨w.heap.size, 0, none⟩ = some (.string e.path) ∧ u.cell? ⟨w.heap.size, 1, none⟩ = some (.bool e.dir) ∧ u.cell? ⟨w.heap.size, 2, none⟩ = some (.int .i64 e.id) ∧ u.cell? ⟨w.heap.size, 3, none⟩ = some (.int .i64 e.size) ∧ u.cell? ⟨w.heap.size, 4, none⟩ = some (.int .i64 e.mode)) (go_keep) (first | (go_at_call 91; refine (hasOther_n b off cap (m + 1) l e _ (by omega) hl (by have := s2'.drew.lt; omega) (hc.below s2'.drew.bel hb)).mono ?_; rintro r w' ⟨rfl, hb3⟩; rw [h3]; have s4 := s2'.drew.below hb3; have m0 := s4.cell 0; have m1 := s4.cell 1; have m2 := s4.cell 2; have m3 := s4.cell 3; have m4 := s4.cell 4; simp [EntD.cells] at m0 m1 m2 m3 m4))
          all_goals go_wp2
          all_goals go_ret
          all_goals exact ⟨by rw [hv]; rfl, s4.bel⟩
      · have HFD := hidD hf
        have hv : entErr l (m + 1) e true = 8 := by rw [entErr, h1, if_neg (by simp), hpv, if_neg (by omega), h2, if_neg (by simp), hf, if_pos ⟨rfl, by omega⟩]
        clear hf
        go_enter Tryz.func137, Tryz.ntmps137
        go_wp2_with (go_at_call 176; refine (fieldsFit_any e _).mono ?_; rintro r w1 ⟨rfl, hb1⟩; rw [h1]; have s1 := st.below hb1; have k0 := s1.cell 0; simp [EntD.cells] at k0; have p0 := (hc.below s1.bel hb) m (by omega) 0 _ rfl; simp only [Nat.add_zero] at p0; rw [hy] at p0)
        go_quiet (first | (go_at_call 177; exact Calls.quiet_of (compare_any _ _ _ (by omega) (by omega))))
        have s1' := s1.drewN nq
        clear k0 p0
        generalize w1.drewN nq = u1 at *
        have k0 := s1'.cell 0
        simp [EntD.cells] at k0
        go_wp2_with (go_at_call 178; refine (hasParent_any b off cap l _ _ hl hs hsm (by have := s1'.lt; omega) (hc.below s1'.bel hb)).mono ?_; rintro r w2 ⟨rfl, hb2⟩; rw [h2]; have s2 := s1'.below hb2)
        have e0 := s2.cell 0
        simp [EntD.cells] at e0
        go_region_held (fun u => u.cell? ⟨w.heap.size, 0, none⟩ = some (.string e.path)) (go_keep) (first | (go_at_call 155; refine (find_n b off cap (m + 1) l e.path _ (by omega) hl hs hsm (by have := (s2.drewN 1).lt; omega) (hc.below (s2.drewN 1).bel hb)).mono ?_; rintro r u2 ⟨rfl, hb2'⟩; rw [HFD.out]; have s2' := (s2.drewN 1).below hb2'; have e1 := s2'.cell 0; simp [EntD.cells] at e1))
        all_goals (have k0 := s2'.cell 0; have k1 := s2'.cell 1; have k2 := s2'.cell 2; have k3 := s2'.cell 3; have k4 := s2'.cell 4; simp [EntD.cells] at k0 k1 k2 k3 k4)
        all_goals go_wp2
        all_goals go_ret
        all_goals exact ⟨by rw [hv]; rfl, s2'.bel⟩
    · simp only [Bool.not_eq_true] at h2
      have hv : entErr l (m + 1) e true = 2 := by rw [entErr, h1, if_neg (by simp), hpv, if_neg (by omega), if_pos h2]
      go_enter Tryz.func137, Tryz.ntmps137
      go_wp2_with (go_at_call 176; refine (fieldsFit_any e _).mono ?_; rintro r w1 ⟨rfl, hb1⟩; rw [h1]; have s1 := st.below hb1; have k0 := s1.cell 0; simp [EntD.cells] at k0; have p0 := (hc.below s1.bel hb) m (by omega) 0 _ rfl; simp only [Nat.add_zero] at p0; rw [hy] at p0)
      go_quiet (first | (go_at_call 177; exact Calls.quiet_of (compare_any _ _ _ (by omega) (by omega))))
      have s1' := s1.drewN nq
      clear k0 p0
      generalize w1.drewN nq = u1 at *
      have k0 := s1'.cell 0
      simp [EntD.cells] at k0
      go_wp2_with (go_at_call 178; refine (hasParent_any b off cap l _ _ hl hs hsm (by have := s1'.lt; omega) (hc.below s1'.bel hb)).mono ?_; rintro r w2 ⟨rfl, hb2⟩; rw [h2]; have s2 := s1'.below hb2)
      go_ret
      exact ⟨by rw [hv]; rfl, s2.bel⟩

theorem entErrT_any (b off cap : Nat) (l : List EntD) (i : Nat) (e : EntD) (w : World) (hi : i < l.length) (hx : l[i] = e) (hl : l.length ≤ 2000000) (hcap : l.length ≤ cap) (hs : ∀ o ∈ l, o.small) (hb : b < w.heap.size) (hc : EntsAt w b off l) :
    Calls Tryz.prog 137 #[.slice (some ⟨b, off, none⟩) l.length cap, .int .i64 i, .bool true] w fun r w' => r = .returned (.int .i64 (entErr l i e true)) ∧ Below w.heap.size w w' := by
  by_cases h1 : fieldsB e = true
  · cases i with
    | zero => exact entErrT_0 b off cap l e w hi hx hl hcap hs hb hc h1
    | succ m => exact entErrT_pos b off cap m l _ e w hi rfl hx hl hcap hs hb hc h1
  · exact entryError_bad b off cap l i e true w hi hx hl hb hc (by simpa using h1)

def chkAtT (l : List EntD) (i : Nat) (e : EntD) : Int := if pathL e.path.data.toList = false then 1 else entErr l i e true
def chkGoT (l : List EntD) : List EntD → Nat → Int × Int
  | [], _ => (0, 0)
  | e :: t, i => if chkAtT l i e = 0 then chkGoT l t (i + 1) else (chkAtT l i e, i)
def chkPT (l : List EntD) : Int × Int := if 60 < l.length then (5, 0) else chkGoT l l 0
theorem chkGoT_at (l : List EntD) (k : Nat) (h : k < l.length) : chkGoT l (l.drop k) k = if chkAtT l k l[k] = 0 then chkGoT l (l.drop (k + 1)) (k + 1) else (chkAtT l k l[k], (k : Int)) := by
  rw [List.drop_eq_getElem_cons h, chkGoT]

set_option maxHeartbeats 2000000 in
theorem checkT_any (b off cap : Nat) (l : List EntD) (w : World) (hl : l.length ≤ 2000000) (hcap : l.length ≤ cap) (hs : ∀ o ∈ l, o.small) (hb : b < w.heap.size) (hc : EntsAt w b off l) :
    Calls Tryz.prog 89 #[.slice (some ⟨b, off, none⟩) l.length cap, .bool true, .int .i64 60, .func (.func 90) #[] #[]] w fun e w' => e = .returned (.tuple #[.int .i64 (chkPT l).1, .int .i64 (chkPT l).2]) ∧ Below w.heap.size w w' := by
  by_cases h6 : (60 : Int) < l.length
  · have hv : chkPT l = (5, 0) := by rw [chkPT, if_pos (by omega)]
    rw [hv]
    go_enter Tryz.func89, Tryz.ntmps89
    go_wp2
    go_ret2
    exact ⟨rfl, Below.refl _ _⟩
  · have hv : chkPT l = chkGoT l l 0 := by rw [chkPT, if_neg (by omega)]
    rw [hv]
    go_enter Tryz.func89, Tryz.ntmps89
    go_wp2
    go_loopw [18] (fun i wr => ∃ k : Nat, k ≤ l.length ∧ i = .int .i64 k ∧ chkGoT l l 0 = chkGoT l (l.drop k) k ∧ Below w.heap.size w wr) (fun i _ => l.length - (intOf i).toNat)
    case atStart => exact ⟨0, Nat.zero_le _, rfl, rfl, Below.refl _ _⟩
    case round =>
      obtain ⟨k, hk, rfl, hd, hbw⟩ := hrel
      have HD : Hid (chkGoT l l 0 = chkGoT l (l.drop k) k) := hd
      clear hd
      have hbs := hbw.size
      by_cases hlt : k < l.length
      · have HSN := chkGoT_at l k hlt
        have hcw := (hc.below hbw hb) k hlt
        have hsm := hs _ (List.getElem_mem hlt)
        generalize hx : l[k] = o at *
        have HS : Hid (chkGoT l (l.drop k) k = if chkAtT l k o = 0 then chkGoT l (l.drop (k + 1)) (k + 1) else (chkAtT l k o, (k : Int))) := HSN
        clear HSN
        have c0 := hcw 0 _ rfl
        have c1 := hcw 1 _ rfl
        have c2 := hcw 2 _ rfl
        have c3 := hcw 3 _ rfl
        have c4 := hcw 4 _ rfl
        simp only [Nat.add_zero] at c0
        clear hcw
        by_cases hn : pathL o.path.data.toList = true
        · have hA : chkAtT l k o = entErr l k o true := by rw [chkAtT, hn, if_neg (by simp)]
          by_cases he : entErr l k o true = 0
          · go_wp2_with (first | (go_at_call 90; refine (isNamed_any o _ hsm).mono ?_; rintro e w1 ⟨rfl, hb1⟩; rw [hn]) | (go_at_call 137; refine (entErrT_any b off cap l k o _ hlt hx hl hcap hs (by have := hb1.size; omega) (hc.below (hbw.trans (hb1.mono hbs)) hb)).mono ?_; rintro e w2 ⟨rfl, hb2⟩; rw [he]))
            have hb3 := (hbw.trans (hb1.mono hbs)).trans (hb2.mono (by have := hb1.size; omega))
            exact ⟨⟨k + 1, by omega, by go_num, by rw [HD.out, HS.out, hA, if_pos he], hb3⟩, by simp [intOf]; omega⟩
          · have he' : (entErr l k o true != 0) = true := by simpa using he
            go_wp2_with (first | (go_at_call 90; refine (isNamed_any o _ hsm).mono ?_; rintro e w1 ⟨rfl, hb1⟩; rw [hn]) | (go_at_call 137; refine (entErrT_any b off cap l k o _ hlt hx hl hcap hs (by have := hb1.size; omega) (hc.below (hbw.trans (hb1.mono hbs)) hb)).mono ?_; rintro e w2 ⟨rfl, hb2⟩))
            go_ret2
            have hb3 := (hbw.trans (hb1.mono hbs)).trans (hb2.mono (by have := hb1.size; omega))
            refine ⟨?_, hb3⟩
            rw [HD.out, HS.out, hA, if_neg he]; rfl
        · simp only [Bool.not_eq_true] at hn
          have hA : chkAtT l k o = 1 := by rw [chkAtT, if_pos hn]
          go_wp2_with (go_at_call 90; refine (isNamed_any o _ hsm).mono ?_; rintro e w1 ⟨rfl, hb1⟩; rw [hn])
          go_ret2
          refine ⟨?_, hbw.trans (hb1.mono hbs)⟩
          rw [HD.out, HS.out, hA, if_neg (by omega)]; rfl
      · go_wp2
        go_ret2
        refine ⟨?_, hbw⟩
        rw [HD.out, List.drop_of_length_le (by omega), chkGoT]; rfl

set_option maxHeartbeats 1000000 in
theorem checkT_nil (w : World) :
    Calls Tryz.prog 89 #[.slice none 0 0, .bool true, .int .i64 60, .func (.func 90) #[] #[]] w fun e w' => e = .returned (.tuple #[.int .i64 0, .int .i64 0]) ∧ w' = w := by
  go_enter Tryz.func89, Tryz.ntmps89
  go_wp2
  refine wp_loop_rounds 1 ?_
  rw [rounds_succ]
  go_wp2
  go_ret2
  exact ⟨rfl, rfl⟩

set_option maxHeartbeats 1000000 in
theorem treesCheckT_any (b off cap : Nat) (l : List EntD) (w : World) (hl : l.length ≤ 2000000) (hcap : l.length ≤ cap) (hs : ∀ o ∈ l, o.small) (hb : b < w.heap.size) (hc : EntsAt w b off l) :
    Calls Tryz.prog 56 #[.slice (some ⟨b, off, none⟩) l.length cap, .bool true] w fun e w' => e = .returned (.tuple #[.int .i64 (chkPT l).1, .int .i64 (chkPT l).2]) ∧ Below w.heap.size w w' := by
  go_enter Tryz.func56, Tryz.ntmps56
  go_wp2_with (go_at_call 89; refine (checkT_any b off cap l _ hl hcap hs hb hc).mono ?_; rintro e w1 ⟨rfl, hb1⟩)
  go_ret2
  exact ⟨rfl, hb1⟩
set_option maxHeartbeats 1000000 in
theorem treesCheckT_nil (w : World) :
    Calls Tryz.prog 56 #[.slice none 0 0, .bool true] w fun e w' => e = .returned (.tuple #[.int .i64 0, .int .i64 0]) ∧ w' = w := by
  go_enter Tryz.func56, Tryz.ntmps56
  go_wp2_with (go_at_call 89; refine (checkT_nil _).mono ?_; rintro e w1 ⟨rfl, rfl⟩)
  go_ret2
  exact ⟨rfl, rfl⟩

def treeBT (l : List EntD) : Bool := (chkPT l).1 == 0
end Go.Proofs.YtpjjagalekolaaaGreatDoor

