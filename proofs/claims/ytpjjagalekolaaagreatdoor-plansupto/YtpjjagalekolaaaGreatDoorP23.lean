/- XE, XF0, XF: in one text. -/
import Derived.Test.YtpjjagalekolaaaGreatDoorP22
import Derived.Deep.AppendLies
/- The document's volume: rename. What it leans on. -/
namespace Go.Proofs.YtpjjagalekolaaaGreatDoor
open Go.RowKit
set_option linter.unusedVariables false
set_option linter.unusedSimpArgs false

def stL (e : BL) (A : List EntD) : List EntD := A.filter fun x => !mvB e x.pl
def mvX (e p : BL) (x : EntD) : EntD := x.withP (p ++ x.pl.drop e.length)
def mvL (e p : BL) (A : List EntD) : List EntD := (A.filter fun x => mvB e x.pl).map (mvX e p)
theorem resR_eq (L : List EntD) (e p : BL) : resR L e p = insAll (stL e L) (mvL e p L) := rfl
theorem stL_snoc (e : BL) (A : List EntD) (x : EntD) : stL e (A ++ [x]) = if mvB e x.pl then stL e A else stL e A ++ [x] := by
  unfold stL
  rw [List.filter_append]
  cases h : mvB e x.pl <;> simp [h]
theorem mvL_snoc (e p : BL) (A : List EntD) (x : EntD) : mvL e p (A ++ [x]) = if mvB e x.pl then mvL e p A ++ [mvX e p x] else mvL e p A := by
  unfold mvL
  rw [List.filter_append]
  cases h : mvB e x.pl <;> simp [h]
theorem stL_len (e : BL) (A : List EntD) : (stL e A).length ≤ A.length := List.length_filter_le _ _
theorem mvL_len (e p : BL) (A : List EntD) : (mvL e p A).length ≤ A.length := by
  unfold mvL
  rw [List.length_map]
  exact List.length_filter_le _ _
theorem mvX_str (e : EntD) (pt : ByteArray) (x : EntD) : mvX e.pl pt.data.toList x = { x with path := pt ++ x.path.extract e.path.size x.path.size } := by
  unfold mvX EntD.withP
  congr 1
  apply ByteArray.ext
  apply Array.toList_inj.1
  simp only [EntD.pl, Lib.extract_data, ByteArray.data_append, Array.toList_append]
  congr 1
  simp
  rw [List.take_of_length_le]
  simp
theorem insAll_snoc (S M : List EntD) (x : EntD) : insAll S (M ++ [x]) = insL x (insAll S M) := by simp [insAll, List.foldl_append]
theorem insAll_len (S M : List EntD) : (insAll S M).length = M.length + S.length := by rw [(insAll_perm M S).length_eq]; simp

/-- What lies in memory as the entries are parted into those that stay and those that move. -/
structure RenSt (w : World) (e : EntD) (u : World) (v1 v2 : Value) (S M : List EntD) : Prop where
  eb : Eb w e u
  o1 : u.ownsRow (w.heap.size + 1) 56 5 v1 S.length (flatE S)
  o2 : u.ownsRow (w.heap.size + 1) 56 5 v2 M.length (flatE M)
  ne : v1.ownBlock = none ∨ v1.ownBlock ≠ v2.ownBlock
theorem RenSt.below {w u u' : World} {e : EntD} {v1 v2 : Value} {S M : List EntD} (h : RenSt w e u v1 v2 S M) (hb : Below u.heap.size u u') : RenSt w e u' v1 v2 S M :=
  ⟨h.eb.below hb, own_below hb h.o1, own_below hb h.o2, h.ne⟩
theorem RenSt.app1 {w u u' : World} {e : EntD} {v1 v2 : Value} {S M : List EntD} (h : RenSt w e u v1 v2 S M) (x : EntD) {g cap : Nat} (ho : u'.ownsRow (w.heap.size + 1) 56 5 (.slice (some ⟨g, 0, none⟩) (S.length + 1) cap) (S.length + 1) (flatE S ++ flatE [x])) (hg : u.grownBy u' v1.ownBlock) (hl : v1.ownBlock = some g ∨ g = u.heap.size) : RenSt w e u' (.slice (some ⟨g, 0, none⟩) (S.length + 1) cap) v2 (S ++ [x]) M where
  eb := own_eb h.eb h.o1 hg
  o1 := by rw [flatE_app, List.length_append]; exact ho
  o2 := h.o2.kept hg (by
    rcases h.ne with h1 | h1
    · rw [h1]; cases v2.ownBlock <;> simp
    · exact .inr (Ne.symm h1))
  ne := .inr (by
    intro e1
    have e2 : v2.ownBlock = some g := e1.symm
    rcases hl with h1 | h1
    · rcases h.ne with h2 | h2
      · rw [h2] at h1; cases h1
      · exact h2 (h1.trans e2.symm)
    · have := (h.o2.lt g e2).2
      omega)
theorem RenSt.app2 {w u u' : World} {e : EntD} {v1 v2 : Value} {S M : List EntD} (h : RenSt w e u v1 v2 S M) (x : EntD) {g cap : Nat} (ho : u'.ownsRow (w.heap.size + 1) 56 5 (.slice (some ⟨g, 0, none⟩) (M.length + 1) cap) (M.length + 1) (flatE M ++ flatE [x])) (hg : u.grownBy u' v2.ownBlock) (hl : v2.ownBlock = some g ∨ g = u.heap.size) : RenSt w e u' v1 (.slice (some ⟨g, 0, none⟩) (M.length + 1) cap) S (M ++ [x]) where
  eb := own_eb h.eb h.o2 hg
  o1 := h.o1.kept hg h.ne
  o2 := by rw [flatE_app, List.length_append]; exact ho
  ne := by
    cases hb : v1.ownBlock with
    | none => exact .inl rfl
    | some g1 =>
      refine .inr (fun e1 => ?_)
      have e2 : g1 = g := Option.some.inj e1
      rw [← e2] at hl
      rcases hl with h1 | h1
      · rcases h.ne with h2 | h2
        · rw [hb] at h2; cases h2
        · exact h2 (hb.trans h1.symm)
      · have := (h.o1.lt g1 hb).2
        omega
theorem RenSt.start {w u : World} {e : EntD} (h : Eb w e u) : RenSt w e u (.slice none 0 0) (.slice none 0 0) [] [] := ⟨h, World.ownsRow_nil _ _ _ _, World.ownsRow_nil _ _ _ _, .inl rfl⟩

/-- The second half: the moved ones in their places, one after the other. -/
theorem mem_small_st {e : BL} {A : List EntD} (h : ∀ o ∈ A, o.small) : ∀ o ∈ stL e A, o.small := fun o ho => h o (List.mem_filter.1 ho).1
theorem mem_small_mv {e p : BL} {A : List EntD} (h : ∀ o ∈ A, o.pl.length ≤ 60) (hp : p.length ≤ 60) : ∀ o ∈ mvL e p A, o.small := by
  intro o ho
  unfold mvL at ho
  obtain ⟨x, hx, rfl⟩ := List.mem_map.1 ho
  have := h x (List.mem_filter.1 hx).1
  show (mvX e p x).path.size ≤ 1500000
  have e1 : (mvX e p x).path.size = (mvX e p x).pl.length := by simp [EntD.pl]
  rw [e1]
  unfold mvX
  rw [pl_withP]
  simp
  omega
theorem mem_small_ins {S M : List EntD} (hS : ∀ o ∈ S, o.small) (hM : ∀ o ∈ M, o.small) (j : Nat) : ∀ o ∈ insAll S (M.take j), o.small := by
  intro o ho
  rcases List.mem_append.1 ((insAll_perm _ _).mem_iff.1 ho) with h | h
  · exact hM o (List.mem_of_mem_take h)
  · exact hS o h
end Go.Proofs.YtpjjagalekolaaaGreatDoor

/- The document's volume: rename, where it goes. -/
namespace Go.Proofs.YtpjjagalekolaaaGreatDoor
open Go.RowKit
set_option linter.unusedVariables false
set_option linter.unusedSimpArgs false

theorem bad_snoc (e : EntD) (p : BL) (L : List EntD) (k : Nat) (h : k < L.length) : (L.take (k + 1)).any (badX e p) = ((L.take k).any (badX e p) || badX e p L[k]) := any_snocE _ L k h

theorem own_val {w : World} {B : Nat} {v : Value} {n : Nat} {xs : List Value} (h : w.ownsRow B 56 5 v n xs) : ∃ a c, v = .slice a n c := by
  rcases h.2 with ⟨rfl, rfl⟩ | ⟨g, cap, cur, rfl, _⟩
  · exact ⟨_, _, rfl⟩
  · exact ⟨_, _, rfl⟩

set_option maxHeartbeats 16000000 in
set_option maxRecDepth 100000 in
theorem refRename_go {w : World} {vb b off cap : Nat} {L : List EntD} {fold : Bool} {space : Int} (hv : VolAt w vb (.slice (some ⟨b, off, none⟩) L.length cap) fold space) (hk : Vk 74 w vb (.slice (some ⟨b, off, none⟩) L.length cap) fold space []) (hll : L.length ≤ 120) (hlb : b < w.heap.size) (hc : EntsAt w b off L) (i : Nat) (hlt : i < L.length) (e : EntD) (he : L[i] = e) (t : ByteArray) (hts : t.size ≤ 60) (pt : ByteArray) (hpt : pt.size ≤ 60) (hlen : ∀ o ∈ L, o.path.size ≤ 60)
    (hsi : ∀ (j : Nat) (hj : j < L.length), mvB e.pl L[j].pl = (belowL false L[j].path.data.toList e.path.data.toList || decide (j = i))) (J : Int) (hJ : J = -1 ∨ (J = i ∧ ((i : Int) != (i : Int)) = false)) (hbl : belowL fold t.data.toList e.path.data.toList = false)
    (hf2 : ∀ u : World, Below w.heap.size w u → Calls Tryz.prog 63 #[.pointer (some ⟨vb, 0, none⟩), .string t] u fun r w' => r = .returned (.int .i64 J) ∧ Below u.heap.size u w')
    (hp : ∀ u : World, Below w.heap.size w u → Calls Tryz.prog 109 #[.pointer (some ⟨vb, 0, none⟩), .string t] u fun r w' => r = .returned (.tuple #[.string pt, .int .i64 0]) ∧ Below u.heap.size u w') (X : Except Int (List EntD)) (hX : (if L.any (badX e pt.data.toList) = true then .error 1 else .ok (resR L e.pl pt.data.toList)) = X) :
    Calls Tryz.prog 66 #[.pointer (some ⟨vb, 0, none⟩), .int .i64 i, .string t] w fun r w' => DoA 74 w vb fold space [] X r w' := by
  obtain ⟨i0, hi, hz0, hz1, hz2⟩ := info_parts info56
  have HV := hidD hv
  have HK := hidD hk
  have hvlt := hv.lt
  have HX := hidD hX
  have HF2 := hidD hf2
  have HP := hidD hp
  have HBL := hidD hbl
  have HSI := hidD hsi
  have HLen := hidD hlen
  have HC := hidD hc
  have hcw := hc i hlt
  have hes : e.path.size ≤ 60 := he ▸ hlen _ (List.getElem_mem hlt)
  rw [he] at hcw
  have d0 : w.cell? ⟨b, off + i * 5, none⟩ = some (.string e.path) := hcw 0 _ rfl
  have d1 := hcw 1 _ rfl
  have d2 := hcw 2 _ rfl
  have d3 := hcw 3 _ rfl
  have d4 := hcw 4 _ rfl
  have c0 := hv.c0
  have c1 := hv.c1
  have ST := hidD (Eb.start w e)
  clear hcw hX hf2 hp hbl hsi hlen hc hv hk
  rcases hJ with rfl | ⟨rfl, hii⟩
  all_goals go_enter Tryz.func66, Tryz.ntmps66
  all_goals go_wp2
  all_goals go_region_held (fun u => u.cell? ⟨w.heap.size, 0, none⟩ = some (.string e.path) ∧ u.cell? ⟨vb, 1, none⟩ = some (.bool fold)) (go_keep) (first | (go_at_call 112; refine (refBelow_bel t e.path fold _ (by omega) (by omega)).mono ?_; rintro r w2 ⟨rfl, hb2⟩; rw [HBL.out]; have s2 := (ST.out.drewN 1).below hb2; have g0 := s2.cell 0; simp [EntD.cells] at g0; have f1 := (HV.out.below s2.bel hvlt).c1))
  all_goals go_wp2_with (first | (go_at_call 63; refine (HF2.out _ s2.bel).mono ?_; rintro r w3 ⟨rfl, hb3⟩; have s3 := s2.below hb3) | (go_at_call 109; refine (HP.out _ s3.bel).mono ?_; rintro r w4 ⟨rfl, hb4⟩; have s4 := s3.below hb4))
  all_goals have S4 := hidD s4
  all_goals clear s2 s3 s4 hb2 hb3 hb4 HF2 HP HBL ST d0 d1 d2 d3 d4 c0 c1 g0 f1
  all_goals go_loopw [12, 13, 14, 15] (fun sv mv bd jv wr => ∃ k : Nat, k ≤ L.length ∧ jv = .int .i64 k ∧ bd = .bool ((L.take k).any (badX e pt.data.toList)) ∧ Hid (RenSt w e wr sv mv (stL e.pl (L.take k)) (mvL e.pl pt.data.toList (L.take k)))) (fun _ _ _ jv _ => L.length - (intOf jv).toNat)
  case atStart => exact ⟨0, Nat.zero_le _, rfl, rfl, hidD (RenSt.start S4.out)⟩
  case atStart => exact ⟨0, Nat.zero_le _, rfl, rfl, hidD (RenSt.start S4.out)⟩
  all_goals
    obtain ⟨k, hk, rfl, rfl, HR⟩ := hrel
    have cc0 := (HV.out.below HR.out.eb.bel hvlt).c0
    have l1 := stL_len e.pl (L.take k)
    have l2 := mvL_len e.pl pt.data.toList (L.take k)
    have l3 : (L.take k).length ≤ 120 := by simp; omega
    by_cases hlk : k < L.length
    · have hcw := (HC.out.below HR.out.eb.bel hlb) k hlk
      have y0 : wr.cell? ⟨b, off + k * 5, none⟩ = some (.string L[k].path) := hcw 0 _ rfl
      have y1 := hcw 1 _ rfl
      have y2 := hcw 2 _ rfl
      have y3 := hcw 3 _ rfl
      have y4 := hcw 4 _ rfl
      have hxs : L[k].path.size ≤ 60 := HLen.out _ (List.getElem_mem hlk)
      have HT := hidD (List.take_succ_eq_append_getElem hlk)
      have HBS := hidD (bad_snoc e pt.data.toList L k hlk)
      have hms := HSI.out k hlk
      have HM := hidD hms
      generalize L[k] = x at *
      clear hcw
      have SX := hidD (Eb.start wr x)
      have z0 := HR.out.eb.cell 0
      have z1 := HR.out.eb.cell 1
      simp [EntD.cells] at z0 z1
      have hwlt := HR.out.eb.lt
      obtain ⟨a1, n1, q1, hv1⟩ := own_shape HR.out.o1
      obtain ⟨a2, n2, q2, hv2⟩ := own_shape HR.out.o2
      subst hv1 hv2
      cases hbw : belowL false x.path.data.toList e.path.data.toList
      · by_cases hki : k = i
        · have hne : ((k : Int) != (i : Int)) = false := by simp [hki]
          have hmt : mvB e.pl x.pl = true := by rw [hms, hbw]; simp [hki]
          clear hki
          have hsz2 := mv_size e.path x hmt
          have hle : (e.path.size : Int) ≤ (x.path.size : Int) := by omega
          have HS1 : Hid (stL e.pl (L.take (k + 1)) = stL e.pl (L.take k)) := by show stL e.pl (L.take (k + 1)) = _; rw [HT.out, stL_snoc, hmt]; rfl
          have HM1 : Hid (mvL e.pl pt.data.toList (L.take (k + 1)) = mvL e.pl pt.data.toList (L.take k) ++ [mvX e.pl pt.data.toList x]) := by show mvL e.pl pt.data.toList (L.take (k + 1)) = _; rw [HT.out, mvL_snoc, hmt]; rfl
          have HMX := hidD (mvX_str e pt x)
          have HCN : cnt (pt.data.toList ++ x.pl.drop e.pl.length) = (spl (pt ++ x.path.extract e.path.size x.path.size).data.toList).length := by
            have h9 := congrArg EntD.pl HMX.out
            unfold mvX at h9
            rw [pl_withP] at h9
            rw [h9]; rfl
          have hnp : (pt ++ x.path.extract e.path.size x.path.size).size ≤ 200 := by simp [ByteArray.size_append]; omega
          obtain ⟨n, HN⟩ : ∃ n, Hid ((spl (pt ++ x.path.extract e.path.size x.path.size).data.toList).length = n) := ⟨_, rfl⟩
          rw [HN.out] at HCN
          have HB1 : Hid ((L.take (k + 1)).any (badX e pt.data.toList) = ((L.take k).any (badX e pt.data.toList) || (decide (6 < n) || (e.dir && spareL pt.data.toList)))) := by
            show (L.take (k + 1)).any (badX e pt.data.toList) = _
            rw [HBS.out, badX, hmt, HCN]; rfl
          clear HT HBS hms HM hmt HCN
          generalize stL e.pl (L.take k) = S at *
          generalize mvL e.pl pt.data.toList (L.take k) = M at *
          generalize (L.take k).any (badX e pt.data.toList) = B at *
          cases B
          · by_cases hcn : 6 < n
            · have hd6 : decide (6 < n) = true := by simpa using hcn
              have hd6i : decide ((6 : Int) < (n : Int)) = true := by simp; omega
              rw [hd6] at HB1
              go_wp2_with (first | (go_at_call 112; refine (refBelow_bel x.path e.path false _ (by omega) (by omega)).mono ?_; rintro r u1 ⟨rfl, hb1⟩; rw [hbw]; have s1 := SX.out.below hb1; have st1 := HR.out.below s1.bel; have t0 := s1.cell 0; simp [EntD.cells] at t0; have hsz := s1.lt; have fx := eb_frozen s1 0; have zz0 := st1.eb.cell 0; simp [EntD.cells] at zz0) | (go_at_call 113; refine (refSpare_any pt _ (by omega)).mono ?_; rintro r u3 ⟨rfl, hu3⟩; have s3 := eb_set s1 (pt ++ x.path.extract e.path.size x.path.size); rw [← hu3] at s3; clear hu3; have st3 := HR.out.below s3.bel; have o0 := s3.cell 0; have o1 := s3.cell 1; have o2 := s3.cell 2; have o3 := s3.cell 3; have o4 := s3.cell 4; simp [EntD.cells] at o0 o1 o2 o3 o4; have hsz3 := s3.lt; have zz1 := st3.eb.cell 1; simp [EntD.cells] at zz1) | (go_at_call 114; refine (names_row2 (pt ++ x.path.extract e.path.size x.path.size) _ (by omega)).mono ?_; rintro r u5 ⟨g5, cap5, out5, rfl, hcp5, hrow5, hmap5, hb5⟩; have hol := congrArg List.length hmap5; rw [List.length_map, HN.out] at hol; have s5 := s3.below hb5; have st5 := HR.out.below s5.bel; have q0 := s5.cell 0; have q1 := s5.cell 1; have q2 := s5.cell 2; have q3 := s5.cell 3; have q4 := s5.cell 4; simp [EntD.cells] at q0 q1 q2 q3 q4; have hsz5 := s5.lt; have zz5 := st5.eb.cell 1; simp [EntD.cells] at zz5; clear hrow5 hmap5) | (at_builtin; refine wpList_append_lies _ rfl (.tmp 113) (.tmp 115) 22 rfl (w.heap.size + 1) 56 i0 _ 5 48 Tryz.underlying22 hi hz0 hz1 hz2 rfl (by decide) _ _ _ rfl (st5.o2.alloc _) ⟨_, 0, none⟩ 1 1 (flatE [{ x with path := (pt ++ x.path.extract e.path.size x.path.size) }]) rfl rfl (eb_new u5 { x with path := (pt ++ x.path.extract e.path.size x.path.size) }) (flatE_one _) (by decide) (by unfold maxLen; omega) (by omega) (by simp only [World.size_alloc]; omega) _ rfl ?_; intro g7 cap7 w7 ho7 hg7 hl7 hlt7))
              exact ⟨⟨k + 1, by omega, by go_num, by rw [HB1.out]; first | rfl | (simp only [hd6i]; rfl) | (rw [hd6i]; simp), hidD (by rw [HS1.out, HM1.out, HMX.out]; exact (st5.below ((Below.refl _ _).alloc (Nat.le_refl _) _)).app2 _ ho7 hg7 hl7)⟩, by simp [intOf]; omega⟩
            · have hd6 : decide (6 < n) = false := by simpa using hcn
              have hd6i : decide ((6 : Int) < (n : Int)) = false := by simp; omega
              rw [hd6] at HB1
              cases hed : e.dir
              all_goals rw [hed] at HB1
              all_goals go_wp2_with (first | (go_at_call 112; refine (refBelow_bel x.path e.path false _ (by omega) (by omega)).mono ?_; rintro r u1 ⟨rfl, hb1⟩; rw [hbw]; have s1 := SX.out.below hb1; have st1 := HR.out.below s1.bel; have t0 := s1.cell 0; simp [EntD.cells] at t0; have hsz := s1.lt; have fx := eb_frozen s1 0; have zz0 := st1.eb.cell 0; simp [EntD.cells] at zz0) | (go_at_call 113; refine (refSpare_any pt _ (by omega)).mono ?_; rintro r u3 ⟨rfl, hu3⟩; have s3 := eb_set s1 (pt ++ x.path.extract e.path.size x.path.size); rw [← hu3] at s3; clear hu3; have st3 := HR.out.below s3.bel; have o0 := s3.cell 0; have o1 := s3.cell 1; have o2 := s3.cell 2; have o3 := s3.cell 3; have o4 := s3.cell 4; simp [EntD.cells] at o0 o1 o2 o3 o4; have hsz3 := s3.lt; have zz1 := st3.eb.cell 1; simp [EntD.cells] at zz1) | (go_at_call 114; refine (names_row2 (pt ++ x.path.extract e.path.size x.path.size) _ (by omega)).mono ?_; rintro r u5 ⟨g5, cap5, out5, rfl, hcp5, hrow5, hmap5, hb5⟩; have hol := congrArg List.length hmap5; rw [List.length_map, HN.out] at hol; have s5 := s3.below hb5; have st5 := HR.out.below s5.bel; have q0 := s5.cell 0; have q1 := s5.cell 1; have q2 := s5.cell 2; have q3 := s5.cell 3; have q4 := s5.cell 4; simp [EntD.cells] at q0 q1 q2 q3 q4; have hsz5 := s5.lt; have zz5 := st5.eb.cell 1; simp [EntD.cells] at zz5; clear hrow5 hmap5) | (at_builtin; refine wpList_append_lies _ rfl (.tmp 113) (.tmp 115) 22 rfl (w.heap.size + 1) 56 i0 _ 5 48 Tryz.underlying22 hi hz0 hz1 hz2 rfl (by decide) _ _ _ rfl (st5.o2.alloc _) ⟨_, 0, none⟩ 1 1 (flatE [{ x with path := (pt ++ x.path.extract e.path.size x.path.size) }]) rfl rfl (eb_new u5 { x with path := (pt ++ x.path.extract e.path.size x.path.size) }) (flatE_one _) (by decide) (by unfold maxLen; omega) (by omega) (by simp only [World.size_alloc]; omega) _ rfl ?_; intro g7 cap7 w7 ho7 hg7 hl7 hlt7))
              all_goals exact ⟨⟨k + 1, by omega, by go_num, by rw [HB1.out]; first | rfl | (simp only [hd6i]; rfl) | (rw [hd6i]; simp), hidD (by rw [HS1.out, HM1.out, HMX.out]; exact (st5.below ((Below.refl _ _).alloc (Nat.le_refl _) _)).app2 _ ho7 hg7 hl7)⟩, by simp [intOf]; omega⟩
          · go_wp2_with (first | (go_at_call 112; refine (refBelow_bel x.path e.path false _ (by omega) (by omega)).mono ?_; rintro r u1 ⟨rfl, hb1⟩; rw [hbw]; have s1 := SX.out.below hb1; have st1 := HR.out.below s1.bel; have t0 := s1.cell 0; simp [EntD.cells] at t0; have hsz := s1.lt; have fx := eb_frozen s1 0; have zz0 := st1.eb.cell 0; simp [EntD.cells] at zz0) | (go_at_call 113; refine (refSpare_any pt _ (by omega)).mono ?_; rintro r u3 ⟨rfl, hu3⟩; have s3 := eb_set s1 (pt ++ x.path.extract e.path.size x.path.size); rw [← hu3] at s3; clear hu3; have st3 := HR.out.below s3.bel; have o0 := s3.cell 0; have o1 := s3.cell 1; have o2 := s3.cell 2; have o3 := s3.cell 3; have o4 := s3.cell 4; simp [EntD.cells] at o0 o1 o2 o3 o4; have hsz3 := s3.lt; have zz1 := st3.eb.cell 1; simp [EntD.cells] at zz1) | (at_builtin; refine wpList_append_lies _ rfl (.tmp 113) (.tmp 115) 22 rfl (w.heap.size + 1) 56 i0 _ 5 48 Tryz.underlying22 hi hz0 hz1 hz2 rfl (by decide) _ _ _ rfl (st3.o2.alloc _) ⟨_, 0, none⟩ 1 1 (flatE [{ x with path := (pt ++ x.path.extract e.path.size x.path.size) }]) rfl rfl (eb_new u3 { x with path := (pt ++ x.path.extract e.path.size x.path.size) }) (flatE_one _) (by decide) (by unfold maxLen; omega) (by omega) (by simp only [World.size_alloc]; omega) _ rfl ?_; intro g7 cap7 w7 ho7 hg7 hl7 hlt7))
            exact ⟨⟨k + 1, by omega, by go_num, by rw [HB1.out]; first | rfl | (simp only [hd6i]; rfl) | (rw [hd6i]; simp), hidD (by rw [HS1.out, HM1.out, HMX.out]; exact (st3.below ((Below.refl _ _).alloc (Nat.le_refl _) _)).app2 _ ho7 hg7 hl7)⟩, by simp [intOf]; omega⟩
        · have hne : ((k : Int) != (i : Int)) = true := by simp; omega
          have hmf : mvB e.pl x.pl = false := by rw [hms, hbw]; simp [hki]
          have HS1 : Hid (stL e.pl (L.take (k + 1)) = stL e.pl (L.take k) ++ [x]) := by show stL e.pl (L.take (k + 1)) = _; rw [HT.out, stL_snoc, hmf]; rfl
          have HM1 : Hid (mvL e.pl pt.data.toList (L.take (k + 1)) = mvL e.pl pt.data.toList (L.take k)) := by show mvL e.pl pt.data.toList (L.take (k + 1)) = _; rw [HT.out, mvL_snoc, hmf]; rfl
          have HB1 : Hid ((L.take (k + 1)).any (badX e pt.data.toList) = (L.take k).any (badX e pt.data.toList)) := by show (L.take (k + 1)).any (badX e pt.data.toList) = _; rw [HBS.out, badX, hmf]; simp
          clear HT HBS hms HM hmf
          generalize stL e.pl (L.take k) = S at *
          generalize mvL e.pl pt.data.toList (L.take k) = M at *
          generalize (L.take k).any (badX e pt.data.toList) = B at *
          go_wp2_with (first | (go_at_call 112; refine (refBelow_bel x.path e.path false _ (by omega) (by omega)).mono ?_; rintro r u1 ⟨rfl, hb1⟩; rw [hbw]; have s1 := SX.out.below hb1; have st1 := HR.out.below s1.bel; have t0 := s1.cell 0; have t1 := s1.cell 1; have t2 := s1.cell 2; have t3 := s1.cell 3; have t4 := s1.cell 4; simp [EntD.cells] at t0 t1 t2 t3 t4; have hsz := s1.lt) | (at_builtin; refine wpList_append_lies _ rfl (.tmp 83) (.tmp 85) 22 rfl (w.heap.size + 1) 56 i0 _ 5 48 Tryz.underlying22 hi hz0 hz1 hz2 rfl (by decide) _ _ _ rfl (st1.o1.alloc _) ⟨_, 0, none⟩ 1 1 (flatE [x]) rfl rfl (eb_new u1 x) (flatE_one _) (by decide) (by unfold maxLen; omega) (by omega) (by simp only [World.size_alloc]; omega) _ rfl ?_; intro g cap7 w7 ho7 hg7 hl7 hlt7))
          exact ⟨⟨k + 1, by omega, by go_num, by rw [HB1.out], hidD (by rw [HS1.out, HM1.out]; exact (st1.below ((Below.refl _ _).alloc (Nat.le_refl _) _)).app1 x ho7 hg7 hl7)⟩, by simp [intOf]; omega⟩
      · have hmt : mvB e.pl x.pl = true := by rw [hms, hbw]; rfl
        have hsz2 := mv_size e.path x hmt
        have hle : (e.path.size : Int) ≤ (x.path.size : Int) := by omega
        have HS1 : Hid (stL e.pl (L.take (k + 1)) = stL e.pl (L.take k)) := by show stL e.pl (L.take (k + 1)) = _; rw [HT.out, stL_snoc, hmt]; rfl
        have HM1 : Hid (mvL e.pl pt.data.toList (L.take (k + 1)) = mvL e.pl pt.data.toList (L.take k) ++ [mvX e.pl pt.data.toList x]) := by show mvL e.pl pt.data.toList (L.take (k + 1)) = _; rw [HT.out, mvL_snoc, hmt]; rfl
        have HMX := hidD (mvX_str e pt x)
        have HCN : cnt (pt.data.toList ++ x.pl.drop e.pl.length) = (spl (pt ++ x.path.extract e.path.size x.path.size).data.toList).length := by
          have h9 := congrArg EntD.pl HMX.out
          unfold mvX at h9
          rw [pl_withP] at h9
          rw [h9]; rfl
        have hnp : (pt ++ x.path.extract e.path.size x.path.size).size ≤ 200 := by simp [ByteArray.size_append]; omega
        obtain ⟨n, HN⟩ : ∃ n, Hid ((spl (pt ++ x.path.extract e.path.size x.path.size).data.toList).length = n) := ⟨_, rfl⟩
        rw [HN.out] at HCN
        have HB1 : Hid ((L.take (k + 1)).any (badX e pt.data.toList) = ((L.take k).any (badX e pt.data.toList) || (decide (6 < n) || (e.dir && spareL pt.data.toList)))) := by
          show (L.take (k + 1)).any (badX e pt.data.toList) = _
          rw [HBS.out, badX, hmt, HCN]; rfl
        clear HT HBS hms HM hmt HCN
        generalize stL e.pl (L.take k) = S at *
        generalize mvL e.pl pt.data.toList (L.take k) = M at *
        generalize (L.take k).any (badX e pt.data.toList) = B at *
        cases B
        · by_cases hcn : 6 < n
          · have hd6 : decide (6 < n) = true := by simpa using hcn
            have hd6i : decide ((6 : Int) < (n : Int)) = true := by simp; omega
            rw [hd6] at HB1
            go_wp2_with (first | (go_at_call 112; refine (refBelow_bel x.path e.path false _ (by omega) (by omega)).mono ?_; rintro r u1 ⟨rfl, hb1⟩; rw [hbw]; have s1 := SX.out.below hb1; have st1 := HR.out.below s1.bel; have t0 := s1.cell 0; simp [EntD.cells] at t0; have hsz := s1.lt; have fx := eb_frozen s1 0; have zz0 := st1.eb.cell 0; simp [EntD.cells] at zz0) | (go_at_call 113; refine (refSpare_any pt _ (by omega)).mono ?_; rintro r u3 ⟨rfl, hu3⟩; have s3 := eb_set s1 (pt ++ x.path.extract e.path.size x.path.size); rw [← hu3] at s3; clear hu3; have st3 := HR.out.below s3.bel; have o0 := s3.cell 0; have o1 := s3.cell 1; have o2 := s3.cell 2; have o3 := s3.cell 3; have o4 := s3.cell 4; simp [EntD.cells] at o0 o1 o2 o3 o4; have hsz3 := s3.lt; have zz1 := st3.eb.cell 1; simp [EntD.cells] at zz1) | (go_at_call 114; refine (names_row2 (pt ++ x.path.extract e.path.size x.path.size) _ (by omega)).mono ?_; rintro r u5 ⟨g5, cap5, out5, rfl, hcp5, hrow5, hmap5, hb5⟩; have hol := congrArg List.length hmap5; rw [List.length_map, HN.out] at hol; have s5 := s3.below hb5; have st5 := HR.out.below s5.bel; have q0 := s5.cell 0; have q1 := s5.cell 1; have q2 := s5.cell 2; have q3 := s5.cell 3; have q4 := s5.cell 4; simp [EntD.cells] at q0 q1 q2 q3 q4; have hsz5 := s5.lt; have zz5 := st5.eb.cell 1; simp [EntD.cells] at zz5; clear hrow5 hmap5) | (at_builtin; refine wpList_append_lies _ rfl (.tmp 113) (.tmp 115) 22 rfl (w.heap.size + 1) 56 i0 _ 5 48 Tryz.underlying22 hi hz0 hz1 hz2 rfl (by decide) _ _ _ rfl (st5.o2.alloc _) ⟨_, 0, none⟩ 1 1 (flatE [{ x with path := (pt ++ x.path.extract e.path.size x.path.size) }]) rfl rfl (eb_new u5 { x with path := (pt ++ x.path.extract e.path.size x.path.size) }) (flatE_one _) (by decide) (by unfold maxLen; omega) (by omega) (by simp only [World.size_alloc]; omega) _ rfl ?_; intro g7 cap7 w7 ho7 hg7 hl7 hlt7))
            exact ⟨⟨k + 1, by omega, by go_num, by rw [HB1.out]; first | rfl | (simp only [hd6i]; rfl) | (rw [hd6i]; simp), hidD (by rw [HS1.out, HM1.out, HMX.out]; exact (st5.below ((Below.refl _ _).alloc (Nat.le_refl _) _)).app2 _ ho7 hg7 hl7)⟩, by simp [intOf]; omega⟩
          · have hd6 : decide (6 < n) = false := by simpa using hcn
            have hd6i : decide ((6 : Int) < (n : Int)) = false := by simp; omega
            rw [hd6] at HB1
            cases hed : e.dir
            all_goals rw [hed] at HB1
            all_goals go_wp2_with (first | (go_at_call 112; refine (refBelow_bel x.path e.path false _ (by omega) (by omega)).mono ?_; rintro r u1 ⟨rfl, hb1⟩; rw [hbw]; have s1 := SX.out.below hb1; have st1 := HR.out.below s1.bel; have t0 := s1.cell 0; simp [EntD.cells] at t0; have hsz := s1.lt; have fx := eb_frozen s1 0; have zz0 := st1.eb.cell 0; simp [EntD.cells] at zz0) | (go_at_call 113; refine (refSpare_any pt _ (by omega)).mono ?_; rintro r u3 ⟨rfl, hu3⟩; have s3 := eb_set s1 (pt ++ x.path.extract e.path.size x.path.size); rw [← hu3] at s3; clear hu3; have st3 := HR.out.below s3.bel; have o0 := s3.cell 0; have o1 := s3.cell 1; have o2 := s3.cell 2; have o3 := s3.cell 3; have o4 := s3.cell 4; simp [EntD.cells] at o0 o1 o2 o3 o4; have hsz3 := s3.lt; have zz1 := st3.eb.cell 1; simp [EntD.cells] at zz1) | (go_at_call 114; refine (names_row2 (pt ++ x.path.extract e.path.size x.path.size) _ (by omega)).mono ?_; rintro r u5 ⟨g5, cap5, out5, rfl, hcp5, hrow5, hmap5, hb5⟩; have hol := congrArg List.length hmap5; rw [List.length_map, HN.out] at hol; have s5 := s3.below hb5; have st5 := HR.out.below s5.bel; have q0 := s5.cell 0; have q1 := s5.cell 1; have q2 := s5.cell 2; have q3 := s5.cell 3; have q4 := s5.cell 4; simp [EntD.cells] at q0 q1 q2 q3 q4; have hsz5 := s5.lt; have zz5 := st5.eb.cell 1; simp [EntD.cells] at zz5; clear hrow5 hmap5) | (at_builtin; refine wpList_append_lies _ rfl (.tmp 113) (.tmp 115) 22 rfl (w.heap.size + 1) 56 i0 _ 5 48 Tryz.underlying22 hi hz0 hz1 hz2 rfl (by decide) _ _ _ rfl (st5.o2.alloc _) ⟨_, 0, none⟩ 1 1 (flatE [{ x with path := (pt ++ x.path.extract e.path.size x.path.size) }]) rfl rfl (eb_new u5 { x with path := (pt ++ x.path.extract e.path.size x.path.size) }) (flatE_one _) (by decide) (by unfold maxLen; omega) (by omega) (by simp only [World.size_alloc]; omega) _ rfl ?_; intro g7 cap7 w7 ho7 hg7 hl7 hlt7))
            all_goals exact ⟨⟨k + 1, by omega, by go_num, by rw [HB1.out]; first | rfl | (simp only [hd6i]; rfl) | (rw [hd6i]; simp), hidD (by rw [HS1.out, HM1.out, HMX.out]; exact (st5.below ((Below.refl _ _).alloc (Nat.le_refl _) _)).app2 _ ho7 hg7 hl7)⟩, by simp [intOf]; omega⟩
        · go_wp2_with (first | (go_at_call 112; refine (refBelow_bel x.path e.path false _ (by omega) (by omega)).mono ?_; rintro r u1 ⟨rfl, hb1⟩; rw [hbw]; have s1 := SX.out.below hb1; have st1 := HR.out.below s1.bel; have t0 := s1.cell 0; simp [EntD.cells] at t0; have hsz := s1.lt; have fx := eb_frozen s1 0; have zz0 := st1.eb.cell 0; simp [EntD.cells] at zz0) | (go_at_call 113; refine (refSpare_any pt _ (by omega)).mono ?_; rintro r u3 ⟨rfl, hu3⟩; have s3 := eb_set s1 (pt ++ x.path.extract e.path.size x.path.size); rw [← hu3] at s3; clear hu3; have st3 := HR.out.below s3.bel; have o0 := s3.cell 0; have o1 := s3.cell 1; have o2 := s3.cell 2; have o3 := s3.cell 3; have o4 := s3.cell 4; simp [EntD.cells] at o0 o1 o2 o3 o4; have hsz3 := s3.lt; have zz1 := st3.eb.cell 1; simp [EntD.cells] at zz1) | (at_builtin; refine wpList_append_lies _ rfl (.tmp 113) (.tmp 115) 22 rfl (w.heap.size + 1) 56 i0 _ 5 48 Tryz.underlying22 hi hz0 hz1 hz2 rfl (by decide) _ _ _ rfl (st3.o2.alloc _) ⟨_, 0, none⟩ 1 1 (flatE [{ x with path := (pt ++ x.path.extract e.path.size x.path.size) }]) rfl rfl (eb_new u3 { x with path := (pt ++ x.path.extract e.path.size x.path.size) }) (flatE_one _) (by decide) (by unfold maxLen; omega) (by omega) (by simp only [World.size_alloc]; omega) _ rfl ?_; intro g7 cap7 w7 ho7 hg7 hl7 hlt7))
          exact ⟨⟨k + 1, by omega, by go_num, by rw [HB1.out]; first | rfl | (simp only [hd6i]; rfl) | (rw [hd6i]; simp), hidD (by rw [HS1.out, HM1.out, HMX.out]; exact (st3.below ((Below.refl _ _).alloc (Nat.le_refl _) _)).app2 _ ho7 hg7 hl7)⟩, by simp [intOf]; omega⟩
    · have HTL : Hid (L.take k = L) := List.take_of_length_le (by omega)
      rw [HTL.out] at l1 l2 l3 HR ⊢
      have hX := HX.out
      rw [resR_eq] at hX
      have HSS := hidD (mem_small_st (e := e.pl) (fun o ho => show o.path.size ≤ 1500000 from Nat.le_trans (HLen.out o ho) (by omega)))
      have HSM := hidD (mem_small_mv (e := e.pl) (p := pt.data.toList) (A := L) (fun o ho => by have := HLen.out o ho; rw [EntD.pl, lenD]; exact this) (by rw [lenD]; exact hpt))
      obtain ⟨a1, q1, hv1⟩ := own_val HR.out.o1
      obtain ⟨a2, q2, hv2⟩ := own_val HR.out.o2
      subst hv1 hv2
      generalize hSg : stL e.pl L = S at *
      generalize hMg : mvL e.pl pt.data.toList L = M at *
      generalize L.any (badX e pt.data.toList) = B at *
      clear HX hSg hMg HTL
      have HXX := hidD hX
      clear hX
      cases B
      · go_wp2
        go_loopw [12, 19] (fun sv jv wq => ∃ jj : Nat, jj ≤ M.length ∧ jv = .int .i64 jj ∧ Hid (wq.ownsRow (w.heap.size + 1) 56 5 sv (insAll S (M.take jj)).length (flatE (insAll S (M.take jj)))) ∧ Hid (wq.ownsRow (w.heap.size + 1) 56 5 (.slice a2 M.length q2) M.length (flatE M)) ∧ Hid (Eb w e wq)) (fun _ jv _ => M.length - (intOf jv).toNat)
        case atStart => exact ⟨0, Nat.zero_le _, rfl, hidD HR.out.o1, hidD HR.out.o2, hidD HR.out.eb⟩
        case round =>
          obtain ⟨jj, hjj, rfl, O1, O2, EQ⟩ := hrel
          have hlen2 : (insAll S (M.take jj)).length ≤ 400 := by rw [insAll_len]; simp; omega
          by_cases hjl : jj < M.length
          · obtain ⟨g2, c2, hv2⟩ := own_some O2.out (by omega)
            simp only [Value.slice.injEq] at hv2
            obtain ⟨rfl, _, rfl⟩ := hv2
            have hcell : ∀ y, y < 5 → wr.cell? ⟨g2, jj * 5 + y, none⟩ = M[jj].cells[y]? := fun y hy => by
              rw [O2.out.cellAt (jj * 5 + y) (by omega), flatE_get _ jj hjl y hy]
            have x0 : wr.cell? ⟨g2, jj * 5, none⟩ = some (.string M[jj].path) := hcell 0 (by omega)
            have x1 : wr.cell? ⟨g2, jj * 5 + 1, none⟩ = some (.bool M[jj].dir) := hcell 1 (by omega)
            have x2 : wr.cell? ⟨g2, jj * 5 + 2, none⟩ = some (.int .i64 M[jj].id) := hcell 2 (by omega)
            have x3 : wr.cell? ⟨g2, jj * 5 + 3, none⟩ = some (.int .i64 M[jj].size) := hcell 3 (by omega)
            have x4 : wr.cell? ⟨g2, jj * 5 + 4, none⟩ = some (.int .i64 M[jj].mode) := hcell 4 (by omega)
            have r1 := RowAt.ofOwn O1.out
            obtain ⟨b1, d1, hv1⟩ := own_val O1.out
            subst hv1
            have HIN := hidD (refInsert M[jj] r1 (by omega) (mem_small_ins HSS.out HSM.out jj) (HSM.out _ (List.getElem_mem hjl)))
            have HIS : Hid (insAll S (M.take (jj + 1)) = insL M[jj] (insAll S (M.take jj))) := by
              show insAll S (M.take (jj + 1)) = _
              rw [List.take_succ_eq_append_getElem hjl, insAll_snoc]
            clear hcell r1
            generalize M[jj] = y at *
            generalize insAll S (M.take jj) = R at *
            have hew := EQ.out.lt
            go_wp2_with (go_at_call 65; refine HIN.out.mono ?_; rintro r w8 ⟨v8, rfl, hown8, hb8⟩)
            exact ⟨⟨jj + 1, by omega, by go_num, hidD (by rw [HIS.out]; exact own_mono hown8 hew), hidD (own_below hb8 O2.out), hidD (EQ.out.below hb8)⟩, by simp [intOf]; omega⟩
          · have HIA : Hid (insAll S (M.take jj) = insAll S M) := by show insAll S (M.take jj) = insAll S M; rw [List.take_of_length_le (by omega)]
            rw [HIA.out] at O1
            obtain ⟨b1, n1', d1, hv1⟩ := own_shape O1.out
            subst hv1
            have k9 := HK.out.below EQ.out.bel hvlt
            have f9 := k9.frozen 0
            have c9 := k9.vol.c0
            have hew := EQ.out.lt
            go_wp2
            go_ret
            rw [← HXX.out]
            obtain ⟨p1, p2⟩ := k9.set (.slice b1 n1' d1)
            exact ⟨rfl, _, p1, own_set hvlt (own_mono O1.out (by omega)) p2, grown_of EQ.out.bel p2⟩
      · go_wp2
        go_ret
        rw [← HXX.out]
        exact ⟨rfl, HR.out.eb.bel⟩
end Go.Proofs.YtpjjagalekolaaaGreatDoor

/- The document's volume: rename. -/
namespace Go.Proofs.YtpjjagalekolaaaGreatDoor
open Go.RowKit
set_option linter.unusedVariables false
set_option linter.unusedSimpArgs false

set_option maxHeartbeats 8000000 in
set_option maxRecDepth 100000 in
theorem refRename {w : World} {vb : Nat} {v : Value} {L : List EntD} {fold : Bool} {space : Int} (V : Vm w vb v L fold space) (K : VolOk fold L) (hk : Vk 74 w vb v fold space []) (i : Nat) (hlt : i < L.length) (t : ByteArray) (hg : goodP t.data.toList) :
    Calls Tryz.prog 66 #[.pointer (some ⟨vb, 0, none⟩), .int .i64 i, .string t] w fun r w' => DoA 74 w vb fold space [] (renL fold L L[i] t.data.toList) r w' := by
  have hts : t.size ≤ 60 := by have := good_len hg; rwa [lenD] at this
  have HF2 := hidD (fun (u : World) (hu : Below w.heap.size w u) => refAt (V.below hu).vol (V.below hu).row V.smallL t (by omega))
  have HP := hidD (fun (u : World) (hu : Below w.heap.size w u) => refPlace (V.below hu).vol (V.below hu).row V.smallL t (by omega))
  rw [fstI_atI] at HF2
  have HV := hidD V.vol
  have HK := hidD hk
  have hvlt := V.vol.lt
  have hll := V.len
  have hrf := ren_find K t.data.toList i hlt
  have HSI : Hid (∀ (j : Nat) (hj : j < L.length), mvB L[i].pl L[j].pl = (belowL false L[j].path.data.toList L[i].path.data.toList || decide (j = i))) := fun j hj => by
    show ((L[j].pl == L[i].pl) || belowL false L[j].pl L[i].pl) = _
    rw [Bool.or_comm]
    have : (L[j].pl == L[i].pl) = decide (j = i) := by
      by_cases h : j = i
      · subst h; simp
      · have : L[j].pl ≠ L[i].pl := fun e => h (K.srt.inj j i hj hlt e)
        simp [h, this]
    rw [this]; rfl
  have HLen : Hid (∀ o ∈ L, o.pl.length ≤ 60) := fun o ho => good_len ((K.names o ho).imp id fun h => h.2)
  have HPL : Hid (∀ p, preL fold L L[i] t.data.toList = .ok p → p.length ≤ 60) := fun p h => pre_len K (pre_ren (List.getElem_mem hlt) hg h)
  have hsmall := hidD V.small
  have hrow := V.row
  rw [renL_pre]
  clear V K hk
  generalize atI fold L t.data.toList = j at *
  cases hrow with
  | nil => simp at hlt
  | row b off cap l hlb hcp hm hc =>
    have hcw := hc i hlt
    have d0 : w.cell? ⟨b, off + i * 5, none⟩ = some (.string L[i].path) := hcw 0 _ rfl
    have d1 := hcw 1 _ rfl
    have d2 := hcw 2 _ rfl
    have d3 := hcw 3 _ rfl
    have d4 := hcw 4 _ rfl
    have hes : L[i].path.size ≤ 1500000 := hsmall.out _ (List.getElem_mem hlt)
    have c0 := HV.out.c0
    have c1 := HV.out.c1
    have hpre : preL fold L L[i] t.data.toList = if belowL fold t.data.toList L[i].path.data.toList = true then .error 12 else if (decide (j < L.length) && decide (j ≠ i)) = true then .error 8 else match placeL fold L t.data.toList with | none => .error 2 | some p => .ok p := by
      unfold preL
      rw [hrf]; rfl
    clear hcw hrf
    have ST := hidD (Eb.start w L[i])
    cases hb : belowL fold t.data.toList L[i].path.data.toList
    · have HBL := hidD hb
      by_cases hj : j < L.length ∧ j ≠ i
      · have hp8 : preL fold L L[i] t.data.toList = .error 8 := by rw [hpre, hb]; simp [hj.1, hj.2]
        rw [hp8]
        rw [if_pos hj.1] at HF2
        have hji : ((j : Int) != (i : Int)) = true := by simp; omega
        clear hpre hp8 hb HP HPL HSI
        generalize L[i] = e at *
        unfold DoA
        go_enter Tryz.func66, Tryz.ntmps66
        go_wp2
        go_region_held (fun u => u.cell? ⟨w.heap.size, 0, none⟩ = some (.string e.path) ∧ u.cell? ⟨vb, 1, none⟩ = some (.bool fold)) (go_keep) (first | (go_at_call 112; refine (refBelow_bel t e.path fold _ (by omega) hes).mono ?_; rintro r w2 ⟨rfl, hb2⟩; rw [HBL.out]; have s2 := (ST.out.drewN 1).below hb2; have g0 := s2.cell 0; simp [EntD.cells] at g0; have f1 := (HV.out.below s2.bel hvlt).c1))
        all_goals go_wp2_with (go_at_call 63; refine (HF2.out _ s2.bel).mono ?_; rintro r w3 ⟨rfl, hb3⟩; have s3 := s2.below hb3)
        all_goals go_ret
        all_goals exact ⟨rfl, s3.bel⟩
      · have hjn : (decide (j < L.length) && decide (j ≠ i)) = false := by
          by_cases h1 : j < L.length
          · have h2 : j = i := by
              by_cases h3 : j = i
              · exact h3
              · exact absurd ⟨h1, h3⟩ hj
            simp [h2]
          · simp [h1]
        have hJ : (if j < L.length then (j : Int) else -1) = -1 ∨ ((if j < L.length then (j : Int) else -1) = i ∧ ((i : Int) != (i : Int)) = false) := by
          by_cases h1 : j < L.length
          · right
            rw [if_pos h1]
            refine ⟨?_, by simp⟩
            by_cases h3 : j = i
            · rw [h3]
            · exact absurd ⟨h1, h3⟩ hj
          · left; rw [if_neg h1]
        rw [hjn, hb] at hpre
        simp only [Bool.false_eq_true, if_false] at hpre
        clear hb hjn hj
        cases hpl : placeL fold L t.data.toList with
        | none =>
          have hA : plAns fold L t = (⟨#[]⟩, 2) := by simp only [plAns, hpl]
          rw [hA] at HP
          rw [hpl] at hpre
          rw [hpre]
          clear hpre hpl hA HPL HSI
          generalize L[i] = e at *
          unfold DoA
          rcases hJ with hJ | ⟨hJ, hii⟩
          all_goals rw [hJ] at HF2
          all_goals clear hJ
          all_goals go_enter Tryz.func66, Tryz.ntmps66
          all_goals go_wp2
          all_goals go_region_held (fun u => u.cell? ⟨w.heap.size, 0, none⟩ = some (.string e.path) ∧ u.cell? ⟨vb, 1, none⟩ = some (.bool fold)) (go_keep) (first | (go_at_call 112; refine (refBelow_bel t e.path fold _ (by omega) hes).mono ?_; rintro r w2 ⟨rfl, hb2⟩; rw [HBL.out]; have s2 := (ST.out.drewN 1).below hb2; have g0 := s2.cell 0; simp [EntD.cells] at g0; have f1 := (HV.out.below s2.bel hvlt).c1))
          all_goals go_wp2_with (first | (go_at_call 63; refine (HF2.out _ s2.bel).mono ?_; rintro r w3 ⟨rfl, hb3⟩; have s3 := s2.below hb3) | (go_at_call 109; refine (HP.out _ s3.bel).mono ?_; rintro r w4 ⟨rfl, hb4⟩; have s4 := s3.below hb4))
          all_goals go_ret
          all_goals exact ⟨rfl, s4.bel⟩
        | some p =>
          have hA : plAns fold L t = (ofL p, 0) := by simp only [plAns, hpl]
          rw [hA] at HP
          rw [hpl] at hpre
          simp only at hpre
          have hpl60 := HPL.out p hpre
          rw [hpre]
          clear hpre hpl hA HPL
          simp only
          have eo : (ofL p).data.toList = p := by simp [ofL]
          have es : (ofL p).size = p.length := by simp [ofL, ByteArray.size]
          exact refRename_go HV.out HK.out hll hlb hc i hlt L[i] rfl t hts (ofL p) (by omega) (fun o ho => by have := HLen.out o ho; rw [EntD.pl, lenD] at this; exact this) HSI.out _ hJ HBL.out HF2.out HP.out _ (by rw [eo])
    · have HBL := hidD hb
      have hp12 : preL fold L L[i] t.data.toList = .error 12 := by rw [hpre, hb]; rfl
      rw [hp12]
      clear hpre hp12 hb HP HPL HSI HF2
      generalize L[i] = e at *
      unfold DoA
      go_enter Tryz.func66, Tryz.ntmps66
      go_wp2
      go_region_held (fun u => u.cell? ⟨w.heap.size, 0, none⟩ = some (.string e.path) ∧ u.cell? ⟨vb, 1, none⟩ = some (.bool fold)) (go_keep) (first | (go_at_call 112; refine (refBelow_bel t e.path fold _ (by omega) hes).mono ?_; rintro r w2 ⟨rfl, hb2⟩; rw [HBL.out]; have s2 := (ST.out.drewN 1).below hb2; have g0 := s2.cell 0; simp [EntD.cells] at g0; have f1 := (HV.out.below s2.bel hvlt).c1))
      all_goals go_wp2
      all_goals go_ret
      all_goals exact ⟨rfl, s2.bel⟩
end Go.Proofs.YtpjjagalekolaaaGreatDoor

