/- VN, VS, VT: in one text. -/
import Derived.Test.YtpjjagalekolaaaGreatDoorY20
/- A volume in memory: copy. -/
namespace Go.Proofs.YtpjjagalekolaaaGreatDoor
open Go.RowKit
set_option linter.unusedVariables false
set_option linter.unusedSimpArgs false

set_option maxHeartbeats 2000000 in
/-- Up to the file: an error of it. -/
theorem vcopy_bad {w : World} {vb : Nat} {v : Value} {L : List EntD} {fold : Bool} {space : Int} (V : Vm w vb v L fold space) (o : OpD) (ho : o.small) (n : Int) (hn : n ≠ 0)
    (hf : ∀ u : World, Below w.heap.size w u → Calls Tryz.prog 167 #[.pointer (some ⟨vb, 0, none⟩), .string o.path] u fun e w' => e = .returned (.tuple #[.int .i64 0, .int .i64 n]) ∧ Below u.heap.size u w') :
    Calls Tryz.prog 126 #[.pointer (some ⟨vb, 0, none⟩), o.val] w fun r w' => Ans w.heap.size (.error n) r w' ∧ Below w.heap.size w w' := by
  have ST := hidD (Ob.start w o)
  have HF := hidD hf
  have k1 := ST.out.cell 1
  simp [OpD.cells] at k1
  have hn' : (n != 0) = true := by simpa using hn
  have hn2 : (n == 0) = false := by simpa using hn
  unfold OpD.val Ans
  go_enter Tryz.func126, Tryz.ntmps126
  go_wp2_with (go_at_call 167; refine (HF.out _ ST.out.bel).mono ?_; rintro r w1 ⟨rfl, hb1⟩)
  go_ret2
  exact ⟨rfl, (ST.out.below hb1).bel⟩

set_option maxHeartbeats 4000000 in
/-- Past the file, which is the entry e at number i. -/
theorem vcopy_good {w : World} {vb b off cap : Nat} {L : List EntD} {fold : Bool} {space : Int} (V : Vm w vb (.slice (some ⟨b, off, none⟩) L.length cap) L fold space) (hlb : b < w.heap.size) (hc : EntsAt w b off L) (o : OpD) (ho : o.small) (i : Nat) (hi : i < L.length) (e : EntD) (he : L[i] = e) (hp : ∀ t, placeL fold L o.tl = some t → t.length ≤ 1500000)
    (hot : (L.any fun x => !x.dir && decide (x.id = e.id) && decide (x.size ≠ e.size)) = false)
    (hf : ∀ u : World, Below w.heap.size w u → Calls Tryz.prog 167 #[.pointer (some ⟨vb, 0, none⟩), .string o.path] u fun e w' => e = .returned (.tuple #[.int .i64 i, .int .i64 0]) ∧ Below u.heap.size u w') :
    Calls Tryz.prog 126 #[.pointer (some ⟨vb, 0, none⟩), o.val] w fun r w' => Ans w.heap.size (mkL fold space L ⟨o.dest, false, e.id, e.size, o.mode⟩) r w' ∧ Below w.heap.size w w' := by
  have ST := hidD (Ob.start w o)
  have HF := hidD hf
  have HR : Hid (∀ u : World, Below w.heap.size w u → Calls Tryz.prog 162 #[.pointer (some ⟨vb, 0, none⟩), .string o.dest] u fun e w' => e = .returned (.tuple #[.string (freeAns fold L o.dest).1, .int .i64 (freeAns fold L o.dest).2]) ∧ Below u.heap.size u w') := fun u hu => vfree (V.below hu).vol (V.below hu).row V.smallL o.dest ho.2
  have k1 := ST.out.cell 1
  simp [OpD.cells] at k1
  rcases free_cases fold L o.dest with ⟨ha, hA⟩ | ⟨ha, hpl, hA⟩ | ⟨ha, ⟨t, hpl⟩, hn, hA⟩ | ⟨ha, hn, t, hpl, hA⟩
  · have hM : mkL fold space L ⟨o.dest, false, e.id, e.size, o.mode⟩ = .error 8 := by unfold mkL; exact if_pos ha
    rw [hM]
    rw [hA] at HR
    unfold OpD.val Ans
    go_enter Tryz.func126, Tryz.ntmps126
    go_wp2_with (first | (go_at_call 167; refine (HF.out _ ST.out.bel).mono ?_; rintro r w1 ⟨rfl, hb1⟩; have s1 := ST.out.below hb1; have d2 := s1.cell 2; simp [OpD.cells] at d2) | (go_at_call 162; refine (HR.out _ s1.bel).mono ?_; rintro r w2 ⟨rfl, hb2⟩))
    go_ret2
    exact ⟨rfl, (s1.below hb2).bel⟩
  · have hM : mkL fold space L ⟨o.dest, false, e.id, e.size, o.mode⟩ = .error 2 := by
      unfold mkL
      rw [show (EntD.pl ⟨o.dest, false, e.id, e.size, o.mode⟩) = o.dest.data.toList from rfl, ha, if_neg (by simp), hpl]
    rw [hM]
    rw [hA] at HR
    unfold OpD.val Ans
    go_enter Tryz.func126, Tryz.ntmps126
    go_wp2_with (first | (go_at_call 167; refine (HF.out _ ST.out.bel).mono ?_; rintro r w1 ⟨rfl, hb1⟩; have s1 := ST.out.below hb1; have d2 := s1.cell 2; simp [OpD.cells] at d2) | (go_at_call 162; refine (HR.out _ s1.bel).mono ?_; rintro r w2 ⟨rfl, hb2⟩))
    go_ret2
    exact ⟨rfl, (s1.below hb2).bel⟩
  · have hM : mkL fold space L ⟨o.dest, false, e.id, e.size, o.mode⟩ = .error 5 := by
      unfold mkL
      rw [show (EntD.pl ⟨o.dest, false, e.id, e.size, o.mode⟩) = o.dest.data.toList from rfl, ha, if_neg (by simp), hpl]
      simp only [hn, if_true]
    rw [hM]
    rw [hA] at HR
    unfold OpD.val Ans
    go_enter Tryz.func126, Tryz.ntmps126
    go_wp2_with (first | (go_at_call 167; refine (HF.out _ ST.out.bel).mono ?_; rintro r w1 ⟨rfl, hb1⟩; have s1 := ST.out.below hb1; have d2 := s1.cell 2; simp [OpD.cells] at d2) | (go_at_call 162; refine (HR.out _ s1.bel).mono ?_; rintro r w2 ⟨rfl, hb2⟩))
    go_ret2
    exact ⟨rfl, (s1.below hb2).bel⟩
  · rw [hA] at HR
    have hM : mkL fold space L ⟨o.dest, false, e.id, e.size, o.mode⟩ = if space - usedL L < e.size then .error 11 else .ok (insL ⟨ofL t, false, e.id, e.size, o.mode⟩ L) := by
      unfold mkL
      rw [show (EntD.pl ⟨o.dest, false, e.id, e.size, o.mode⟩) = o.dest.data.toList from rfl, ha, if_neg (by simp), hpl]
      simp only [hn, hot, if_false, Bool.not_false, Bool.true_and, decide_eq_true_eq, Bool.false_eq_true]
      by_cases hs : space - usedL L < e.size
      · rw [if_pos hs, if_pos (by omega)]
      · rw [if_neg hs, if_neg (by omega)]; rfl
    rw [hM]
    have hsm : (ofL t).size ≤ 1500000 := ofL_small (hp t hpl)
    have HW := hidD (fun (u : World) (hu : Below w.heap.size w u) => vfilled (V.below hu).vol (V.below hu).row V.len V.small V.srt V.sizes V.sp0 V.sp1 ⟨ofL t, false, e.id, e.size, o.mode⟩ hsm (by have := free_ne ha hpl; simpa [EntD.pl, ofL] using this))
    have HV := hidD V.vol
    have hvlt := V.vol.lt
    have hll := V.len
    have HE : Hid (∀ u : World, Below w.heap.size w u → u.cell? ⟨b, off + i * 5 + 2, none⟩ = some (.int .i64 e.id) ∧ u.cell? ⟨b, off + i * 5 + 3, none⟩ = some (.int .i64 e.size)) := fun u hu => ⟨by have := (hc.below hu hlb) i hi 2 (.int .i64 e.id) (by rw [he]; rfl); exact this, by have := (hc.below hu hlb) i hi 3 (.int .i64 e.size) (by rw [he]; rfl); exact this⟩
    clear hM hot hp V ha hpl hA he hc hf
    generalize insL ⟨ofL t, false, e.id, e.size, o.mode⟩ L = M at *
    generalize ofL t = pt at *
    generalize usedL L = us at *
    generalize L.length = n at *
    by_cases hfl : space - us < e.size
    · simp only [hfl, if_true, ↓reduceIte] at HW ⊢
      unfold OpD.val Ans
      go_enter Tryz.func126, Tryz.ntmps126
      go_wp2_with (first | (go_at_call 167; refine (HF.out _ ST.out.bel).mono ?_; rintro r w1 ⟨rfl, hb1⟩; have s1 := ST.out.below hb1; have d2 := s1.cell 2; simp [OpD.cells] at d2) | (go_at_call 162; refine (HR.out _ s1.bel).mono ?_; rintro r w2 ⟨rfl, hb2⟩; have s2 := s1.below hb2; have d5 := s2.cell 5; simp [OpD.cells] at d5; have c0 := (HV.out.below s2.bel hvlt).c0; obtain ⟨c2, c3⟩ := HE.out _ s2.bel))
      clear d2 k1
      go_region_held (fun u => u.cell? ⟨vb, 0, none⟩ = some (.slice (some ⟨b, off, none⟩) n cap) ∧ u.cell? ⟨b, off + i * 5 + 2, none⟩ = some (.int .i64 e.id) ∧ u.cell? ⟨b, off + i * 5 + 3, none⟩ = some (.int .i64 e.size) ∧ u.cell? ⟨w.heap.size, 5, none⟩ = some (.int .i64 o.mode)) (go_keep) (first | (go_at_call 168; refine (HW.out _ (s2.bel.trans (below_drewE _ 1))).mono ?_; rintro r w3 ⟨hb3, rfl⟩; have s3 := (s2.drewN 1).below hb3; have f5 := s3.cell 5; simp [OpD.cells] at f5; have fv := (HV.out.below s3.bel hvlt).c0; obtain ⟨f2, f3⟩ := HE.out _ s3.bel))
      all_goals go_wp2
      all_goals go_ret2
      all_goals exact ⟨rfl, s3.bel⟩
    · simp only [hfl, if_false, ↓reduceIte] at HW ⊢
      unfold OpD.val Ans
      go_enter Tryz.func126, Tryz.ntmps126
      go_wp2_with (first | (go_at_call 167; refine (HF.out _ ST.out.bel).mono ?_; rintro r w1 ⟨rfl, hb1⟩; have s1 := ST.out.below hb1; have d2 := s1.cell 2; simp [OpD.cells] at d2) | (go_at_call 162; refine (HR.out _ s1.bel).mono ?_; rintro r w2 ⟨rfl, hb2⟩; have s2 := s1.below hb2; have d5 := s2.cell 5; simp [OpD.cells] at d5; have c0 := (HV.out.below s2.bel hvlt).c0; obtain ⟨c2, c3⟩ := HE.out _ s2.bel))
      clear d2 k1
      go_region_held (fun u => u.cell? ⟨vb, 0, none⟩ = some (.slice (some ⟨b, off, none⟩) n cap) ∧ u.cell? ⟨b, off + i * 5 + 2, none⟩ = some (.int .i64 e.id) ∧ u.cell? ⟨b, off + i * 5 + 3, none⟩ = some (.int .i64 e.size) ∧ u.cell? ⟨w.heap.size, 5, none⟩ = some (.int .i64 o.mode)) (go_keep) (first | (go_at_call 168; refine (HW.out _ (s2.bel.trans (below_drewE _ 1))).mono ?_; rintro r w3 ⟨hb3, v3, rfl, hown3⟩; obtain ⟨a3, m3, c3, rfl⟩ := own_shape hown3; have s3 := (s2.drewN 1).below hb3; have f5 := s3.cell 5; simp [OpD.cells] at f5; have fv := (HV.out.below s3.bel hvlt).c0; obtain ⟨f2, f3⟩ := HE.out _ s3.bel))
      all_goals go_wp2
      all_goals go_ret2
      all_goals exact ⟨⟨_, rfl, own_mono hown3 s2.bel.size⟩, s3.bel⟩
end Go.Proofs.YtpjjagalekolaaaGreatDoor

/- A volume in memory: copy, whole; the operations but rename against the plain one. -/
namespace Go.Proofs.YtpjjagalekolaaaGreatDoor
open Go.RowKit
set_option linter.unusedVariables false
set_option linter.unusedSimpArgs false

theorem vcopy {w : World} {vb : Nat} {v : Value} {L : List EntD} {fold : Bool} {space : Int} (V : Vm w vb v L fold space) (K : VolOk fold L) (o : OpD) (ho : o.small) (hg : goodP o.tl) :
    Calls Tryz.prog 126 #[.pointer (some ⟨vb, 0, none⟩), o.val] w fun r w' => Ans w.heap.size (match L[atI fold L o.pl]? with | none => .error 9 | some e => if e.dir then .error 10 else mkL fold space L ⟨o.dest, false, e.id, e.size, o.mode⟩) r w' ∧ Below w.heap.size w w' := by
  have HF := fun (u : World) (hu : Below w.heap.size w u) => vfile (V.below hu).vol (V.below hu).row V.smallL o.path ho.1
  rw [show o.path.data.toList = o.pl from rfl] at HF
  rcases fstI_at fold L o.pl with ⟨hi, hf⟩ | ⟨hlt, hi, hf⟩
  · rw [hf] at HF ⊢
    exact vcopy_bad V o ho 9 (by decide) HF
  · rw [hf] at HF ⊢
    cases hd : L[atI fold L o.pl].dir
    · simp only [hd, Bool.false_eq_true, if_false] at HF ⊢
      have hrow := V.row
      cases hrow with
      | nil => simp at hlt
      | row b off cap l hlb hc hm h =>
        exact vcopy_good V hlb h o ho (atI fold L o.pl) hlt _ rfl (K.place hg) (K.alike _ (List.getElem_mem hlt) hd) HF
    · simp only [hd, if_true] at HF ⊢
      exact vcopy_bad V o ho 10 (by decide) HF
theorem doL_chmod {fold : Bool} {space : Int} {L : List EntD} {o : OpD} (h : o.kind = 7) : doL fold space L o = match L[atI fold L o.pl]? with | none => .error 9 | some e => .ok (L.set (atI fold L o.pl) { e with mode := o.mode }) := by
  unfold doL
  rw [if_neg (by omega), if_neg (by omega)]
  cases L[atI fold L o.pl]? with
  | none => rfl
  | some e => simp only; rw [if_pos h]

/-- Every operation's own function but rename's, against doL. -/
theorem vop {w : World} {vb : Nat} {v : Value} {L : List EntD} {fold : Bool} {space : Int} (V : Vm w vb v L fold space) (K : VolOk fold L) (o : OpD) (ho : o.small) (hg : OpGood o) (n : Nat)
    (hn : (o.kind = 1 ∧ n = 122) ∨ (o.kind = 2 ∧ n = 123) ∨ (o.kind = 3 ∧ n = 124) ∨ (o.kind = 4 ∧ n = 125) ∨ (o.kind = 5 ∧ n = 126) ∨ (o.kind = 7 ∧ n = 128)) :
    Calls Tryz.prog n #[.pointer (some ⟨vb, 0, none⟩), o.val] w fun r w' => Ans w.heap.size (doL fold space L o) r w' ∧ Below w.heap.size w w' := by
  rcases hn with ⟨h, rfl⟩ | ⟨h, rfl⟩ | ⟨h, rfl⟩ | ⟨h, rfl⟩ | ⟨h, rfl⟩ | ⟨h, rfl⟩
  · rw [doL_mkdir h]; exact vmkdir V o ho (K.place hg.path)
  · rw [doL_rmdir h]; exact vrmdir V o ho
  · rw [doL_unlink K h]; exact vunlink V o ho
  · rw [doL_write h]; exact vwrite V o ho (K.place hg.path) (K.other o.id o.size (hg.file h).1)
  · rw [doL_copy h]; exact vcopy V K o ho (hg.dest (.inl h))
  · rw [doL_chmod h]; exact vchmod V o ho
end Go.Proofs.YtpjjagalekolaaaGreatDoor

/- A volume in memory: the entries behind an operation; rename's own function is handed in. -/
namespace Go.Proofs.YtpjjagalekolaaaGreatDoor
open Go.RowKit
set_option linter.unusedVariables false
set_option linter.unusedSimpArgs false

def fnOf (k : Int) : Nat := if k = 1 then 122 else if k = 2 then 123 else if k = 3 then 124 else if k = 4 then 125 else if k = 5 then 126 else if k = 6 then 127 else 128

set_option maxHeartbeats 2000000 in
theorem vafter {w : World} {vb : Nat} (kind : Int) (path dest : ByteArray) (id size mode : Int) (hk : 1 ≤ kind ∧ kind ≤ 7) (x : Except Int (List EntD))
    (H : ∀ u : World, Below w.heap.size w u → Calls Tryz.prog (fnOf kind) #[.pointer (some ⟨vb, 0, none⟩), .agg #[.int .i64 kind, .string path, .string dest, .int .i64 id, .int .i64 size, .int .i64 mode]] u fun r w' => Ans u.heap.size x r w' ∧ Below u.heap.size u w') :
    Calls Tryz.prog 75 #[.pointer (some ⟨vb, 0, none⟩), .agg #[.int .i64 kind, .string path, .string dest, .int .i64 id, .int .i64 size, .int .i64 mode]] w fun r w' => Ans w.heap.size x r w' ∧ Below w.heap.size w w' := by
  have HH := hidD H
  clear H
  have ST := hidD (Ob.start w ⟨kind, path, dest, id, size, mode⟩)
  have hK : kind = 1 ∨ kind = 2 ∨ kind = 3 ∨ kind = 4 ∨ kind = 5 ∨ kind = 6 ∨ kind = 7 := by omega
  cases x with
  | error n =>
    unfold Ans at HH ⊢
    rcases hK with rfl | rfl | rfl | rfl | rfl | rfl | rfl
    all_goals
      simp only [fnOf] at HH
      go_enter Tryz.func75, Tryz.ntmps75
      go_wp2_with (first | (go_at_call 122; refine (HH.out _ ST.out.bel).mono ?_; rintro r w1 ⟨rfl, hb1⟩) | (go_at_call 123; refine (HH.out _ ST.out.bel).mono ?_; rintro r w1 ⟨rfl, hb1⟩) | (go_at_call 124; refine (HH.out _ ST.out.bel).mono ?_; rintro r w1 ⟨rfl, hb1⟩) | (go_at_call 125; refine (HH.out _ ST.out.bel).mono ?_; rintro r w1 ⟨rfl, hb1⟩) | (go_at_call 126; refine (HH.out _ ST.out.bel).mono ?_; rintro r w1 ⟨rfl, hb1⟩) | (go_at_call 127; refine (HH.out _ ST.out.bel).mono ?_; rintro r w1 ⟨rfl, hb1⟩) | (go_at_call 128; refine (HH.out _ ST.out.bel).mono ?_; rintro r w1 ⟨rfl, hb1⟩))
      go_ret2
      exact ⟨rfl, (ST.out.below hb1).bel⟩
  | ok M =>
    unfold Ans at HH ⊢
    rcases hK with rfl | rfl | rfl | rfl | rfl | rfl | rfl
    all_goals
      simp only [fnOf] at HH
      go_enter Tryz.func75, Tryz.ntmps75
      go_wp2_with (first | (go_at_call 122; refine (HH.out _ ST.out.bel).mono ?_; rintro r w1 ⟨⟨v3, rfl, hown3⟩, hb1⟩; obtain ⟨a3, m3, c3, rfl⟩ := own_shape hown3) | (go_at_call 123; refine (HH.out _ ST.out.bel).mono ?_; rintro r w1 ⟨⟨v3, rfl, hown3⟩, hb1⟩; obtain ⟨a3, m3, c3, rfl⟩ := own_shape hown3) | (go_at_call 124; refine (HH.out _ ST.out.bel).mono ?_; rintro r w1 ⟨⟨v3, rfl, hown3⟩, hb1⟩; obtain ⟨a3, m3, c3, rfl⟩ := own_shape hown3) | (go_at_call 125; refine (HH.out _ ST.out.bel).mono ?_; rintro r w1 ⟨⟨v3, rfl, hown3⟩, hb1⟩; obtain ⟨a3, m3, c3, rfl⟩ := own_shape hown3) | (go_at_call 126; refine (HH.out _ ST.out.bel).mono ?_; rintro r w1 ⟨⟨v3, rfl, hown3⟩, hb1⟩; obtain ⟨a3, m3, c3, rfl⟩ := own_shape hown3) | (go_at_call 127; refine (HH.out _ ST.out.bel).mono ?_; rintro r w1 ⟨⟨v3, rfl, hown3⟩, hb1⟩; obtain ⟨a3, m3, c3, rfl⟩ := own_shape hown3) | (go_at_call 128; refine (HH.out _ ST.out.bel).mono ?_; rintro r w1 ⟨⟨v3, rfl, hown3⟩, hb1⟩; obtain ⟨a3, m3, c3, rfl⟩ := own_shape hown3))
      go_ret2
      exact ⟨⟨_, rfl, own_mono hown3 ST.out.bel.size⟩, (ST.out.below hb1).bel⟩
end Go.Proofs.YtpjjagalekolaaaGreatDoor

