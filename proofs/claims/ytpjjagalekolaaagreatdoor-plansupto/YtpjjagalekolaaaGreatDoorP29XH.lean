/- The document's volume: every operation; its Try. -/
import Derived.Test.YtpjjagalekolaaaGreatDoorP23
import Derived.Test.YtpjjagalekolaaaGreatDoorP24XG
import Derived.Test.YtpjjagalekolaaaGreatDoorP26
import Derived.Test.YtpjjagalekolaaaGreatDoorP06
namespace Go.Proofs.YtpjjagalekolaaaGreatDoor
open Go.RowKit
set_option linter.unusedVariables false
set_option linter.unusedSimpArgs false

theorem refDo {w : World} {vb : Nat} {v : Value} {L : List EntD} {fold : Bool} {space : Int} (V : Vm w vb v L fold space) (K : VolOk fold L) (hk : Vk 74 w vb v fold space []) (o : OpD) (hg : OpGood o) :
    Calls Tryz.prog 40 #[.pointer (some ⟨vb, 0, none⟩), .agg #[.int .i64 o.kind, .string o.path, .string o.dest, .int .i64 o.id, .int .i64 o.size, .int .i64 o.mode]] w fun r w' => DoA 74 w vb fold space [] (doL fold space L o) r w' := by
  have hs : o.path.size ≤ 60 := by have := good_len hg.path; rwa [OpD.pl, lenD] at this
  have hkk := hg.kinds
  by_cases h14 : o.kind = 1 ∨ o.kind = 4
  · exact refDo_make V hk o hg (by omega) (K.place hg.path) h14
  · have hK : o.kind = 2 ∨ o.kind = 3 ∨ o.kind = 5 ∨ o.kind = 6 ∨ o.kind = 7 := by omega
    rcases fstI_at fold L o.path.data.toList with ⟨hi, hf⟩ | ⟨hlt, hi, hf⟩
    · have hd : doL fold space L o = .error 9 := by
        unfold doL
        rw [if_neg (by omega), if_neg (by omega), show o.pl = o.path.data.toList from rfl, hf]
      rw [hd]
      exact refDo_none V o.kind o.path o.dest o.id o.size o.mode (by omega) hK hi
    · have hd0 : doL fold space L o = if o.kind = 7 then .ok (L.set (atI fold L o.pl) { L[atI fold L o.path.data.toList] with mode := o.mode })
          else if o.kind = 6 then renL fold L L[atI fold L o.path.data.toList] o.tl
          else if L[atI fold L o.path.data.toList].dir ≠ decide (o.kind = 2) then .error 10
          else if o.kind = 5 then mkL fold space L ⟨o.dest, false, L[atI fold L o.path.data.toList].id, L[atI fold L o.path.data.toList].size, o.mode⟩
          else if (L.any fun x => belowL false x.pl L[atI fold L o.path.data.toList].pl) = true then .error 13
          else .ok (L.eraseIdx (atI fold L o.pl)) := by
        unfold doL
        rw [if_neg (by omega), if_neg (by omega), show o.pl = o.path.data.toList from rfl, hf]
      rw [hd0]
      clear hd0 hf
      have hrow := V.row
      cases hrow with
      | nil => simp at hlt
      | row b off cap l hlb hcp hm hc =>
        have hfl := fieldsB_true _ (K.fields _ (List.getElem_mem hlt))
        have HR := fun (h6 : o.kind = 6) (u : World) (hu : Below w.heap.size w u) => refRename (V.below hu) K (hk.below hu hk.lt) (atI fold L o.path.data.toList) hlt o.dest (hg.dest (.inr h6))
        rw [show o.pl = o.path.data.toList from rfl]
        generalize atI fold L o.path.data.toList = i at *
        rcases hK with h | h | h | h | h
        · have := refDo_rm V hk hlb hc o.path o.dest o.id o.size o.mode (by omega) i hlt hi L[i].path L[i].dir L[i].id L[i].size L[i].mode rfl o.kind (.inl h)
          rw [if_neg (by omega), if_neg (by omega), if_neg (show ¬ o.kind = 5 by omega)]
          exact this
        · have := refDo_rm V hk hlb hc o.path o.dest o.id o.size o.mode (by omega) i hlt hi L[i].path L[i].dir L[i].id L[i].size L[i].mode rfl o.kind (.inr h)
          rw [if_neg (by omega), if_neg (by omega), if_neg (show ¬ o.kind = 5 by omega)]
          exact this
        · have hds : o.dest.size ≤ 60 := by have := good_len (hg.dest (.inl h)); rwa [OpD.tl, lenD] at this
          have := refDo_copy V hk hlb hc o.path o.dest o.id o.size o.mode (by omega) i hlt hi L[i].path L[i].dir L[i].id L[i].size L[i].mode rfl (by omega) (K.place (hg.dest (.inl h))) (fun hdir => by
            rcases hfl.2.2 with ⟨d, _⟩ | ⟨_, _, _, z0, z1⟩
            · rw [d] at hdir; cases hdir
            · exact ⟨z0, z1⟩) o.kind h
          rw [if_neg (by omega), if_neg (by omega), if_pos h]
          have h2 : decide (o.kind = 2) = false := by rw [decide_eq_false_iff_not]; omega
          rw [h2]
          cases hdr : L[i].dir
          · rw [hdr] at this; simpa using this
          · rw [hdr] at this; simpa using this
        · rw [if_neg (by omega), if_pos h]
          exact refDo_ren V hk hlb hc o.path o.dest o.id o.size o.mode (by omega) i hlt hi L[i].path L[i].dir L[i].id L[i].size L[i].mode rfl _ (HR h) o.kind h
        · rw [if_pos h]
          exact refDo_chmod V hk hlb hc o.path o.dest o.id o.size o.mode (by omega) i hlt hi o.kind h

theorem refCheckF {w : World} {v : Value} {L : List EntD} (fold : Bool) (hr : RowAt w v L) (hs : SmallL L) :
    Calls Tryz.prog 37 #[v, .bool fold] w fun e w' => ∃ c k : Int, e = .returned (.tuple #[.int .i64 c, .int .i64 k]) ∧ (c == 0) = treeF fold L ∧ Below w.heap.size w w' := by
  cases hr with
  | nil =>
    cases fold
    · exact (refCheck_nil w).mono (by rintro e w' ⟨rfl, rfl⟩; exact ⟨_, _, rfl, rfl, Below.refl _ _⟩)
    · exact (refCheckT_nil w).mono (by rintro e w' ⟨rfl, rfl⟩; exact ⟨_, _, rfl, rfl, Below.refl _ _⟩)
  | row b off cap l hlb hc hm h =>
    cases fold
    · exact (refCheck_any b off cap L w hs.1 hs.2 hlb h).mono (by rintro e w' ⟨rfl, hb⟩; exact ⟨_, _, rfl, (tree_same L).symm, hb⟩)
    · exact (refCheckT_any b off cap L w hs.1 hs.2 hlb h).mono (by rintro e w' ⟨rfl, hb⟩; exact ⟨_, _, rfl, (tree_sameT L).symm, hb⟩)
theorem wrongF {w : World} {v : Value} {l : List OpD} (hr : OpRow w v l) (hl : l.length ≤ 2000000) (hs : ∀ o ∈ l, o.small) :
    Calls Tryz.prog 38 #[v] w fun e w' => e = .returned (.int .i64 (wrN (fwrong l 0))) ∧ Below w.heap.size w w' := by
  cases hr with
  | nil => exact (wrong_nil w).mono (by rintro e w' ⟨rfl, rfl⟩; exact ⟨rfl, Below.refl _ _⟩)
  | row b off cap l hlb h => exact wrong_any b off cap l w hl hs hlb h

theorem fw_ge (l : List OpD) : ∀ i : Nat, (fwrong l i).2 = true → 0 ≤ (fwrong l i).1 := by
  induction l with
  | nil => intro i h; cases h
  | cons o t ih =>
    intro i h
    rw [fwrong] at h ⊢
    split
    · exact Int.natCast_nonneg _
    · next hn => rw [if_neg hn] at h; exact ih (i + 1) h

/-- What the document's Try answers. -/
def RTryA (w : World) (x : Except (Int × Int) (List EntD × Int)) (r : Ending) (w' : World) : Prop :=
  match x with
  | .error (c, k) => r = .returned (.tuple #[.slice none 0 0, .int .i64 0, .int .i64 c, .int .i64 k]) ∧ Below w.heap.size w w'
  | .ok (M, need) => ∃ v, r = .returned (.tuple #[v, .int .i64 need, .int .i64 0, .int .i64 0]) ∧ RowAt w' v M ∧ Below w.heap.size w w'

structure RSt (w0 : World) (vb : Nat) (fold : Bool) (u : World) (v : Value) (Lk : List EntD) : Prop where
  bel : Below w0.heap.size w0 u
  vbge : w0.heap.size ≤ vb
  vol : Vk 74 u vb v fold 1099511627776 []
  cur : RowAt w0 v Lk ∨ u.ownsRow w0.heap.size 56 5 v Lk.length (flatE Lk)
theorem RSt.below {w0 : World} {vb : Nat} {fold : Bool} {u u' : World} {v : Value} {Lk : List EntD} (h : RSt w0 vb fold u v Lk) (hb : Below u.heap.size u u') : RSt w0 vb fold u' v Lk :=
  ⟨h.bel.trans (hb.mono h.bel.size), h.vbge, h.vol.below hb h.vol.lt, h.cur.imp id (own_below hb)⟩
theorem RSt.did {w0 : World} {vb : Nat} {fold : Bool} {u u' : World} {v v' : Value} {Lk M : List EntD} (h : RSt w0 vb fold u v Lk) (hk : Vk 74 u' vb v' fold 1099511627776 []) (ho : u'.ownsRow u.heap.size 56 5 v' M.length (flatE M)) (hg : u.grownBy u' (some vb)) : RSt w0 vb fold u' v' M where
  bel := h.bel.grown hg h.bel.size (fun q hq => by cases hq; exact h.vbge)
  vbge := h.vbge
  vol := hk
  cur := .inr (own_mono ho h.bel.size)
theorem RSt.vm {w0 : World} {vb : Nat} {fold : Bool} {u : World} {v : Value} {Lk : List EntD} (h : RSt w0 vb fold u v Lk) (K : VolOk fold Lk) : Vm u vb v Lk fold 1099511627776 := Vm.of K h.vol.vol (row_of h.bel h.cur) (by decide) (by decide)

set_option maxHeartbeats 8000000 in
set_option maxRecDepth 100000 in
theorem refTry {w : World} {sv lv : Value} {L : List EntD} {l : List OpD} (fold : Bool) (hr : RowAt w sv L) (hs : SmallL L) (ho : OpRow w lv l) (hl : l.length ≤ 2000000) (hos : ∀ o ∈ l, o.small) (X : Except (Int × Int) (List EntD × Int)) (hX : tryP fold 1099511627776 L l = X) :
    Calls Tryz.prog 15 #[sv, .bool fold, lv] w fun r w' => RTryA w X r w' := by
  have HC := hidD (refCheckF fold hr hs)
  have HW := hidD (fun (u : World) (hu : Below w.heap.size w u) => wrongF (ho.below hu (Nat.le_refl _)) hl hos)
  have HX := hidD hX
  have HR := hidD hr
  have HO := hidD ho
  have HOS := hidD hos
  obtain ⟨sa, sc, rfl⟩ := hr.val
  obtain ⟨la, lc, rfl⟩ := ho.val
  clear hX hr ho hos
  cases ht : treeF fold L
  · rw [ht] at HC
    have hX := HX.out
    rw [tryP, if_pos ht] at hX
    subst hX
    clear HX
    unfold RTryA
    go_enter Tryz.func15, Tryz.ntmps15
    go_wp2_with (go_at_call 37; refine HC.out.mono ?_; rintro r w1 ⟨c, k, rfl, hck, hb1⟩; have hcn : (c != 0) = true := (by simp only [bne, hck]; rfl))
    refine bodyPost_ret (results_tmp4 rfl _ _ _) rfl ?_
    exact ⟨rfl, hb1⟩
  · rw [ht] at HC
    have HT := hidD ht
    have hX := HX.out
    rw [tryP, if_neg (by rw [ht]; decide)] at hX
    clear ht
    cases hf : (fwrong l 0).2
    · have hsg := script_good hf
      rw [if_neg (by rw [hf]; decide)] at hX
      have hwr : wrN (fwrong l 0) = -1 := by rw [wrN, hf]; rfl
      rw [hwr] at HW
      have HX2 := hidD hX
      have HSG := hidD hsg.2
      have hl4 := hsg.1
      have K0 := tree_vol HT.out
      have HK0 := hidD K0
      have hu0 := used_le K0
      obtain ⟨hu1, hu2⟩ := hu0
      have HS2 : Hid (∀ u2 : World, Below w.heap.size w u2 → RSt w u2.heap.size fold (u2.alloc (.cells #[.slice sa L.length sc, .bool fold, .int .i64 1099511627776] 74)) (.slice sa L.length sc) L) := fun u2 hu => ⟨hu.alloc hu.size _, hu.size, heap_alloc_new u2 _, .inl HR.out⟩
      have HUS := hidD (fun (u2 : World) (hu : Below w.heap.size w u2) => refUsed ((HS2.out u2 hu).vm K0))
      clear hX hsg HX hf hwr K0
      go_enter Tryz.func15, Tryz.ntmps15
      go_wp2_with (first | (go_at_call 37; refine HC.out.mono ?_; rintro r w1 ⟨c, k, rfl, hck, hb1⟩; have hcn : (c != 0) = false := (by simp only [bne, hck]; rfl)) | (go_at_call 38; refine (HW.out _ hb1).mono ?_; rintro r w2 ⟨rfl, hb2⟩; have u2 := hb1.trans (hb2.mono hb1.size)) | (go_at_call 39; refine (HUS.out w2 u2).mono ?_; rintro r w3 ⟨rfl, hw3⟩; have S3 := hidD (HS2.out w2 u2); rw [← hw3] at S3; clear hw3))
      have I0 := hidD (show VolOk fold L ∧ tryL fold 1099511627776 L (usedL L) l 0 = tryL fold 1099511627776 L (usedL L) (l.drop 0) 0 from ⟨HK0.out, by rw [List.drop_zero]⟩)
      have hvbs := u2.size
      clear HC HW hb1 hb2 u2 hcn hck HS2 HUS
      generalize hvb : w2.heap.size = vb at *
      go_loopw [14, 15] (fun mv iv wr => ∃ (k : Nat) (v : Value) (Lk : List EntD) (nd : Int), k ≤ l.length ∧ iv = .int .i64 k ∧ mv = .int .i64 nd ∧ 0 ≤ nd ∧ nd ≤ 12000 ∧ Hid (RSt w vb fold wr v Lk) ∧ Hid (VolOk fold Lk ∧ tryL fold 1099511627776 L (usedL L) l 0 = tryL fold 1099511627776 Lk nd (l.drop k) k)) (fun _ iv _ => l.length - (intOf iv).toNat)
      case atStart => exact ⟨0, _, _, _, Nat.zero_le _, rfl, rfl, hu1, hu2, S3, I0⟩
      case round =>
        clear S3 I0 hu1 hu2
        obtain ⟨k, v, Lk, nd, hk, rfl, rfl, hn1, hn2, S, I⟩ := hrel
        by_cases hlk : k < l.length
        · obtain ⟨b2, off2, rfl, _, hlb2, hops⟩ := op_parts HO.out hlk
          have hcw := (hops.below S.out.bel hlb2) k hlk
          have c0 : wr.cell? ⟨b2, off2 + k * 6, none⟩ = some (.int .i64 l[k].kind) := hcw 0 _ rfl
          have c1 := hcw 1 _ rfl
          have c2 := hcw 2 _ rfl
          have c3 := hcw 3 _ rfl
          have c4 := hcw 4 _ rfl
          have c5 := hcw 5 _ rfl
          have hok := HSG.out _ (List.getElem_mem hlk)
          have HTS := hidD (fun need => try_step (fold := fold) (space := 1099511627776) (L := Lk) (need := need) hlk)
          generalize l[k] = o at *
          clear hcw hops
          have HD := hidD (refDo (S.out.vm I.out.1) I.out.1 S.out.vol o (okOp_good hok))
          cases hd : doL fold 1099511627776 Lk o with
          | error n =>
            have hn : (n != 0) = true := by simpa using do_err hd
            have hXE : X = .error (n, (k : Int)) := by
              rw [← HX2.out, I.out.2, HTS.out, hd]
            have HXE := hidD hXE
            rw [hd] at HD
            unfold DoA at HD
            clear hXE hd HX2
            go_wp2_with (go_at_call 40; refine HD.out.mono ?_; rintro r w5 ⟨rfl, hb5⟩)
            refine bodyPost_ret (results_tmp4 rfl _ _ _) rfl ?_
            rw [HXE.out]
            exact ⟨rfl, (S.out.below hb5).bel⟩
          | ok M =>
            have KM := do_ok I.out.1 (okOp_good hok) hd
            have hum := used_le KM
            obtain ⟨hm1, hm2⟩ := hum
            have I2 := hidD (show VolOk fold M ∧ tryL fold 1099511627776 L (usedL L) l 0 = tryL fold 1099511627776 M (max nd (usedL M)) (l.drop (k + 1)) (k + 1) from ⟨KM, by rw [I.out.2, HTS.out, hd]⟩)
            have HKM := hidD KM
            rw [hd] at HD
            unfold DoA at HD
            clear hd KM HTS
            by_cases hgt : nd < usedL M
            · have HMX : Hid (max nd (usedL M) = usedL M) := by show max nd (usedL M) = usedL M; omega
              rw [HMX.out] at I2
              go_wp2_with (first | (go_at_call 40; refine HD.out.mono ?_; rintro r w5 ⟨rfl, v5, hk5, ho5, hg5⟩; have S5 := S.out.did hk5 ho5 hg5; have HU5 := hidD (refUsed (S5.vm HKM.out))) | (go_at_call 39; refine HU5.out.mono ?_; rintro r w6 ⟨rfl, rfl⟩))
              exact ⟨⟨k + 1, _, _, _, by omega, by go_num, rfl, hm1, hm2, hidD S5, I2⟩, by simp [intOf]; omega⟩
            · have HMX : Hid (max nd (usedL M) = nd) := by show max nd (usedL M) = nd; omega
              rw [HMX.out] at I2
              go_wp2_with (first | (go_at_call 40; refine HD.out.mono ?_; rintro r w5 ⟨rfl, v5, hk5, ho5, hg5⟩; have S5 := S.out.did hk5 ho5 hg5; have HU5 := hidD (refUsed (S5.vm HKM.out))) | (go_at_call 39; refine HU5.out.mono ?_; rintro r w6 ⟨rfl, rfl⟩))
              exact ⟨⟨k + 1, _, _, _, by omega, by go_num, rfl, hn1, hn2, hidD S5, I2⟩, by simp [intOf]; omega⟩
        · obtain rfl : k = l.length := by omega
          have hXE : X = .ok (Lk, nd) := by
            rw [← HX2.out, I.out.2, List.drop_length, tryL]
          have HXE := hidD hXE
          have c0 := S.out.vol.vol.c0
          clear hXE HX2
          go_wp2
          refine bodyPost_ret (results_tmp4 rfl _ _ _) rfl ?_
          rw [HXE.out]
          exact ⟨_, rfl, row_of S.out.bel S.out.cur, S.out.bel⟩
    · rw [if_pos hf] at hX
      have hwr : wrN (fwrong l 0) = (fwrong l 0).1 := by rw [wrN, hf]; rfl
      have hge : 0 ≤ (fwrong l 0).1 := fw_ge l 0 hf
      rw [hwr] at HW
      clear HX hf hwr
      generalize (fwrong l 0).1 = fa at *
      subst hX
      unfold RTryA
      go_enter Tryz.func15, Tryz.ntmps15
      go_wp2_with (first | (go_at_call 37; refine HC.out.mono ?_; rintro r w1 ⟨c, k, rfl, hck, hb1⟩; have hcn : (c != 0) = false := (by simp only [bne, hck]; rfl)) | (go_at_call 38; refine (HW.out _ hb1).mono ?_; rintro r w2 ⟨rfl, hb2⟩; have u2 := hb1.trans (hb2.mono hb1.size)))
      refine bodyPost_ret (results_tmp4 rfl _ _ _) rfl ?_
      exact ⟨rfl, u2⟩
end Go.Proofs.YtpjjagalekolaaaGreatDoor

