/- The program's Work with whatever budget, and the space that its trees take. -/
import Derived.Test.YtemkpollilhmjaaGreatDoorUNA
namespace Go.Proofs.YtemkpollilhmjaaGreatDoor
open Go.RowKit
set_option linter.unusedVariables false
set_option linter.unusedSimpArgs false

/-- How such a Work ends; and the trees that it came through took no more than the space. -/
def WorkES (fold : Bool) (space : Int) (S : List EntD) (l : List OpD) (V' : List EntD) (m d m' d' : Nat) (b e k : Int) : Prop :=
  WorkE fold space l V' m d m' d' b e k ∧ (usedL (wayT fold S l d) ≤ space → WayS fold S l space d d')
def WorkGS (T : TypeId) (w : World) (vb : Nat) (fold : Bool) (space : Int) (v : Value) (V S : List EntD) (l : List OpD) (m d : Nat) (b : Int) (r : Ending) (w' : World) : Prop :=
  ∃ (e k : Int) (m' d' : Nat) (v' : Value) (V' : List EntD), r = .returned (.tuple #[.int .i64 e, .int .i64 k]) ∧ WkSt T w vb fold space v V w' m' v' V' ∧ WkV fold (wayT fold S l) l V' m' d' ∧ d ≤ d' ∧ WorkES fold space S l V' m d m' d' b e k
theorem WayS.one {fold : Bool} {S : List EntD} {l : List OpD} {space : Int} {d : Nat} (h : usedL (wayT fold S l d) ≤ space) : WayS fold S l space d d := fun j h1 h2 => by
  obtain rfl : j = d := by omega
  exact h
theorem WayS.mark {fold : Bool} {S V : List EntD} {l : List OpD} {space : Int} {d0 m d m2 d2 : Nat} (h : WayS fold S l space d0 d) (I : WkV fold (wayT fold S l) l V m d) (I2 : WkV fold (wayT fold S l) l V m2 d2) (hm : m2 ≤ d + 1) (hd : d0 ≤ d) : WayS fold S l space d0 d2 := fun j h1 h2 => by
  by_cases hj : j ≤ d
  · exact h j h1 hj
  · have : d2 ≤ m2 := by rcases I2.at_ with ⟨e, _⟩ | ⟨e, _⟩ <;> omega
    obtain rfl : j = d2 := by omega
    rw [← I2.here.2.1, I.here.2.1]
    exact h d hd (Nat.le_refl _)
theorem WayS.did {fold : Bool} {S V : List EntD} {l : List OpD} {o : OpD} {space : Int} {d0 m d : Nat} (h : WayS fold S l space d0 d) (I : WkV fold (wayT fold S l) l V m d) (hd : doL fold space V o = .ok (wayT fold S l (d + 1))) (h0 : d0 ≤ d) : WayS fold S l space d0 (d + 1) := fun j h1 h2 => by
  by_cases hj : j ≤ d
  · exact h j h1 hj
  · obtain rfl : j = d + 1 := by omega
    refine do_used I.vol hd ?_
    rw [I.here.2.1]
    exact h d h0 (Nat.le_refl _)

set_option maxHeartbeats 8000000 in
set_option maxRecDepth 100000 in
theorem vWorkS {T : TypeId} {w : World} {vb : Nat} {v sv lv : Value} {V S : List EntD} {l : List OpD} {fold : Bool} {space : Int} {m d0 : Nat} (hT : 54 ≠ T) (hk : Vk T w vb v fold space [.string (marksB m)]) (hvb : 2 ≤ vb) (hr : RowAt w v V) (hst : WkV fold (wayT fold S l) l V m d0) (h0 : 0 ≤ space) (h1 : space ≤ 9223372036854775807) (hs : RowAt w sv S) (hS : SmallL S) (hg : Gd w) (ho : OpRow w lv l) (hl : l.length ≤ 2000000) (hos : ∀ o ∈ l, o.small) {mn : List EntD × Int} (hX : tryP fold 9223372036854775807 S l = .ok mn) (b : Int) (hbl : -1000000000 ≤ b) (hb2 : b ≤ 9223372036854775807) :
    Calls Tryz.prog 26 #[.pointer (some ⟨vb, 0, none⟩), sv, lv, .int .i64 b] w fun r w' => WorkGS T w vb fold space v V S l m d0 b r w' := by
  have c1 := hk.vol.c1
  have HC := hidD (vcourseW fold hs hS hg ho hl hos _ hX)
  unfold CrsW at HC
  obtain ⟨hl4, hok⟩ := try_ok hX
  have HOK := hidD hok
  have HK := hidD hk
  have HR := hidD hr
  have HG := hidD hg
  have HO := hidD ho
  have HOS := hidD hos
  have HI := hidD hst
  have hvlt := hk.lt
  obtain ⟨sa, sc, rfl⟩ := hs.val
  obtain ⟨la, lc, rfl⟩ := ho.val
  clear hs hS hg ho hos hr hk hX hok hst
  go_enter Tryz.func26, Tryz.ntmps26
  go_wp2_with (go_at_call 30; refine HC.out.mono ?_; clear HC; rintro r w1 ⟨g, cap, vs, rfl, hb1, hgg, hvl, hcell, hrows, hvok, hway⟩; have HCELL := hidD hcell; have HROWS := hidD hrows; have HVOK := hidD hvok; have HWAY := hidD hway; clear hcell hrows hvok hway)
  have HK1 := hidD (HK.out.below hb1 hvlt)
  have HR1 := hidD (HR.out.below hb1 (Nat.le_refl _))
  have HG1 := hidD (HG.out.below hb1)
  have HO1 := hidD (HO.out.below hb1 (Nat.le_refl _))
  have HB1 := hidD hb1
  have hvlt1 : vb < w1.heap.size := Nat.lt_of_lt_of_le hvlt hb1.size
  have hglt1 : g < w1.heap.size := by
    have := HCELL.out 0 (by omega)
    exact cell_lt this
  have hgne : g ≠ vb := by omega
  clear HR HG HO hb1
  have S0 := hidD (WkSt.start (V0 := V) HK1.out)
  have I0 := hidD (show WkV fold (wayT fold S l) l V m d0 ∧ d0 ≤ d0 ∧ muW l m d0 + b ≤ muW l m d0 + b ∧ (usedL (wayT fold S l d0) ≤ space → WayS fold S l space d0 d0) from ⟨HI.out, Nat.le_refl _, Int.le_refl _, fun h => WayS.one h⟩)
  have HFIN := hidD (fun (e k : Int) (m' d' : Nat) (v' : Value) (V' : List EntD) (w' : World) (hw : WkSt T w1 vb fold space v V w' m' v' V') (hv : WkV fold (wayT fold S l) l V' m' d') (hd : d0 ≤ d') (h2 : WorkES fold space S l V' m d0 m' d' b e k) => show WorkGS T w vb fold space v V S l m d0 b (.returned (.tuple #[.int .i64 e, .int .i64 k])) w' from ⟨e, k, m', d', v', V', rfl, hw.from_below HB1.out, hv, hd, h2⟩)
  clear HB1 HI
  have hb0 := hb2
  go_loopw [3] (fun bv wr => ∃ (b1 : Int) (m1 d1 : Nat) (v' : Value) (V' : List EntD), bv = .int .i64 b1 ∧ -1000000000 ≤ b1 ∧ b1 ≤ 9223372036854775807 ∧ Hid (WkSt T w1 vb fold space v V wr m1 v' V') ∧ Hid (WkV fold (wayT fold S l) l V' m1 d1 ∧ d0 ≤ d1 ∧ muW l m1 d1 + b ≤ muW l m d0 + b1 ∧ (usedL (wayT fold S l d0) ≤ space → WayS fold S l space d0 d1))) (fun bv _ => (intOf bv).toNat)
  case atStart => exact ⟨b, m, d0, v, V, rfl, hbl, hb2, S0, I0⟩
  case round =>
    clear S0 I0 hb2 hbl HK
    obtain ⟨b1, m1, d, v', V', rfl, hbl, hb2, SS, I⟩ := hrel
    have hml := I.out.1.mle
    obtain ⟨hdl, hVd, _⟩ := I.out.1.here
    have hr' := SS.out.rowAt HK1.out HR1.out
    have HD := hidD (vdone SS.out.vk hr' (by have := I.out.1.vol.few; omega) hml hl hvl (Nat.lt_of_lt_of_le hglt1 SS.out.gr.size) (fun j h => SS.out.gr.cell (HCELL.out j h) (by simpa using hgne)) (cap := cap) (fun j h => (HROWS.out j h).grown HK1.out (by simp) SS.out.gr))
    have HR' := hidD hr'
    have HVd := hidD hVd
    clear hr' hVd
    by_cases hdl2 : d = l.length
    · subst hdl2
      have hdI : ((l.length : Int) == (l.length : Int)) = true := by simp
      go_wp2_with (go_at_call 41; refine HD.out.mono ?_; rintro r w2 ⟨d', rfl, hd', hb2'⟩; obtain rfl := I.out.1.done hd'; clear hd')
      go_ret2
      exact HFIN.out 0 l.length m1 l.length v' V' _ (SS.out.below hb2') I.out.1 I.out.2.1 ⟨.inl ⟨rfl, rfl, rfl⟩, I.out.2.2.2⟩
    · have hlt : d < l.length := by omega
      have hdI : ((d : Int) == (l.length : Int)) = false := by simp; omega
      by_cases hbI : b1 ≤ 0
      · clear HR'
        go_wp2_with (go_at_call 41; refine HD.out.mono ?_; rintro r w2 ⟨d', rfl, hd', hb2'⟩; obtain rfl := I.out.1.done hd'; clear hd')
        go_ret2
        exact HFIN.out 17 0 m1 d v' V' _ (SS.out.below hb2') I.out.1 I.out.2.1 ⟨.inr (.inl ⟨rfl, rfl, hlt, by have := I.out.2.2.1; omega⟩), I.out.2.2.2⟩
      · obtain ⟨b2, off2, rfl, _, hlb2, hops⟩ := op_parts (HO1.out.grown HK1.out (by simp) SS.out.gr) hlt
        have hok := HOK.out _ (List.getElem_mem hlt)
        have hsm := HOS.out _ (List.getElem_mem hlt)
        have hstep := HWAY.out d hlt
        rw [← HVd.out] at hstep
        have HST := hidD hstep
        have HOPS := hidD (hops d hlt)
        have IE := hidD (fun (h : doL fold space V' l[d] = .error 11) => (⟨hlt, h⟩ : ∃ h : d < l.length, doL fold space V' l[d] = .error 11))
        have hops' := HOPS.out
        have hlb3 : b2 < wr.heap.size := hlb2
        generalize l[d] = o at *
        clear hops hstep hops'
        rcases I.out.1.at_ with ⟨hdm, _⟩ | ⟨hdm, hne, _⟩
        · -- the mark
          subst hdm
          obtain ⟨d2, I2, hd2, hmu⟩ := I.out.1.mark hlt
          have I3 := hidD (show WkV fold (wayT fold S l) l V' (d + 1) d2 ∧ d0 ≤ d2 ∧ muW l (d + 1) d2 + b ≤ muW l m d0 + (b1 - 1) ∧ (usedL (wayT fold S l d0) ≤ space → WayS fold S l space d0 d2) from ⟨I2, Nat.le_trans I.out.2.1 hd2, by have := I.out.2.2.1; omega, fun h => (I.out.2.2.2 h).mark I.out.1 I2 (Nat.le_refl _) I.out.2.1⟩)
          clear I2 hmu IE HST HR'
          go_wp2_with (first | (go_at_call 41; refine HD.out.mono ?_; rintro r w2 ⟨d', rfl, hd', hb2'⟩; obtain rfl := I.out.1.done hd'; clear hd'; have k0 := cell_kept hb2' hlb3 (HOPS.out 0 _ rfl); have k1 := cell_kept hb2' hlb3 (HOPS.out 1 _ rfl); have k2 := cell_kept hb2' hlb3 (HOPS.out 2 _ rfl); have k3 := cell_kept hb2' hlb3 (HOPS.out 3 _ rfl); have k4 := cell_kept hb2' hlb3 (HOPS.out 4 _ rfl); have k5 := cell_kept hb2' hlb3 (HOPS.out 5 _ rfl); simp only [Nat.add_zero] at k0) | (go_at_call 42; refine (step_mark (SS.out.below hb2').vk d o (Nat.le_refl _) (by omega)).mono ?_; rintro r w3 ⟨rfl, hk3, hg3⟩))
          exact ⟨⟨b1 - 1, d + 1, d2, v', V', by first | rfl | go_num, by omega, by omega, hidD ((SS.out.below hb2').mark hT hk3 hg3), I3⟩, by simp [intOf]; omega⟩
        · have hdm' : d < m1 := by omega
          subst hdm
          have HDO := hidD (fun (u : World) (hu : Below wr.heap.size wr u) => step_do (SS.out.below hu).vk (HR'.out.below hu (Nat.le_refl _)) I.out.1.vol ((HG1.out.grown SS.out.gr hvb).below hu) o hok hsm h0 h1 d hdm' (by omega))
          clear HR' hne
          rcases do_two (space := space) HST.out with hd | ⟨hd, _⟩
          · obtain ⟨I2, hmu⟩ := I.out.1.did (HVOK.out _ (by omega))
            have I3 := hidD (show WkV fold (wayT fold S l) l (wayT fold S l (d + 1)) (d + 1) (d + 1) ∧ d0 ≤ d + 1 ∧ muW l (d + 1) (d + 1) + b ≤ muW l m d0 + (b1 - 1) ∧ (usedL (wayT fold S l d0) ≤ space → WayS fold S l space d0 (d + 1)) from ⟨I2, Nat.le_trans I.out.2.1 (Nat.le_succ _), by have := I.out.2.2.1; omega, fun h => (I.out.2.2.2 h).did I.out.1 hd I.out.2.1⟩)
            rw [hd] at HDO
            unfold DoA at HDO
            clear hd IE HST I2 hmu
            generalize hM : wayT fold S l (d + 1) = M at *
            go_wp2_with (first | (go_at_call 41; refine HD.out.mono ?_; rintro r w2 ⟨d', rfl, hd', hb2'⟩; obtain rfl := I.out.1.done hd'; clear hd'; have k0 := cell_kept hb2' hlb3 (HOPS.out 0 _ rfl); have k1 := cell_kept hb2' hlb3 (HOPS.out 1 _ rfl); have k2 := cell_kept hb2' hlb3 (HOPS.out 2 _ rfl); have k3 := cell_kept hb2' hlb3 (HOPS.out 3 _ rfl); have k4 := cell_kept hb2' hlb3 (HOPS.out 4 _ rfl); have k5 := cell_kept hb2' hlb3 (HOPS.out 5 _ rfl); simp only [Nat.add_zero] at k0) | (go_at_call 42; refine (HDO.out _ hb2').mono ?_; rintro r w3 ⟨rfl, v3, hk3, ho3, hg3⟩))
            exact ⟨⟨b1 - 1, d + 1, d + 1, v3, M, by first | rfl | go_num, by omega, by omega, hidD ((SS.out.below hb2').did hk3 ho3 hg3), I3⟩, by simp [intOf]; omega⟩
          · have hF := IE.out hd
            have HF := hidD hF
            rw [hd] at HDO
            unfold DoA at HDO
            clear hd hF IE HST
            go_wp2_with (first | (go_at_call 41; refine HD.out.mono ?_; rintro r w2 ⟨d', rfl, hd', hb2'⟩; obtain rfl := I.out.1.done hd'; clear hd'; have k0 := cell_kept hb2' hlb3 (HOPS.out 0 _ rfl); have k1 := cell_kept hb2' hlb3 (HOPS.out 1 _ rfl); have k2 := cell_kept hb2' hlb3 (HOPS.out 2 _ rfl); have k3 := cell_kept hb2' hlb3 (HOPS.out 3 _ rfl); have k4 := cell_kept hb2' hlb3 (HOPS.out 4 _ rfl); have k5 := cell_kept hb2' hlb3 (HOPS.out 5 _ rfl); simp only [Nat.add_zero] at k0) | (go_at_call 42; refine (HDO.out _ hb2').mono ?_; rintro r w3 ⟨rfl, hb3⟩))
            go_ret2
            exact HFIN.out 11 d (d + 1) d v' V' _ ((SS.out.below hb2').below hb3) I.out.1 I.out.2.1 ⟨.inr (.inr ⟨rfl, rfl, rfl, HF.out⟩), I.out.2.2.2⟩
/-- What stands in the boxes behind the work. -/
structure WkRS (w : World) (B vb : Nat) (fold : Bool) (space : Int) (v : Value) (V S : List EntD) (l : List OpD) (m d : Nat) (b : Int) (u : World) (e k : Int) (m' d' : Nat) (v' : Value) (V' : List EntD) : Prop where
  st : WkSt 64 w vb fold space v V u m' v' V'
  ok : WkV fold (wayT fold S l) l V' m' d'
  said : d ≤ d' ∧ WorkES fold space S l V' m d m' d' b e k
  b4 : Boxed u (B + 4) 31 (.int .i64 e)
  b5 : Boxed u (B + 5) 3 (.int .i64 k)
  b6 : Boxed u (B + 6) 31 (.int .i64 0)
  b7 : Boxed u (B + 7) 3 (.int .i64 0)

set_option maxHeartbeats 4000000 in
set_option maxRecDepth 100000 in
theorem cWorkS {w : World} {vb : Nat} {v sv lv : Value} {V S : List EntD} {l : List OpD} {fold : Bool} {space : Int} {m d0 : Nat} (hk : Vk 64 w vb v fold space [.string (marksB m)]) (hvb : 2 ≤ vb) (hr : RowAt w v V) (hst : WkV fold (wayT fold S l) l V m d0) (h0 : 0 ≤ space) (h1 : space ≤ 9223372036854775807) (hs : RowAt w sv S) (hS : SmallL S) (hg : Gd w) (ho : OpRow w lv l) (hl : l.length ≤ 2000000) (hos : ∀ o ∈ l, o.small) {mn : List EntD × Int} (hX : tryP fold 9223372036854775807 S l = .ok mn) (b : Int) (hbl : -1000000000 ≤ b) (hb2 : b ≤ 9223372036854775807) :
    Calls Tryz.prog 16 #[.pointer (some ⟨vb, 0, none⟩), sv, lv, .int .i64 b] w fun r w' => WorkGS 64 w vb fold space v V S l m d0 b r w' := by
  have hlt := hk.lt
  have X8 := Bx8.of w vb sv lv b
  have HW : ∀ u', Below (wk8 w vb sv lv b).heap.size (wk8 w vb sv lv b) u' → Calls Tryz.prog 26 #[.pointer (some ⟨vb, 0, none⟩), sv, lv, .int .i64 b] u' fun r w' => ∃ e k : Int, r = .returned (.tuple #[.int .i64 e, .int .i64 k]) ∧ Boxed w' w.heap.size 46 (.pointer (some ⟨vb, 0, none⟩)) ∧ Boxed w' (w.heap.size + 1) 22 sv ∧ Boxed w' (w.heap.size + 2) 23 lv ∧ Boxed w' (w.heap.size + 3) 3 (.int .i64 b) ∧ Boxed w' (w.heap.size + 4) 31 (.int .i64 0) ∧ Boxed w' (w.heap.size + 5) 3 (.int .i64 0) ∧ (Boxed w' (w.heap.size + 6) 31 (.int .i64 0) ∧ Boxed w' (w.heap.size + 7) 3 (.int .i64 0) ∧ ∃ m' d' v' V', WkSt 64 w vb fold space v V w' m' v' V' ∧ WkV fold (wayT fold S l) l V' m' d' ∧ (d0 ≤ d' ∧ WorkES fold space S l V' m d0 m' d' b e k)) := by
    intro u' hu
    have hbw : Below w.heap.size w u' := X8.bel.trans (hu.mono X8.bel.size)
    refine (vWorkS (by decide) (hk.below hbw hlt) hvb (hr.below hbw (Nat.le_refl _)) hst h0 h1 (hs.below hbw (Nat.le_refl _)) hS (hg.below hbw) (ho.below hbw (Nat.le_refl _)) hl hos hX b hbl hb2).mono ?_
    rintro r w' ⟨e, k, m', d', v', V', rfl, st, ok, hdd, fin⟩
    have kp : ∀ {B : Nat} {t : TypeId} {x : Value}, Boxed (wk8 w vb sv lv b) B t x → w.heap.size ≤ B → Boxed w' B t x := fun h hB => (boxed_belowW h hu).kept st.gr (by simp; omega)
    exact ⟨e, k, rfl, kp X8.b0 (by omega), kp X8.b1 (by omega), kp X8.b2 (by omega), kp X8.b3 (by omega), kp X8.b4 (by omega), kp X8.b5 (by omega), kp X8.b6 (by omega), kp X8.b7 (by omega), m', d', v', V', st.from_below hbw, ok, hdd, fin⟩
  have H44 := work1 (fun e k w' => Boxed w' (w.heap.size + 6) 31 (.int .i64 0) ∧ Boxed w' (w.heap.size + 7) 3 (.int .i64 0) ∧ ∃ m' d' v' V', WkSt 64 w vb fold space v V w' m' v' V' ∧ WkV fold (wayT fold S l) l V' m' d' ∧ (d0 ≤ d' ∧ WorkES fold space S l V' m d0 m' d' b e k)) X8.b0 X8.b1 X8.b2 X8.b3 X8.b4 X8.b5 (by obtain ⟨a, c, e⟩ := hs.val; exact ⟨_, _, _, e⟩) (by obtain ⟨a, c, e⟩ := ho.val; exact ⟨_, _, _, e⟩) HW
  have h6 : (wk6 w vb sv lv b).heap.size = w.heap.size + 6 := by simp
  have HC := caughtW_ok ⟨w.heap.size, 0, none⟩ ⟨w.heap.size + 1, 0, none⟩ ⟨w.heap.size + 2, 0, none⟩ ⟨w.heap.size + 3, 0, none⟩ ⟨w.heap.size + 4, 0, none⟩ ⟨w.heap.size + 5, 0, none⟩ (wk6 w vb sv lv b) (fun u => ∃ e k m' d' v' V', WkRS w w.heap.size vb fold space v V S l m d0 b u e k m' d' v' V') (H44.mono (by
    rintro r w' ⟨rfl, e, k, w1, ⟨d6, d7, m', d', v', V', st, ok, said⟩, d4, d5, rfl⟩
    rw [h6]
    have g4 := gb_setW w1 (w.heap.size + 4) (.int .i64 e)
    have g5 := gb_setW (w1.setCell ⟨w.heap.size + 4, 0, none⟩ (.int .i64 e)) (w.heap.size + 5) (.int .i64 k)
    have b6 := (d6.kept g4 (by simp)).kept g5 (by simp)
    have b7 := (d7.kept g4 (by simp)).kept g5 (by simp)
    have b5 := d5.kept g4 (by simp)
    exact ⟨rfl, b6, b7, e, k, m', d', v', V', (st.box hlt d4 (by decide) (by omega) _).box hlt b5 (by decide) (by omega) _, ok, said, (d4.set _).kept g5 (by simp), b5.set _, b6, b7⟩)) (by
    rintro u ⟨e, k, m', d', v', V', R⟩
    rw [h6]
    have g6 := gb_setW u (w.heap.size + 6) (.int .i64 0)
    have g7 := gb_setW (u.setCell ⟨w.heap.size + 6, 0, none⟩ (.int .i64 0)) (w.heap.size + 6 + 1) (.int .i64 0)
    have b7 := R.b7.kept g6 (by simp)
    exact ⟨e, k, m', d', v', V', (R.st.box hlt R.b6 (by decide) (by omega) _).box hlt b7 (by decide) (by omega) _, R.ok, R.said, (R.b4.kept g6 (by simp)).kept g7 (by simp), (R.b5.kept g6 (by simp)).kept g7 (by simp), (R.b6.set _).kept g7 (by simp), b7.set _⟩)
  have HCC := hidD HC
  obtain ⟨sa, sc, rfl⟩ := hs.val
  obtain ⟨la, lc, rfl⟩ := ho.val
  clear HC H44 HW X8 hk hr hst hs hS hg ho hos h6 hX
  have hmf : ∀ (fn : Fn) (first cap : Array Value) (w : World), (Instr.makeFunc fn first cap).run Tryz.prog w = .ok (.func fn first cap) w := fun _ _ _ _ => rfl
  go_enter Tryz.func16, Tryz.ntmps16
  go_wp2_with (go_at_call 24; refine HCC.out.mono ?_; rintro r w1 ⟨rfl, e, k, m', d', v', V', R⟩; have k4 := R.b4.cell; have k5 := R.b5.cell)
  go_quiet (fail)
  go_wp2
  go_ret2
  exact ⟨e, k, m', d', v', V', rfl, R.st.below (below_drewE _ _), R.ok, R.said.1, R.said.2⟩
end Go.Proofs.YtemkpollilhmjaaGreatDoor
