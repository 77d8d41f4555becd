/- WM, WN, HJ: in one text. -/
import Derived.Test.YtpjjagalekolaaaGreatDoorY34
import Derived.Test.YtpjjagalekolaaaGreatDoorY14
import Derived.Test.YtpjjagalekolaaaGreatDoorY28
import Derived.Test.YtpjjagalekolaaaGreatDoorY16FJ
/- The program's Work on a volume with whatever budget, where the script goes and the volume stands somewhere on its way. -/
namespace Go.Proofs.YtpjjagalekolaaaGreatDoor
open Go.RowKit
set_option linter.unusedVariables false
set_option linter.unusedSimpArgs false

/-- A volume on the way of a script: so many operations done, so many marks. -/
structure WkV (fold : Bool) (W : Nat → List EntD) (l : List OpD) (V : List EntD) (m d : Nat) : Prop where
  vol : VolOk fold V
  mle : m ≤ l.length
  at_ : (d = m ∧ V = W m) ∨ (d + 1 = m ∧ V ≠ W m ∧ V = W d)
/-- How much is left to do: a step takes one off. -/
def muW (l : List OpD) (m d : Nat) : Int := 2 * ((l.length : Int) - m) + (if d = m then 1 else 2)
theorem WkV.here {fold : Bool} {W : Nat → List EntD} {l : List OpD} {V : List EntD} {m d : Nat} (h : WkV fold W l V m d) : d ≤ l.length ∧ V = W d ∧ 1 ≤ muW l m d := by
  have := h.mle
  unfold muW
  rcases h.at_ with ⟨h1, h2⟩ | ⟨h1, h2, h3⟩
  · rw [if_pos h1]
    exact ⟨by omega, by rw [h1]; exact h2, by omega⟩
  · rw [if_neg (by omega)]
    exact ⟨by omega, h3, by omega⟩
theorem WkV.done {fold : Bool} {W : Nat → List EntD} {l : List OpD} {V : List EntD} {m d : Nat} (h : WkV fold W l V m d) {d' : Int} (hd : DoneAt V W m d') : d' = d := by
  rcases h.at_ with ⟨h1, h2⟩ | ⟨h1, h2, h3⟩
  · rcases hd with ⟨_, e⟩ | ⟨e, _⟩ | ⟨e, _⟩
    · rw [e, h1]
    · exact absurd h2 e
    · exact absurd h2 e
  · have hm1 : m - 1 = d := by omega
    rcases hd with ⟨e, _⟩ | ⟨_, _, _, e⟩ | ⟨_, e, _⟩
    · exact absurd e h2
    · rw [e]; omega
    · exact absurd (by rw [hm1]; exact h3) (e (by omega))
theorem WkV.mark {fold : Bool} {W : Nat → List EntD} {l : List OpD} {V : List EntD} {m : Nat} (h : WkV fold W l V m m) (hm : m < l.length) : ∃ d, WkV fold W l V (m + 1) d ∧ m ≤ d ∧ muW l (m + 1) d + 1 ≤ muW l m m := by
  have hV : V = W m := h.here.2.1
  unfold muW
  by_cases he : V = W (m + 1)
  · exact ⟨m + 1, ⟨h.vol, by omega, .inl ⟨rfl, he⟩⟩, by omega, by rw [if_pos rfl, if_pos rfl]; omega⟩
  · exact ⟨m, ⟨h.vol, by omega, .inr ⟨rfl, he, hV⟩⟩, by omega, by rw [if_neg (by omega), if_pos rfl]; omega⟩
theorem WkV.did {fold : Bool} {W : Nat → List EntD} {l : List OpD} {V : List EntD} {d : Nat} (h : WkV fold W l V (d + 1) d) (K : VolOk fold (W (d + 1))) : WkV fold W l (W (d + 1)) (d + 1) (d + 1) ∧ muW l (d + 1) (d + 1) + 1 ≤ muW l (d + 1) d := by
  unfold muW
  exact ⟨⟨K, h.mle, .inl ⟨rfl, rfl⟩⟩, by rw [if_pos rfl, if_neg (by omega)]; omega⟩

/-- How such a Work ends: all is done; or the budget is spent; or an operation lacks space. -/
def WorkE (fold : Bool) (space : Int) (l : List OpD) (V' : List EntD) (m d m' d' : Nat) (b e k : Int) : Prop :=
  (e = 0 ∧ k = l.length ∧ d' = l.length) ∨ (e = 17 ∧ k = 0 ∧ d' < l.length ∧ muW l m' d' + b ≤ muW l m d) ∨ (e = 11 ∧ k = d' ∧ m' = d' + 1 ∧ ∃ h : d' < l.length, doL fold space V' l[d'] = .error 11)
def WorkG (T : TypeId) (w : World) (vb : Nat) (fold : Bool) (space : Int) (v : Value) (V S : List EntD) (l : List OpD) (m d : Nat) (b : Int) (r : Ending) (w' : World) : Prop :=
  ∃ (e k : Int) (m' d' : Nat) (v' : Value) (V' : List EntD), r = .returned (.tuple #[.int .i64 e, .int .i64 k]) ∧ WkSt T w vb fold space v V w' m' v' V' ∧ WkV fold (wayT fold S l) l V' m' d' ∧ d ≤ d' ∧ WorkE fold space l V' m d m' d' b e k

set_option maxHeartbeats 8000000 in
set_option maxRecDepth 100000 in
theorem vWorkG {T : TypeId} {w : World} {vb : Nat} {v sv lv : Value} {V S : List EntD} {l : List OpD} {fold : Bool} {space : Int} {m d0 : Nat} (hT : 56 ≠ T) (hk : Vk T w vb v fold space [.string (marksB m)]) (hvb : 2 ≤ vb) (hr : RowAt w v V) (hst : WkV fold (wayT fold S l) l V m d0) (h0 : 0 ≤ space) (h1 : space ≤ 9223372036854775807) (hs : RowAt w sv S) (hS : SmallL S) (hg : Gd w) (ho : OpRow w lv l) (hl : l.length ≤ 2000000) (hos : ∀ o ∈ l, o.small) {mn : List EntD × Int} (hX : tryP fold 9223372036854775807 S l = .ok mn) (b : Int) (hbl : -1000000000 ≤ b) (hb2 : b ≤ 9223372036854775807) :
    Calls Tryz.prog 77 #[.pointer (some ⟨vb, 0, none⟩), sv, lv, .int .i64 b] w fun r w' => WorkG T w vb fold space v V S l m d0 b r w' := by
  have c1 := hk.vol.c1
  have HC := hidD (vcourseW fold hs hS hg ho hl hos _ hX)
  unfold CrsW at HC
  obtain ⟨hl4, hok⟩ := try_ok hX
  have HOK := hidD hok
  have HK := hidD hk
  have HR := hidD hr
  have HG := hidD hg
  have HO := hidD ho
  have HOS := hidD hos
  have HI := hidD hst
  have hvlt := hk.lt
  obtain ⟨sa, sc, rfl⟩ := hs.val
  obtain ⟨la, lc, rfl⟩ := ho.val
  clear hs hS hg ho hos hr hk hX hok hst
  go_enter Tryz.func77, Tryz.ntmps77
  go_wp2_with (go_at_call 68; refine HC.out.mono ?_; clear HC; rintro r w1 ⟨g, cap, vs, rfl, hb1, hgg, hvl, hcell, hrows, hvok, hway⟩; have HCELL := hidD hcell; have HROWS := hidD hrows; have HVOK := hidD hvok; have HWAY := hidD hway; clear hcell hrows hvok hway)
  have HK1 := hidD (HK.out.below hb1 hvlt)
  have HR1 := hidD (HR.out.below hb1 (Nat.le_refl _))
  have HG1 := hidD (HG.out.below hb1)
  have HO1 := hidD (HO.out.below hb1 (Nat.le_refl _))
  have HB1 := hidD hb1
  have hvlt1 : vb < w1.heap.size := Nat.lt_of_lt_of_le hvlt hb1.size
  have hglt1 : g < w1.heap.size := by
    have := HCELL.out 0 (by omega)
    exact cell_lt this
  have hgne : g ≠ vb := by omega
  clear HR HG HO hb1
  have S0 := hidD (WkSt.start (V0 := V) HK1.out)
  have I0 := hidD (show WkV fold (wayT fold S l) l V m d0 ∧ d0 ≤ d0 ∧ muW l m d0 + b ≤ muW l m d0 + b from ⟨HI.out, Nat.le_refl _, Int.le_refl _⟩)
  have HFIN := hidD (fun (e k : Int) (m' d' : Nat) (v' : Value) (V' : List EntD) (w' : World) (hw : WkSt T w1 vb fold space v V w' m' v' V') (hv : WkV fold (wayT fold S l) l V' m' d') (hd : d0 ≤ d') (h2 : WorkE fold space l V' m d0 m' d' b e k) => show WorkG T w vb fold space v V S l m d0 b (.returned (.tuple #[.int .i64 e, .int .i64 k])) w' from ⟨e, k, m', d', v', V', rfl, hw.from_below HB1.out, hv, hd, h2⟩)
  clear HB1 HI
  have hb0 := hb2
  go_loopw [3] (fun bv wr => ∃ (b1 : Int) (m1 d1 : Nat) (v' : Value) (V' : List EntD), bv = .int .i64 b1 ∧ -1000000000 ≤ b1 ∧ b1 ≤ 9223372036854775807 ∧ Hid (WkSt T w1 vb fold space v V wr m1 v' V') ∧ Hid (WkV fold (wayT fold S l) l V' m1 d1 ∧ d0 ≤ d1 ∧ muW l m1 d1 + b ≤ muW l m d0 + b1)) (fun bv _ => (intOf bv).toNat)
  case atStart => exact ⟨b, m, d0, v, V, rfl, hbl, hb2, S0, I0⟩
  case round =>
    clear S0 I0 hb2 hbl HK
    obtain ⟨b1, m1, d, v', V', rfl, hbl, hb2, SS, I⟩ := hrel
    have hml := I.out.1.mle
    obtain ⟨hdl, hVd, _⟩ := I.out.1.here
    have hr' := SS.out.rowAt HK1.out HR1.out
    have HD := hidD (vdone SS.out.vk hr' (by have := I.out.1.vol.few; omega) hml hl hvl (Nat.lt_of_lt_of_le hglt1 SS.out.gr.size) (fun j h => SS.out.gr.cell (HCELL.out j h) (by simpa using hgne)) (cap := cap) (fun j h => (HROWS.out j h).grown HK1.out (by simp) SS.out.gr))
    have HR' := hidD hr'
    have HVd := hidD hVd
    clear hr' hVd
    by_cases hdl2 : d = l.length
    · subst hdl2
      have hdI : ((l.length : Int) == (l.length : Int)) = true := by simp
      go_wp2_with (go_at_call 129; refine HD.out.mono ?_; rintro r w2 ⟨d', rfl, hd', hb2'⟩; obtain rfl := I.out.1.done hd'; clear hd')
      go_ret2
      exact HFIN.out 0 l.length m1 l.length v' V' _ (SS.out.below hb2') I.out.1 I.out.2.1 (.inl ⟨rfl, rfl, rfl⟩)
    · have hlt : d < l.length := by omega
      have hdI : ((d : Int) == (l.length : Int)) = false := by simp; omega
      by_cases hbI : b1 ≤ 0
      · clear HR'
        go_wp2_with (go_at_call 129; refine HD.out.mono ?_; rintro r w2 ⟨d', rfl, hd', hb2'⟩; obtain rfl := I.out.1.done hd'; clear hd')
        go_ret2
        exact HFIN.out 17 0 m1 d v' V' _ (SS.out.below hb2') I.out.1 I.out.2.1 (.inr (.inl ⟨rfl, rfl, hlt, by have := I.out.2.2; omega⟩))
      · obtain ⟨b2, off2, rfl, _, hlb2, hops⟩ := op_parts (HO1.out.grown HK1.out (by simp) SS.out.gr) hlt
        have hok := HOK.out _ (List.getElem_mem hlt)
        have hsm := HOS.out _ (List.getElem_mem hlt)
        have hstep := HWAY.out d hlt
        rw [← HVd.out] at hstep
        have HST := hidD hstep
        have HOPS := hidD (hops d hlt)
        have IE := hidD (fun (h : doL fold space V' l[d] = .error 11) => (⟨hlt, h⟩ : ∃ h : d < l.length, doL fold space V' l[d] = .error 11))
        have hops' := HOPS.out
        have hlb3 : b2 < wr.heap.size := hlb2
        generalize l[d] = o at *
        clear hops hstep hops'
        rcases I.out.1.at_ with ⟨hdm, _⟩ | ⟨hdm, hne, _⟩
        · -- the mark
          subst hdm
          obtain ⟨d2, I2, hd2, hmu⟩ := I.out.1.mark hlt
          have I3 := hidD (show WkV fold (wayT fold S l) l V' (d + 1) d2 ∧ d0 ≤ d2 ∧ muW l (d + 1) d2 + b ≤ muW l m d0 + (b1 - 1) from ⟨I2, Nat.le_trans I.out.2.1 hd2, by have := I.out.2.2; omega⟩)
          clear I2 hmu IE HST HR'
          go_wp2_with (first | (go_at_call 129; refine HD.out.mono ?_; rintro r w2 ⟨d', rfl, hd', hb2'⟩; obtain rfl := I.out.1.done hd'; clear hd'; have k0 := cell_kept hb2' hlb3 (HOPS.out 0 _ rfl); have k1 := cell_kept hb2' hlb3 (HOPS.out 1 _ rfl); have k2 := cell_kept hb2' hlb3 (HOPS.out 2 _ rfl); have k3 := cell_kept hb2' hlb3 (HOPS.out 3 _ rfl); have k4 := cell_kept hb2' hlb3 (HOPS.out 4 _ rfl); have k5 := cell_kept hb2' hlb3 (HOPS.out 5 _ rfl); simp only [Nat.add_zero] at k0) | (go_at_call 130; refine (step_mark (SS.out.below hb2').vk d o (Nat.le_refl _) (by omega)).mono ?_; rintro r w3 ⟨rfl, hk3, hg3⟩))
          exact ⟨⟨b1 - 1, d + 1, d2, v', V', by first | rfl | go_num, by omega, by omega, hidD ((SS.out.below hb2').mark hT hk3 hg3), I3⟩, by simp [intOf]; omega⟩
        · have hdm' : d < m1 := by omega
          subst hdm
          have HDO := hidD (fun (u : World) (hu : Below wr.heap.size wr u) => step_do (SS.out.below hu).vk (HR'.out.below hu (Nat.le_refl _)) I.out.1.vol ((HG1.out.grown SS.out.gr hvb).below hu) o hok hsm h0 h1 d hdm' (by omega))
          clear HR' hne
          rcases do_two (space := space) HST.out with hd | ⟨hd, _⟩
          · obtain ⟨I2, hmu⟩ := I.out.1.did (HVOK.out _ (by omega))
            have I3 := hidD (show WkV fold (wayT fold S l) l (wayT fold S l (d + 1)) (d + 1) (d + 1) ∧ d0 ≤ d + 1 ∧ muW l (d + 1) (d + 1) + b ≤ muW l m d0 + (b1 - 1) from ⟨I2, Nat.le_trans I.out.2.1 (Nat.le_succ _), by have := I.out.2.2; omega⟩)
            rw [hd] at HDO
            unfold DoA at HDO
            clear hd IE HST I2 hmu
            generalize hM : wayT fold S l (d + 1) = M at *
            go_wp2_with (first | (go_at_call 129; refine HD.out.mono ?_; rintro r w2 ⟨d', rfl, hd', hb2'⟩; obtain rfl := I.out.1.done hd'; clear hd'; have k0 := cell_kept hb2' hlb3 (HOPS.out 0 _ rfl); have k1 := cell_kept hb2' hlb3 (HOPS.out 1 _ rfl); have k2 := cell_kept hb2' hlb3 (HOPS.out 2 _ rfl); have k3 := cell_kept hb2' hlb3 (HOPS.out 3 _ rfl); have k4 := cell_kept hb2' hlb3 (HOPS.out 4 _ rfl); have k5 := cell_kept hb2' hlb3 (HOPS.out 5 _ rfl); simp only [Nat.add_zero] at k0) | (go_at_call 130; refine (HDO.out _ hb2').mono ?_; rintro r w3 ⟨rfl, v3, hk3, ho3, hg3⟩))
            exact ⟨⟨b1 - 1, d + 1, d + 1, v3, M, by first | rfl | go_num, by omega, by omega, hidD ((SS.out.below hb2').did hk3 ho3 hg3), I3⟩, by simp [intOf]; omega⟩
          · have hF := IE.out hd
            have HF := hidD hF
            rw [hd] at HDO
            unfold DoA at HDO
            clear hd hF IE HST
            go_wp2_with (first | (go_at_call 129; refine HD.out.mono ?_; rintro r w2 ⟨d', rfl, hd', hb2'⟩; obtain rfl := I.out.1.done hd'; clear hd'; have k0 := cell_kept hb2' hlb3 (HOPS.out 0 _ rfl); have k1 := cell_kept hb2' hlb3 (HOPS.out 1 _ rfl); have k2 := cell_kept hb2' hlb3 (HOPS.out 2 _ rfl); have k3 := cell_kept hb2' hlb3 (HOPS.out 3 _ rfl); have k4 := cell_kept hb2' hlb3 (HOPS.out 4 _ rfl); have k5 := cell_kept hb2' hlb3 (HOPS.out 5 _ rfl); simp only [Nat.add_zero] at k0) | (go_at_call 130; refine (HDO.out _ hb2').mono ?_; rintro r w3 ⟨rfl, hb3⟩))
            go_ret2
            exact HFIN.out 11 d (d + 1) d v' V' _ ((SS.out.below hb2').below hb3) I.out.1 I.out.2.1 (.inr (.inr ⟨rfl, rfl, rfl, HF.out⟩))
end Go.Proofs.YtpjjagalekolaaaGreatDoor

/- Work at the face, with whatever budget. -/
namespace Go.Proofs.YtpjjagalekolaaaGreatDoor
open Go.RowKit
set_option linter.unusedVariables false
set_option linter.unusedSimpArgs false

/-- What stands in the boxes behind the work. -/
structure WkRG (w : World) (B vb : Nat) (fold : Bool) (space : Int) (v : Value) (V S : List EntD) (l : List OpD) (m d : Nat) (b : Int) (u : World) (e k : Int) (m' d' : Nat) (v' : Value) (V' : List EntD) : Prop where
  st : WkSt 89 w vb fold space v V u m' v' V'
  ok : WkV fold (wayT fold S l) l V' m' d'
  said : d ≤ d' ∧ WorkE fold space l V' m d m' d' b e k
  b4 : Boxed u (B + 4) 34 (.int .i64 e)
  b5 : Boxed u (B + 5) 3 (.int .i64 k)
  b6 : Boxed u (B + 6) 34 (.int .i64 0)
  b7 : Boxed u (B + 7) 3 (.int .i64 0)

set_option maxHeartbeats 4000000 in
set_option maxRecDepth 100000 in
theorem cWorkG {w : World} {vb : Nat} {v sv lv : Value} {V S : List EntD} {l : List OpD} {fold : Bool} {space : Int} {m d0 : Nat} (hk : Vk 89 w vb v fold space [.string (marksB m)]) (hvb : 2 ≤ vb) (hr : RowAt w v V) (hst : WkV fold (wayT fold S l) l V m d0) (h0 : 0 ≤ space) (h1 : space ≤ 9223372036854775807) (hs : RowAt w sv S) (hS : SmallL S) (hg : Gd w) (ho : OpRow w lv l) (hl : l.length ≤ 2000000) (hos : ∀ o ∈ l, o.small) {mn : List EntD × Int} (hX : tryP fold 9223372036854775807 S l = .ok mn) (b : Int) (hbl : -1000000000 ≤ b) (hb2 : b ≤ 9223372036854775807) :
    Calls Tryz.prog 48 #[.pointer (some ⟨vb, 0, none⟩), sv, lv, .int .i64 b] w fun r w' => WorkG 89 w vb fold space v V S l m d0 b r w' := by
  have hlt := hk.lt
  have X8 := Bx8.of w vb sv lv b
  have HW : ∀ u', Below (wk8 w vb sv lv b).heap.size (wk8 w vb sv lv b) u' → Calls Tryz.prog 77 #[.pointer (some ⟨vb, 0, none⟩), sv, lv, .int .i64 b] u' fun r w' => ∃ e k : Int, r = .returned (.tuple #[.int .i64 e, .int .i64 k]) ∧ Boxed w' w.heap.size 50 (.pointer (some ⟨vb, 0, none⟩)) ∧ Boxed w' (w.heap.size + 1) 22 sv ∧ Boxed w' (w.heap.size + 2) 33 lv ∧ Boxed w' (w.heap.size + 3) 3 (.int .i64 b) ∧ Boxed w' (w.heap.size + 4) 34 (.int .i64 0) ∧ Boxed w' (w.heap.size + 5) 3 (.int .i64 0) ∧ (Boxed w' (w.heap.size + 6) 34 (.int .i64 0) ∧ Boxed w' (w.heap.size + 7) 3 (.int .i64 0) ∧ ∃ m' d' v' V', WkSt 89 w vb fold space v V w' m' v' V' ∧ WkV fold (wayT fold S l) l V' m' d' ∧ (d0 ≤ d' ∧ WorkE fold space l V' m d0 m' d' b e k)) := by
    intro u' hu
    have hbw : Below w.heap.size w u' := X8.bel.trans (hu.mono X8.bel.size)
    refine (vWorkG (by decide) (hk.below hbw hlt) hvb (hr.below hbw (Nat.le_refl _)) hst h0 h1 (hs.below hbw (Nat.le_refl _)) hS (hg.below hbw) (ho.below hbw (Nat.le_refl _)) hl hos hX b hbl hb2).mono ?_
    rintro r w' ⟨e, k, m', d', v', V', rfl, st, ok, hdd, fin⟩
    have kp : ∀ {B : Nat} {t : TypeId} {x : Value}, Boxed (wk8 w vb sv lv b) B t x → w.heap.size ≤ B → Boxed w' B t x := fun h hB => (boxed_belowW h hu).kept st.gr (by simp; omega)
    exact ⟨e, k, rfl, kp X8.b0 (by omega), kp X8.b1 (by omega), kp X8.b2 (by omega), kp X8.b3 (by omega), kp X8.b4 (by omega), kp X8.b5 (by omega), kp X8.b6 (by omega), kp X8.b7 (by omega), m', d', v', V', st.from_below hbw, ok, hdd, fin⟩
  have H44 := work1 (fun e k w' => Boxed w' (w.heap.size + 6) 34 (.int .i64 0) ∧ Boxed w' (w.heap.size + 7) 3 (.int .i64 0) ∧ ∃ m' d' v' V', WkSt 89 w vb fold space v V w' m' v' V' ∧ WkV fold (wayT fold S l) l V' m' d' ∧ (d0 ≤ d' ∧ WorkE fold space l V' m d0 m' d' b e k)) X8.b0 X8.b1 X8.b2 X8.b3 X8.b4 X8.b5 (by obtain ⟨a, c, e⟩ := hs.val; exact ⟨_, _, _, e⟩) (by obtain ⟨a, c, e⟩ := ho.val; exact ⟨_, _, _, e⟩) HW
  have h6 : (wk6 w vb sv lv b).heap.size = w.heap.size + 6 := by simp
  have HC := caughtW_ok ⟨w.heap.size, 0, none⟩ ⟨w.heap.size + 1, 0, none⟩ ⟨w.heap.size + 2, 0, none⟩ ⟨w.heap.size + 3, 0, none⟩ ⟨w.heap.size + 4, 0, none⟩ ⟨w.heap.size + 5, 0, none⟩ (wk6 w vb sv lv b) (fun u => ∃ e k m' d' v' V', WkRG w w.heap.size vb fold space v V S l m d0 b u e k m' d' v' V') (H44.mono (by
    rintro r w' ⟨rfl, e, k, w1, ⟨d6, d7, m', d', v', V', st, ok, said⟩, d4, d5, rfl⟩
    rw [h6]
    have g4 := gb_setW w1 (w.heap.size + 4) (.int .i64 e)
    have g5 := gb_setW (w1.setCell ⟨w.heap.size + 4, 0, none⟩ (.int .i64 e)) (w.heap.size + 5) (.int .i64 k)
    have b6 := (d6.kept g4 (by simp)).kept g5 (by simp)
    have b7 := (d7.kept g4 (by simp)).kept g5 (by simp)
    have b5 := d5.kept g4 (by simp)
    exact ⟨rfl, b6, b7, e, k, m', d', v', V', (st.box hlt d4 (by decide) (by omega) _).box hlt b5 (by decide) (by omega) _, ok, said, (d4.set _).kept g5 (by simp), b5.set _, b6, b7⟩)) (by
    rintro u ⟨e, k, m', d', v', V', R⟩
    rw [h6]
    have g6 := gb_setW u (w.heap.size + 6) (.int .i64 0)
    have g7 := gb_setW (u.setCell ⟨w.heap.size + 6, 0, none⟩ (.int .i64 0)) (w.heap.size + 6 + 1) (.int .i64 0)
    have b7 := R.b7.kept g6 (by simp)
    exact ⟨e, k, m', d', v', V', (R.st.box hlt R.b6 (by decide) (by omega) _).box hlt b7 (by decide) (by omega) _, R.ok, R.said, (R.b4.kept g6 (by simp)).kept g7 (by simp), (R.b5.kept g6 (by simp)).kept g7 (by simp), (R.b6.set _).kept g7 (by simp), b7.set _⟩)
  have HCC := hidD HC
  obtain ⟨sa, sc, rfl⟩ := hs.val
  obtain ⟨la, lc, rfl⟩ := ho.val
  clear HC H44 HW X8 hk hr hst hs hS hg ho hos h6 hX
  have hmf : ∀ (fn : Fn) (first cap : Array Value) (w : World), (Instr.makeFunc fn first cap).run Tryz.prog w = .ok (.func fn first cap) w := fun _ _ _ _ => rfl
  go_enter Tryz.func48, Tryz.ntmps48
  go_wp2_with (go_at_call 51; refine HCC.out.mono ?_; rintro r w1 ⟨rfl, e, k, m', d', v', V', R⟩; have k4 := R.b4.cell; have k5 := R.b5.cell)
  go_quiet (fail)
  go_wp2
  go_ret2
  exact ⟨e, k, m', d', v', V', rfl, R.st.below (below_drewE _ _), R.ok, R.said.1, R.said.2⟩
end Go.Proofs.YtpjjagalekolaaaGreatDoor

/- The program and the reference let a volume hold the same lists. No program in this text. -/
namespace Go.Proofs.YtpjjagalekolaaaGreatDoor
open Go.RowKit
set_option linter.unusedVariables false
set_option linter.unusedSimpArgs false

/-- What both looks ask, the name and folding aside. -/
def RefCore (l : List EntD) (i : Nat) (e : EntD) : Prop :=
  fieldsB e = true ∧ (0 < i → cmpL ((l[i - 1]?.map (·.path.data.toList)).getD []) e.path.data.toList < 0) ∧ upB (l.take i) (parentB e.path) = true ∧ twiceB (l.take i) e = false ∧ sizeB (l.take i) e = false

theorem chk_core (l : List EntD) (A : ∀ (k : Nat) (h : k < l.length), entErr l k l[k] false = 0) : ∀ (k : Nat) (h : k < l.length), RefCore l k l[k] := by
  have ord := order_of_steps l (fun i hi => by
    have := ((entErr_zero _ _ _).1 (A (i + 1) hi)).2.1 (by omega)
    rw [prev_at l i hi] at this
    exact (cmpL_key _ _).1.1 this)
  intro k hk
  have he := A k hk
  obtain ⟨hf, ho, hpar, hoth⟩ := (entErr_zero _ _ _).1 he
  refine ⟨hf, ho, ?_, ?_, ?_⟩
  · unfold hasParB at hpar
    unfold upB
    rw [parentB_eq]
    rw [par_toList, parentB_eq] at hpar
    by_cases h0 : parentL l[k].path.data.toList = []
    · rw [h0]; simp
    · rw [if_neg (by simpa using h0)] at hpar
      cases hfd : l.find? (fun o => sameB false o.path.data.toList (parentL l[k].path.data.toList)) with
      | none => rw [hfd] at hpar; cases hpar
      | some o =>
        rw [hfd] at hpar
        obtain ⟨hpr, j, hj, hjo, _⟩ := List.find?_eq_some_iff_getElem.1 hfd
        have hpe : o.path.data.toList = parentL l[k].path.data.toList := by simpa [sameB] using hpr
        have hlt := parentL_lt _ h0
        have hjk : j < k := by
          rcases Nat.lt_trichotomy j k with h1 | h1 | h1
          · exact h1
          · exfalso
            subst h1
            rw [hjo] at hlt
            rw [hjo] at hpe
            rw [← hpe] at hlt
            exact List.lt_irrefl _ hlt
          · exfalso
            have := ord k j hk hj h1
            rw [hjo, hpe] at this
            exact List.lt_irrefl _ (List.lt_trans this hlt)
        rw [Bool.or_eq_true, List.any_eq_true]
        exact .inr ⟨o, hjo ▸ mem_take l k j hj hjk, by simp [hpar, hpe]⟩
  · cases ht : twiceB (l.take k) l[k] with
    | false => rfl
    | true =>
      exfalso
      unfold twiceB at ht
      obtain ⟨o, ho, hp⟩ := List.any_eq_true.1 ht
      obtain ⟨j, hj, hjk, hjo⟩ := of_mem_take l k o ho
      have := ord j k hj hk hjk
      rw [hjo, eq_of_beq hp] at this
      exact List.lt_irrefl _ this
  · cases ht : sizeB (l.take k) l[k] with
    | false => rfl
    | true =>
      exfalso
      unfold sizeB at ht
      obtain ⟨o, ho, hp⟩ := List.any_eq_true.1 ht
      have : otherB (l.take k) l[k] = true := by
        unfold otherB
        rw [List.any_eq_true]
        refine ⟨o, ho, ?_⟩
        simp only [Bool.and_eq_true] at hp
        simp only [Bool.and_eq_true]
        exact ⟨hp.1.2, hp.2⟩
      rw [hoth] at this; cases this

theorem core_chk (l : List EntD) (A : ∀ (k : Nat) (h : k < l.length), RefCore l k l[k]) : ∀ (k : Nat) (h : k < l.length), entErr l k l[k] false = 0 := by
  have ord := order_of_steps l (fun i hi => by
    have := (A (i + 1) hi).2.1 (by omega)
    rw [prev_at l i hi] at this
    exact (cmpL_key _ _).1.1 this)
  intro k hk
  obtain ⟨hf, ho, hup, htw, hsz⟩ := A k hk
  refine (entErr_zero _ _ _).2 ⟨hf, ho, ?_, ?_⟩
  · unfold hasParB
    unfold upB at hup
    rw [par_toList, parentB_eq]
    rw [parentB_eq] at hup
    by_cases h0 : parentL l[k].path.data.toList = []
    · rw [h0]; simp
    · rw [if_neg (by simpa using h0)]
      rw [Bool.or_eq_true, List.any_eq_true] at hup
      rcases hup with hup | ⟨o, ho1, ho2⟩
      · exact absurd (eq_of_beq hup) h0
      · obtain ⟨j, hj, hjk, hjo⟩ := of_mem_take l k o ho1
        rw [Bool.and_eq_true] at ho2
        have hpe := eq_of_beq ho2.2
        cases hfd : l.find? (fun o => sameB false o.path.data.toList (parentL l[k].path.data.toList)) with
        | none =>
          rw [List.find?_eq_none] at hfd
          exact absurd (by simpa [sameB] using hpe) (hfd o (hjo ▸ List.getElem_mem hj))
        | some o' =>
          obtain ⟨hpr, j', hj', hjo', _⟩ := List.find?_eq_some_iff_getElem.1 hfd
          have hpe' : o'.path.data.toList = parentL l[k].path.data.toList := by simpa [sameB] using hpr
          have : j = j' := by
            rcases Nat.lt_trichotomy j j' with h1 | h1 | h1
            · have := ord j j' hj hj' h1
              rw [hjo, hjo', hpe, hpe'] at this
              exact absurd this (List.lt_irrefl _)
            · exact h1
            · have := ord j' j hj' hj h1
              rw [hjo, hjo', hpe, hpe'] at this
              exact absurd this (List.lt_irrefl _)
          subst this
          have : o = o' := hjo.symm.trans hjo'
          subst this
          exact ho2.1
  · cases ht : otherB (l.take k) l[k] with
    | false => rfl
    | true =>
      exfalso
      unfold otherB at ht
      obtain ⟨o, ho, hp⟩ := List.any_eq_true.1 ht
      obtain ⟨j, hj, hjk, hjo⟩ := of_mem_take l k o ho
      have hfo := (A j hj).1
      rw [hjo] at hfo
      obtain ⟨_, _, f1⟩ := fieldsB_true _ hf
      obtain ⟨_, _, f2⟩ := fieldsB_true _ hfo
      simp only [Bool.and_eq_true, decide_eq_true_eq] at hp
      rcases f1 with ⟨d1, i1, z1⟩ | ⟨d1, i1, i2, z1, z2⟩
      · rcases f2 with ⟨d2, i3, z3⟩ | ⟨d2, i3, i4, z3, z4⟩
        · exact hp.2 (by omega)
        · omega
      · rcases f2 with ⟨d2, i3, z3⟩ | ⟨d2, i3, i4, z3, z4⟩
        · omega
        · have : sizeB (l.take k) l[k] = true := by
            unfold sizeB
            rw [List.any_eq_true]
            exact ⟨o, ho, by simp [d1, d2, hp.1]; exact hp.2⟩
          rw [hsz] at this; cases this

theorem twiceF_true (l : List EntD) (e : EntD) : twiceF true l e = twiceT l e := rfl
theorem twiceF_of (fold : Bool) (l : List EntD) (e : EntD) (h : twiceF fold l e = false) : twiceB l e = false := by
  unfold twiceF at h
  unfold twiceB
  rw [List.any_eq_false] at *
  intro x hx hp
  apply h x hx
  rw [eq_of_beq hp]
  exact (sameB_iff _ _ _).2 rfl
theorem twiceF_false (l : List EntD) (e : EntD) (h : twiceB l e = false) : twiceF false l e = false := by
  unfold twiceB at h
  unfold twiceF
  rw [List.any_eq_false] at *
  intro x hx hp
  apply h x hx
  simpa [sameB] using hp
theorem entErrF_zero (fold : Bool) (l : List EntD) (i : Nat) (e : EntD) : entErr l i e fold = 0 ↔ entErr l i e false = 0 ∧ (fold = true → twiceF true (l.take i) e = false) := by
  cases fold
  · exact ⟨fun h => ⟨h, fun x => by cases x⟩, fun h => h.1⟩
  · rw [entErrT_zero]; exact ⟨fun h => ⟨h.1, fun _ => h.2⟩, fun h => ⟨h.1, h.2 rfl⟩⟩
theorem refErH_zero (fold : Bool) (l : List EntD) (i : Nat) (e : EntD) : refErH fold l i e = 0 ↔ holdB e = true ∧ RefCore l i e ∧ twiceF fold (l.take i) e = false := by
  unfold refErH RefCore
  rw [less_cmp]
  by_cases h0 : holdB e = true
  · rw [h0, if_neg (by simp)]
    by_cases h1 : fieldsB e = true
    · rw [h1, if_neg (by simp)]
      by_cases h2 : 0 < i ∧ decide (cmpL ((l[i - 1]?.map (·.path.data.toList)).getD []) e.path.data.toList < 0) = false
      · rw [if_pos h2]
        constructor
        · intro h; omega
        · rintro ⟨_, ⟨_, h, _⟩, _⟩; have := h h2.1; have h3 := h2.2; simp at h3; omega
      · rw [if_neg h2]
        have h2' : 0 < i → cmpL ((l[i - 1]?.map (·.path.data.toList)).getD []) e.path.data.toList < 0 := fun h => by
          by_cases hx : cmpL ((l[i - 1]?.map (·.path.data.toList)).getD []) e.path.data.toList < 0
          · exact hx
          · exact absurd ⟨h, by simpa using hx⟩ h2
        by_cases h3 : upB (l.take i) (parentB e.path) = true
        · rw [h3, if_neg (by simp)]
          by_cases h4 : twiceF fold (l.take i) e = true
          · rw [if_pos h4]; simp [h4]
          · rw [if_neg h4]
            simp only [Bool.not_eq_true] at h4
            have h4' := twiceF_of _ _ _ h4
            by_cases h5 : sizeB (l.take i) e = true
            · rw [if_pos h5]; simp [h5]
            · rw [if_neg h5]; simp only [Bool.not_eq_true] at h5; simp [h4, h4', h5]; exact h2'
        · simp only [Bool.not_eq_true] at h3
          rw [if_pos h3]; simp [h3]
    · simp only [Bool.not_eq_true] at h1
      rw [if_pos h1]; simp [h1]
  · simp only [Bool.not_eq_true] at h0
    rw [if_pos h0]; simp [h0]
theorem chkAtH_zero (fold : Bool) (l : List EntD) (i : Nat) (e : EntD) : chkAtH fold l i e = 0 ↔ holdB e = true ∧ entErr l i e fold = 0 := by
  unfold chkAtH
  cases holdB e
  · simp
  · simp
theorem chkGoH_zero (fold : Bool) (l : List EntD) : ∀ (t : List EntD) (i : Nat), ((chkGoH fold l t i).1 = 0 ↔ ∀ (k : Nat) (h : k < t.length), chkAtH fold l (i + k) t[k] = 0) := by
  intro t
  induction t with
  | nil => intro i; simp [chkGoH]
  | cons e t ih =>
    intro i
    rw [chkGoH]
    split
    · next h0 =>
      rw [ih]
      constructor
      · intro h k hk
        cases k with
        | zero => exact h0
        | succ k => have := h k (by simpa using hk); rw [show i + (k + 1) = i + 1 + k by omega]; exact this
      · intro h k hk
        have := h (k + 1) (by simpa using hk)
        rw [show i + 1 + k = i + (k + 1) by omega]; exact this
    · next h0 =>
      constructor
      · intro h; exact absurd h h0
      · intro h; exact absurd (h 0 (by simp)) h0

theorem held_iff (fold : Bool) (l : List EntD) : heldF fold l = true ↔ l.length ≤ 120 ∧ ∀ (k : Nat) (hk : k < l.length), holdB l[k] = true ∧ RefCore l k l[k] ∧ twiceF fold (l.take k) l[k] = false := by
  unfold heldF chkPH
  rw [beq_iff_eq]
  by_cases h6 : 120 < l.length
  · rw [if_pos h6]
    exact ⟨fun h => absurd h (by decide), fun h => by omega⟩
  · rw [if_neg h6, chkGoH_zero]
    simp only [Nat.zero_add]
    constructor
    · intro h
      have E : ∀ (k : Nat) (hk : k < l.length), entErr l k l[k] false = 0 ∧ (fold = true → twiceF true (l.take k) l[k] = false) := fun k hk => (entErrF_zero _ _ _ _).1 ((chkAtH_zero _ _ _ _).1 (h k hk)).2
      have C := chk_core l (fun k hk => (E k hk).1)
      refine ⟨by omega, fun k hk => ⟨((chkAtH_zero _ _ _ _).1 (h k hk)).1, C k hk, ?_⟩⟩
      cases fold
      · exact twiceF_false _ _ (C k hk).2.2.2.1
      · exact (E k hk).2 rfl
    · rintro ⟨_, h⟩ k hk
      exact (chkAtH_zero _ _ _ _).2 ⟨(h k hk).1, (entErrF_zero _ _ _ _).2 ⟨core_chk l (fun k hk => (h k hk).2.1) k hk, by rintro rfl; exact (h k hk).2.2⟩⟩

theorem held_vol {fold : Bool} {l : List EntD} (h : heldF fold l = true) : VolOk fold l := by
  obtain ⟨h6, A⟩ := (held_iff fold l).1 h
  have S : Srt l := srt_of_order (order_of_steps l (fun i hi => by
    have := (A (i + 1) hi).2.1.2.1 (by omega)
    rw [prev_at l i hi] at this
    exact (cmpL_key _ _).1.1 this))
  refine ⟨S, by omega, ?_, ?_, ?_, ?_, ?_⟩
  · intro o ho
    obtain ⟨k, hk, rfl⟩ := List.mem_iff_getElem.1 ho
    have hh := (A k hk).1
    unfold holdB at hh
    simpa using hh
  · intro o ho
    obtain ⟨k, hk, rfl⟩ := List.mem_iff_getElem.1 ho
    exact (A k hk).2.1.1
  · intro o ho hne
    obtain ⟨k, hk, rfl⟩ := List.mem_iff_getElem.1 ho
    have hu := (A k hk).2.1.2.2.1
    unfold upB at hu
    rw [parentB_eq, Bool.or_eq_true, List.any_eq_true] at hu
    rcases hu with hu | ⟨x, hx, hp⟩
    · exact absurd (eq_of_beq hu) hne
    · rw [Bool.and_eq_true] at hp
      exact ⟨x, List.mem_of_mem_take hx, hp.1, eq_of_beq hp.2⟩
  · have key : ∀ (i j : Nat) (hi : i < l.length) (hj : j < l.length), i < j → sameB fold l[i].pl l[j].pl = true → False := by
      intro i j hi hj hij hs
      have ht := (A j hj).2.2
      unfold twiceF at ht
      rw [List.any_eq_false] at ht
      exact ht _ (mem_take l j i hi hij) hs
    intro a ha b hb hs
    obtain ⟨i, hi, rfl⟩ := List.mem_iff_getElem.1 ha
    obtain ⟨j, hj, rfl⟩ := List.mem_iff_getElem.1 hb
    rcases Nat.lt_trichotomy i j with hij | hij | hij
    · exact absurd hs (fun h => key i j hi hj hij h)
    · subst hij; rfl
    · exact absurd hs (fun h => key j i hj hi hij (by
        have : ∀ a b : List UInt8, sameB fold a b = true → sameB fold b a = true := fun a b h => sameB_symm h
        exact this _ _ h))
  · have key : ∀ (i j : Nat) (hi : i < l.length) (hj : j < l.length), i < j → l[i].dir = false → l[j].dir = false → l[i].id = l[j].id → l[i].size = l[j].size := by
      intro i j hi hj hij d1 d2 hid
      have hz := (A j hj).2.1.2.2.2.2
      unfold sizeB at hz
      rw [List.any_eq_false] at hz
      have := hz _ (mem_take l j i hi hij)
      simp [d1, d2, hid] at this
      exact this
    intro a ha b hb d1 d2 hid
    obtain ⟨i, hi, rfl⟩ := List.mem_iff_getElem.1 ha
    obtain ⟨j, hj, rfl⟩ := List.mem_iff_getElem.1 hb
    rcases Nat.lt_trichotomy i j with hij | hij | hij
    · exact key i j hi hj hij d1 d2 hid
    · subst hij; rfl
    · exact (key j i hj hi hij d2 d1 hid.symm).symm
end Go.Proofs.YtpjjagalekolaaaGreatDoor

