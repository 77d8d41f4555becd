/- The laws' own way of working, and the space that the trees of the way take. -/
import Derived.Test.YtemkpollilhmjaaGreatDoorUNB
namespace Go.Proofs.YtemkpollilhmjaaGreatDoor
open Go.RowKit
set_option linter.unusedVariables false
set_option linter.unusedSimpArgs false

/-- Entries in a row of their own. -/
def OwnV (u : World) (v : Value) (V : List EntD) : Prop := ∃ B, u.ownsRow B 54 5 v V.length (flatE V)
theorem OwnV.below {u u' : World} {v : Value} {V : List EntD} (h : OwnV u v V) (hb : Below u.heap.size u u') : OwnV u' v V := by
  obtain ⟨B, h⟩ := h
  exact ⟨B, own_belowK hb h⟩
theorem Lft.space {w3 u : World} {xb : Nat} {fold : Bool} {sp : Int} {S : List EntD} {l : List OpD} {v : Value} {V : List EntD} {m d : Nat} (h : Lft w3 u xb fold sp S l v V m d) (o : OwnV u v V) (n : Int) : Lft w3 (u.setCell ⟨xb, 2, none⟩ (.int .i64 n)) xb fold n S l v V m d := by
  obtain ⟨B, o⟩ := o
  exact ⟨below_set h.bel _ _ _ h.bel.size h.ge, h.ge, h.x.set 2 (.int .i64 n) (by simp), RowAt.ofOwn (row_blk h.x o (by decide) (gb_set u xb 2 (.int .i64 n))), h.wk⟩

set_option maxHeartbeats 8000000 in
set_option maxRecDepth 100000 in
theorem worksS {w3 u : World} {xb : Nat} {fold : Bool} {space : Int} {S M : List EntD} {l : List OpD} {n : Int} {v sv lv : Value} {V : List EntD} {m d : Nat} (h : Lft w3 u xb fold space S l v V m d) (hbig : 4 ≤ w3.heap.size) (hg : Gd w3) (hs : RowAt w3 sv S) (sS : SmallL S) (ho : OpRow w3 lv l) (hl : l.length ≤ 2000000) (hos : ∀ o ∈ l, o.small) (hX : tryP fold 9223372036854775807 S l = .ok (M, n)) (h0 : usedL V ≤ space) (h1 : space ≤ 100000) (hm : m ≤ 400) (b : Int) (hbl : -1000000000 ≤ b) (hb2 : b ≤ 9223372036854775807) :
    Calls Tryz.prog 9 #[.pointer (some ⟨xb, 0, none⟩), sv, lv, .int .i64 b] u fun r w' => ∃ (e k : Int) (v' : Value) (V' : List EntD) (m' d' : Nat), r = .returned (.tuple #[.int .i64 e, .int .i64 k, .bool true]) ∧ Lft w3 w' xb fold space S l v' V' m' d' ∧ d ≤ d' ∧ WorkES fold space S l V' m d m' d' b e k ∧ OwnV w' v' V' ∧ ∀ vq Vq, OwnV u vq Vq → OwnV w' vq Vq := by
  obtain ⟨i0, hi, hz0, hz1, hz2⟩ := info_parts info54
  have H := hidD h
  have HG := hidD hg
  have HS := hidD hs
  have HSS := hidD sS
  have HO := hidD ho
  have HOS := hidD hos
  have HX := hidD hX
  obtain ⟨sa, sc, rfl⟩ := hs.val
  obtain ⟨la, lc, rfl⟩ := ho.val
  have x0 := h.x.cell 0 rfl
  have few := h.wk.vol.few
  have hgex := h.ge
  have hmn' : mountN fold space V = 0 := by
    unfold mountN
    rw [vol_held h.wk.vol, if_neg (by decide), if_neg (by omega)]
  have hmn := hidD hmn'
  have hu0 := (used_le h.wk.vol).1
  have hr := h.row
  clear hg hs sS ho hos hX h hmn'
  cases hr with
  | nil =>
    have HN := hidD (fun ty => run_append_none (P := Tryz.prog) u 0 22 ty 54 i0 5 Tryz.underlying22 hi hz1 _ _ _ (World.ownsRow_nil u 0 54 5))
    go_enter Tryz.func9, Tryz.ntmps9
    go_wp2_with (at_builtin; refine Lib.wpList_append_run _ rfl _ _ _ _ rfl _ _ rfl rfl _ _ (HN.out _) ?_)
    have H1 := hidD H.out
    have T1 : Hid (RowAt u (.slice none 0 0) []) := RowAt.nil
    clear HN
    have y1 := H1.out.x.cell 1 rfl
    have y2 := H1.out.x.cell 2 rfl
    have y3 := H1.out.x.cell 3 rfl
    have hxl := H1.out.x.lt
    go_region_held3 (fun v => v.cell? ⟨xb, 1, none⟩ = some (.bool fold) ∧ v.cell? ⟨xb, 2, none⟩ = some (.int .i64 space) ∧ v.cell? ⟨xb, 3, none⟩ = some (.string (marksB m))) (go_keep) (first | (go_at_call 15; refine (cMount fold (T1.out.below (below_drewB _) (Nat.le_refl _)) ⟨by omega, H1.out.wk.vol.small⟩ space (marksB m) (by rw [marksB_size]; omega)).mono ?_; intro e w5 hmt; rw [CMnt, if_pos hmn.out] at hmt; obtain ⟨vb, v5, rfl, hvb, vk, vr, hb5⟩ := hmt; have H5 := hidD (H1.out.below ((below_drewB _).trans hb5)); have r1 := H5.out.x.cell 1 rfl; have r2 := H5.out.x.cell 2 rfl; have r3 := H5.out.x.cell 3 rfl; have VK := hidD vk; have VR := hidD (RowAt.ofOwn vr); have hne : xb ≠ vb := (fun e => by subst e; exact absurd hxl (Nat.not_lt.2 hvb)); have hge5 : w3.heap.size ≤ vb := Nat.le_trans H1.out.bel.size hvb; have KU : Hid (Below u.heap.size u w5) := (below_drewB _).trans hb5; have hgeU : u.heap.size ≤ vb := hvb; clear vk vr hb5 hvb))
    clear r1 r2 r3 y1 y2 y3
    go_wp2_with fail
    refine (cWorkS VK.out (by omega) VR.out H5.out.wk (by omega) (by omega) (HS.out.below H5.out.bel (Nat.le_refl _)) HSS.out (HG.out.below H5.out.bel) (HO.out.below H5.out.bel (Nat.le_refl _)) hl HOS.out HX.out b hbl hb2).mono ?_
    rintro r w6 ⟨e, k, m', d', v6, V6, rfl, st, wk, hd, hE⟩
    have X6 := hidD (H5.out.x.kept st.gr (by simpa using hne))
    have B6 := hidD (H5.out.bel.grown st.gr H5.out.bel.size (fun q e => by cases e; exact hge5))
    have VK6 := hidD st.vk
    have VR6 := hidD (st.rowAt VK.out VR.out)
    have WK := hidD wk
    have KU6 := hidD (KU.out.grown st.gr KU.out.size (fun q e => by cases e; exact hgeU))
    clear KU
    have WE := hidD hE
    have few6 := wk.vol.few
    clear st wk hE H5 VK VR H1 T1
    go_wp2_with fail
    refine (cTree VK6.out VR6.out (by omega)).mono ?_
    rintro r w7 ⟨tv, rfl, htv, hb7⟩
    obtain ⟨t1, t2, t3, hts⟩ := shape_of htv
    subst hts
    have X7 := hidD (X6.out.below hb7)
    have B7 := hidD (B6.out.trans (hb7.mono B6.out.size))
    have VK7 := hidD (VK6.out.below hb7 VK6.out.lt)
    have TV := hidD htv
    have KU7 := hidD (KU6.out.trans (hb7.mono KU6.out.size))
    clear KU6
    have z0 := X7.out.cell 0 rfl
    have f0 := X7.out.frozen 0
    clear hb7 htv X6 B6 VK6 VR6
    go_wp2_with fail
    have X8 := hidD (X7.out.set 0 (.slice t1 t2 t3) (by simp))
    have VK8 : Hid (Vk 64 (w7.setCell ⟨xb, 0, none⟩ (.slice t1 t2 t3)) vb v6 fold space [.string (marksB m')]) := ((gb_set w7 xb 0 (.slice t1 t2 t3)).block vb VK7.out.lt (by simpa using fun e : vb = xb => hne e.symm)).trans VK7.out
    have z3 := X8.out.cell 3 rfl
    have f3 := X8.out.frozen 3
    refine (cJournal VK8.out).mono ?_
    rintro r wz ⟨rfl, hwz⟩; rw [hwz]; clear hwz
    go_wp2_with fail
    go_ret3
    have T8 := row_blk X7.out TV.out (by decide) (gb_set w7 xb 0 (.slice t1 t2 t3))
    have T9 := row_blk X8.out T8 (by decide) (gb_set _ xb 3 (.string (marksB m')))
    have hx := B7.out.size
    exact ⟨e, k, _, V6, m', d', rfl, ⟨below_set (below_set B7.out _ _ _ hx hgex) _ _ _ (by simpa using hx) hgex, hgex, X8.out.set 3 (.string (marksB m')) (by simp), RowAt.ofOwn T9, WK.out⟩, hd, WE.out, ⟨_, T9⟩, fun vq Vq oq => by obtain ⟨B, oq⟩ := oq; exact ⟨B, row_blk X8.out (row_blk X7.out (own_belowK KU7.out oq) (by decide) (gb_set w7 xb 0 (.slice t1 t2 t3))) (by decide) (gb_set _ xb 3 (.string (marksB m')))⟩⟩
  | row bb off cap V hlb hcc hmm hE =>
    have HE := hidD (flatE_at hE)
    go_enter Tryz.func9, Tryz.ntmps9
    have hzl := hE
    clear hE hzl
    go_wp2_with (at_builtin; refine wpList_append_own _ rfl _ _ 22 rfl u.heap.size 54 i0 _ 5 48 Tryz.underlying22 hi hz0 hz1 hz2 rfl (by decide) _ _ _ rfl (World.ownsRow_nil _ _ _ _) ⟨bb, off, none⟩ V.length cap (flatE V) rfl (flatE_length V) HE.out (flatE_one V) (by unfold maxLen; omega) (by omega) (Nat.le_refl _) ?_; intro v2 w2 hown2 hg2 _)
    obtain ⟨q1, q2, q3, hq⟩ := shape_of hown2
    subst hq
    have hbU := below_of_none hg2
    have HBU := hidD hbU
    have H1 := hidD (H.out.below hbU)
    have T1 := hidD (RowAt.ofOwn (by simpa using hown2))
    clear hown2 hg2 hbU HE H
    have y1 := H1.out.x.cell 1 rfl
    have y2 := H1.out.x.cell 2 rfl
    have y3 := H1.out.x.cell 3 rfl
    have hxl := H1.out.x.lt
    go_region_held3 (fun v => v.cell? ⟨xb, 1, none⟩ = some (.bool fold) ∧ v.cell? ⟨xb, 2, none⟩ = some (.int .i64 space) ∧ v.cell? ⟨xb, 3, none⟩ = some (.string (marksB m))) (go_keep) (first | (go_at_call 15; refine (cMount fold (T1.out.below (below_drewB _) (Nat.le_refl _)) ⟨by omega, H1.out.wk.vol.small⟩ space (marksB m) (by rw [marksB_size]; omega)).mono ?_; intro e w5 hmt; rw [CMnt, if_pos hmn.out] at hmt; obtain ⟨vb, v5, rfl, hvb, vk, vr, hb5⟩ := hmt; have H5 := hidD (H1.out.below ((below_drewB _).trans hb5)); have r1 := H5.out.x.cell 1 rfl; have r2 := H5.out.x.cell 2 rfl; have r3 := H5.out.x.cell 3 rfl; have VK := hidD vk; have VR := hidD (RowAt.ofOwn vr); have hne : xb ≠ vb := (fun e => by subst e; exact absurd hxl (Nat.not_lt.2 hvb)); have hge5 : w3.heap.size ≤ vb := Nat.le_trans H1.out.bel.size hvb; have KU : Hid (Below u.heap.size u w5) := HBU.out.trans ((show Below w2.heap.size w2 w5 from (below_drewB _).trans hb5).mono HBU.out.size); have hgeU : u.heap.size ≤ vb := Nat.le_trans HBU.out.size hvb; clear vk vr hb5 hvb))
    clear r1 r2 r3 y1 y2 y3
    go_wp2_with fail
    refine (cWorkS VK.out (by omega) VR.out H5.out.wk (by omega) (by omega) (HS.out.below H5.out.bel (Nat.le_refl _)) HSS.out (HG.out.below H5.out.bel) (HO.out.below H5.out.bel (Nat.le_refl _)) hl HOS.out HX.out b hbl hb2).mono ?_
    rintro r w6 ⟨e, k, m', d', v6, V6, rfl, st, wk, hd, hE⟩
    have X6 := hidD (H5.out.x.kept st.gr (by simpa using hne))
    have B6 := hidD (H5.out.bel.grown st.gr H5.out.bel.size (fun q e => by cases e; exact hge5))
    have VK6 := hidD st.vk
    have VR6 := hidD (st.rowAt VK.out VR.out)
    have WK := hidD wk
    have KU6 := hidD (KU.out.grown st.gr KU.out.size (fun q e => by cases e; exact hgeU))
    clear KU
    have WE := hidD hE
    have few6 := wk.vol.few
    clear st wk hE H5 VK VR H1 T1
    go_wp2_with fail
    refine (cTree VK6.out VR6.out (by omega)).mono ?_
    rintro r w7 ⟨tv, rfl, htv, hb7⟩
    obtain ⟨t1, t2, t3, hts⟩ := shape_of htv
    subst hts
    have X7 := hidD (X6.out.below hb7)
    have B7 := hidD (B6.out.trans (hb7.mono B6.out.size))
    have VK7 := hidD (VK6.out.below hb7 VK6.out.lt)
    have TV := hidD htv
    have KU7 := hidD (KU6.out.trans (hb7.mono KU6.out.size))
    clear KU6
    have z0 := X7.out.cell 0 rfl
    have f0 := X7.out.frozen 0
    clear hb7 htv X6 B6 VK6 VR6
    go_wp2_with fail
    have X8 := hidD (X7.out.set 0 (.slice t1 t2 t3) (by simp))
    have VK8 : Hid (Vk 64 (w7.setCell ⟨xb, 0, none⟩ (.slice t1 t2 t3)) vb v6 fold space [.string (marksB m')]) := ((gb_set w7 xb 0 (.slice t1 t2 t3)).block vb VK7.out.lt (by simpa using fun e : vb = xb => hne e.symm)).trans VK7.out
    have z3 := X8.out.cell 3 rfl
    have f3 := X8.out.frozen 3
    refine (cJournal VK8.out).mono ?_
    rintro r wz ⟨rfl, hwz⟩; rw [hwz]; clear hwz
    go_wp2_with fail
    go_ret3
    have T8 := row_blk X7.out TV.out (by decide) (gb_set w7 xb 0 (.slice t1 t2 t3))
    have T9 := row_blk X8.out T8 (by decide) (gb_set _ xb 3 (.string (marksB m')))
    have hx := B7.out.size
    exact ⟨e, k, _, V6, m', d', rfl, ⟨below_set (below_set B7.out _ _ _ hx hgex) _ _ _ (by simpa using hx) hgex, hgex, X8.out.set 3 (.string (marksB m')) (by simp), RowAt.ofOwn T9, WK.out⟩, hd, WE.out, ⟨_, T9⟩, fun vq Vq oq => by obtain ⟨B, oq⟩ := oq; exact ⟨B, row_blk X8.out (row_blk X7.out (own_belowK KU7.out oq) (by decide) (gb_set w7 xb 0 (.slice t1 t2 t3))) (by decide) (gb_set _ xb 3 (.string (marksB m')))⟩⟩
end Go.Proofs.YtemkpollilhmjaaGreatDoor
