/- The law Works: every call of it answers true and leaves what was handed in. -/
import Derived.Test.YtehkdjdflgknnaaGreatDoorZWJ
namespace Go.Proofs.YtehkdjdflgknnaaGreatDoor
open Go.RowKit
set_option linter.unusedVariables false
set_option linter.unusedSimpArgs false

/-- The box of the disk. -/
structure Bx1 (w : World) (cs : Array Value) (u : World) : Prop where
  bel : Below w.heap.size w u
  box : u.heap[w.heap.size]? = some (.cells cs 49 (0, 0))
theorem Bx1.start (w : World) (cs : Array Value) : Bx1 w cs (w.alloc (.cells cs 49)) := ⟨(Below.refl _ _).alloc (Nat.le_refl _) _, heap_alloc_new w _⟩
theorem Bx1.lt {w u : World} {cs : Array Value} (h : Bx1 w cs u) : w.heap.size < u.heap.size := (Array.getElem?_eq_some_iff.1 h.box).1
theorem Bx1.below {w u u' : World} {cs : Array Value} (h : Bx1 w cs u) (hb : Below u.heap.size u u') : Bx1 w cs u' := ⟨h.bel.trans (hb.mono h.bel.size), (hb.block _ h.lt).trans h.box⟩
theorem Bx1.cell {w u : World} {cs : Array Value} (h : Bx1 w cs u) (j : Nat) : u.cell? ⟨w.heap.size, j, none⟩ = cs[j]? := Lib.cell_of_heap h.box j

theorem pick40 (c : Int) (w : World) (h0 : -9223372036854775808 ≤ c) (h1 : c ≤ 9223372036854775807) :
    Calls Tryz.prog 21 #[.int .i64 c, .int .i64 1099511627776] w fun e w' => ∃ k : Int, (0 ≤ k ∧ k < 1099511627776) ∧ e = .returned (.int .i64 k) ∧ w' = w :=
  (pick_big c 1099511627776 w (by decide) (by decide) h0 h1).mono (by rintro e w' ⟨k, hk, rfl, rfl⟩; exact ⟨k, ⟨by omega, by omega⟩, rfl, rfl⟩)

theorem mount_ok {fold : Bool} {space : Int} {L : List EntD} (h : mountN fold space L = 0) : VolOk fold L ∧ 0 ≤ space ∧ space ≤ 100000 := by
  unfold mountN at h
  split at h
  · cases h
  · rename_i hh
    have hv := held_vol (by simpa using hh : heldF fold L = true)
    split at h
    · cases h
    · rename_i hs
      have := (used_le hv).1
      exact ⟨hv, by omega, by omega⟩

/-- Between the volumes' mounting and the first work: what lies where. -/
structure Wst (w : World) (u : World) (xb yb N3 N6 : Nat) (fold : Bool) (space : Int) (xv yv : Value) (V : List EntD) (j : Value) : Prop where
  bel : Below w.heap.size w u
  xge : w.heap.size ≤ xb
  yge : w.heap.size ≤ yb
  xlt : xb < N3
  ylt : yb < N3
  n36 : N3 ≤ N6
  nu : N6 ≤ u.heap.size
  xk : Vk 92 u xb xv fold space [j]
  yk : Vk 65 u yb yv fold space []
  xr : ∃ B, u.ownsRow B 75 5 xv V.length (flatE V) ∧ ∀ g, xv.ownBlock = some g → g < N3 ∨ N6 ≤ g
  yr : RowAt w yv V ∨ ∃ B, N6 ≤ B ∧ u.ownsRow B 75 5 yv V.length (flatE V)
theorem Wst.below {w u u' : World} {xb yb N3 N6 : Nat} {fold : Bool} {space : Int} {xv yv : Value} {V : List EntD} {j : Value} (h : Wst w u xb yb N3 N6 fold space xv yv V j) (hb : Below u.heap.size u u') : Wst w u' xb yb N3 N6 fold space xv yv V j where
  bel := h.bel.trans (hb.mono h.bel.size)
  xge := h.xge
  yge := h.yge
  xlt := h.xlt
  ylt := h.ylt
  n36 := h.n36
  nu := Nat.le_trans h.nu hb.size
  xk := h.xk.below hb h.xk.lt
  yk := h.yk.below hb h.yk.lt
  xr := by obtain ⟨B, h1, h2⟩ := h.xr; exact ⟨B, own_below hb h1, h2⟩
  yr := by
    rcases h.yr with h | ⟨B, h1, h2⟩
    · exact .inl h
    · exact .inr ⟨B, h1, own_below hb h2⟩
theorem Wst.lift {w u : World} {xb yb N3 N6 N6' : Nat} {fold : Bool} {space : Int} {xv yv : Value} {V : List EntD} {j : Value} (h : Wst w u xb yb N3 N6 fold space xv yv V j) (hx : ∀ g, xv.ownBlock = some g → g < N3) (hy : RowAt w yv V) (hN : N3 ≤ N6') (hu : N6' ≤ u.heap.size) : Wst w u xb yb N3 N6' fold space xv yv V j where
  bel := h.bel
  xge := h.xge
  yge := h.yge
  xlt := h.xlt
  ylt := h.ylt
  n36 := hN
  nu := hu
  xk := h.xk
  yk := h.yk
  xr := by obtain ⟨B, h1, _⟩ := h.xr; exact ⟨B, h1, fun g e => .inl (hx g e)⟩
  yr := .inl hy
theorem Wst.xrow {w u : World} {xb yb N3 N6 : Nat} {fold : Bool} {space : Int} {xv yv : Value} {V : List EntD} {j : Value} (h : Wst w u xb yb N3 N6 fold space xv yv V j) : RowAt u xv V := by
  obtain ⟨B, h1, _⟩ := h.xr
  exact RowAt.ofOwn h1
theorem Wst.yrow {w u : World} {xb yb N3 N6 : Nat} {fold : Bool} {space : Int} {xv yv : Value} {V : List EntD} {j : Value} (h : Wst w u xb yb N3 N6 fold space xv yv V j) : RowAt u yv V := by
  rcases h.yr with h' | ⟨B, _, h'⟩
  · exact h'.below h.bel (Nat.le_refl _)
  · exact RowAt.ofOwn h'
/-- The owner writes over what was handed in. -/
theorem Wst.spoilt {w u u' : World} {xb yb N3 N6 : Nat} {fold : Bool} {space : Int} {xv yv : Value} {V : List EntD} {j : Value} (h : Wst w u xb yb N3 N6 fold space xv yv V j) {row : Option Nat} (hg : u.grownBy u' row) (hr : ∀ g, row = some g → N3 ≤ g ∧ g < N6) : Wst w u' xb yb N3 N6 fold space xv yv V j where
  bel := h.bel.grown hg h.bel.size (fun g e => by have := (hr g e).1; have := h.xge; have := h.xlt; omega)
  xge := h.xge
  yge := h.yge
  xlt := h.xlt
  ylt := h.ylt
  n36 := h.n36
  nu := Nat.le_trans h.nu hg.size
  xk := (hg.block xb h.xk.lt (fun e => by have := (hr xb e.symm).1; have := h.xlt; omega)).trans h.xk
  yk := (hg.block yb h.yk.lt (fun e => by have := (hr yb e.symm).1; have := h.ylt; omega)).trans h.yk
  xr := by
    obtain ⟨B, h1, h2⟩ := h.xr
    exact ⟨B, own_far h1 hg (fun g e e' => by have := hr g e; have := h2 g e'; omega), h2⟩
  yr := by
    rcases h.yr with h | ⟨B, h1, h2⟩
    · exact .inl h
    · exact .inr ⟨B, h1, own_far h2 hg (fun g e e' => by have := hr g e; have := (h2.lt g e').1; omega)⟩
theorem vk_apart {T T' : TypeId} {u u' : World} {a b : Nat} {v v' : Value} {fold fold' : Bool} {space space' : Int} {rest rest' : List Value} (h : Vk T u a v fold space rest) (k : Vk T' u b v' fold' space' rest') (hT : T ≠ T') (hg : u.grownBy u' (some b)) : Vk T u' a v fold space rest := by
  refine (hg.block a h.lt (fun e => ?_)).trans h
  cases e
  unfold Vk at h k
  rw [h] at k
  simp only [Option.some.injEq, Obj.cells.injEq] at k
  exact hT k.2.1
/-- The program's volume has worked, the document's has not yet. -/
theorem Wst.worked {w u u' : World} {xb yb N3 N6 : Nat} {fold : Bool} {space : Int} {xv yv xv' : Value} {V V' : List EntD} {m m' : Nat} (h : Wst w u xb yb N3 N6 fold space xv yv V (.string (marksB m))) (k : WkSt 92 u xb fold space xv V u' m' xv' V') :
    Below w.heap.size w u' ∧ Vk 92 u' xb xv' fold space [.string (marksB m')] ∧ Vk 65 u' yb yv fold space [] ∧ (∃ B, u'.ownsRow B 75 5 xv' V'.length (flatE V') ∧ ∀ g, xv'.ownBlock = some g → g < N3 ∨ N6 ≤ g) := by
  refine ⟨h.bel.grown k.gr h.bel.size (fun g e => by cases e; exact h.xge), k.vk, vk_apart h.yk h.xk (by decide) k.gr, ?_⟩
  rcases k.row with ⟨rfl, rfl⟩ | ho
  · obtain ⟨B, h1, h2⟩ := h.xr
    exact ⟨B, own_vk h1 h.xk (by decide) k.gr, h2⟩
  · exact ⟨_, ho, fun g e => .inr (Nat.le_trans h.nu (ho.lt g e).1)⟩

set_option maxHeartbeats 16000000 in
set_option maxRecDepth 100000 in
theorem works_any (dv : Value) (dj : ByteArray) (fold : Bool) (space more : Int) (v1 v2 : Value) (L S : List EntD) (l : List OpD) (w : World) (hg : Gd w) (hd : RowAt w dv L) (h1 : RowAt w v1 S) (h2 : OpRow w v2 l) (sL : SmallL L) (sS : SmallL S) (hl : l.length ≤ 2000000) (hos : ∀ o ∈ l, o.small) (m0 : -9223372036854775808 ≤ more) (m1 : more ≤ 9223372036854775807) :
    Calls Tryz.prog 5 #[.agg #[dv, .bool fold, .int .i64 space, .string dj], v1, v2, .int .i64 more] w fun e w' => e = .returned (.bool true) ∧ Below w.heap.size w w' := by
  have HD := hidD hd
  have H1 := hidD h1
  have H2 := hidD h2
  have HG := hidD hg
  have HSL := hidD sL
  have HSS := hidD sS
  have HOS := hidD hos
  have hbig := hg.big
  have hS2 := sS.1
  obtain ⟨da, dc, rfl⟩ := hd.val
  obtain ⟨a1, c1, rfl⟩ := h1.val
  obtain ⟨a2, c2, rfl⟩ := h2.val
  have T0 := hidD (Bx1.start w #[.slice da L.length dc, .bool fold, .int .i64 space, .string dj])
  clear hd h1 h2 hg sL sS hos
  by_cases hN : mountN fold space L = 0
  · obtain ⟨hvol, hs0, hs1⟩ := mount_ok hN
    have HV := hidD hvol
    have HN := hidD hN
    clear hvol hN
    go_enter Tryz.func5, Tryz.ntmps5
    go_wp2_with fail
    refine (mounts_any _ (HG.out.below T0.out.bel)).mono ?_
    rintro e w1 ⟨rfl, hb1⟩
    have T1 := hidD (T0.out.below hb1)
    have k0 := T1.out.cell 0
    have k1 := T1.out.cell 1
    have k2 := T1.out.cell 2
    simp at k0 k1 k2
    clear hb1 T0
    go_wp2_with fail
    refine (cMount fold (HD.out.below T1.out.bel (Nat.le_refl _)) HSL.out space ⟨#[]⟩ (by decide)).mono ?_
    intro e w2 hm
    rw [CMnt, if_pos HN.out] at hm
    obtain ⟨xb, xv, rfl, hxb, xk, xr, hb2⟩ := hm
    have T2 := hidD (T1.out.below hb2)
    have k0 := T2.out.cell 0
    have k1 := T2.out.cell 1
    have k2 := T2.out.cell 2
    simp at k0 k1 k2
    have XB := hidD (Nat.le_trans T1.out.bel.size hxb)
    have XK2 := hidD xk
    have XR2 := hidD xr
    clear hb2 T1 xk xr hxb
    go_wp2_with fail
    refine (refMount fold (HD.out.below T2.out.bel (Nat.le_refl _)) HSL.out space).mono ?_
    intro e w3 hm
    rw [CMnt, if_pos HN.out] at hm
    obtain ⟨yb, yv, rfl, hyb, yk, rfl, hb3⟩ := hm
    have T3 := hidD (T2.out.below hb3)
    have W3 : Hid (Wst w w3 xb yb w3.heap.size w3.heap.size fold space xv (.slice da L.length dc) L (.string ⟨#[]⟩)) := ⟨T3.out.bel, XB.out, Nat.le_trans T2.out.bel.size hyb, Nat.lt_of_lt_of_le XK2.out.lt hb3.size, yk.lt, Nat.le_refl _, Nat.le_refl _, XK2.out.below hb3 XK2.out.lt, yk, ⟨_, own_below hb3 XR2.out, fun g e => .inl (Nat.lt_of_lt_of_le (XR2.out.lt g e).2 hb3.size)⟩, .inl HD.out⟩
    have HXL : Hid (∀ g, xv.ownBlock = some g → g < w3.heap.size) := fun g e => Nat.lt_of_lt_of_le (XR2.out.lt g e).2 hb3.size
    clear hb3 T2 T3 yk hyb XK2 XR2 XB k0 k1 k2
    go_wp2_with fail
    refine (num_anyL 0 _).mono ?_
    rintro e w3' ⟨rfl, hw⟩
    rw [hw]
    clear hw w3'
    go_wp2_with fail
    refine (pick40 more _ m0 m1).mono ?_
    rintro e w3' ⟨p, ⟨hp0, hp1⟩, rfl, hw⟩
    rw [hw]
    clear hw w3'
    go_wp2_with fail
    refine (roomyW (H1.out.below W3.out.bel (Nat.le_refl _)) hS2).mono ?_
    rintro e w5 ⟨x, rfl, px, sx, hb5⟩
    have PX5 := hidD px
    have SX5 := hidD sx
    have W5 := hidD (W3.out.below hb5)
    have hz5 := hb5.size
    obtain ⟨xa, xc, rfl⟩ := px.rm.val
    clear px sx hb5
    go_wp2_with fail
    refine (roomyOW (H2.out.below W5.out.bel (Nat.le_refl _)) hl).mono ?_
    rintro e w6 ⟨y, rfl, py, sy, hb6⟩
    have PX6 := hidD (PX5.out.below hb6)
    have SX6 := hidD (SX5.out.below hb6)
    have PY6 := hidD py
    have SY6 := hidD sy
    have W6 := hidD ((W5.out.below hb6).lift HXL.out HD.out (N6' := w6.heap.size) (Nat.le_trans hz5 hb6.size) (Nat.le_refl _))
    have hz6 := hb6.size
    obtain ⟨ya, yc, rfl⟩ := py.rm.val
    clear py sy hb6 W5 PX5 SX5
    have W6' : Hid (Wst w w6 xb yb w3.heap.size w6.heap.size fold space xv (.slice da L.length dc) L (.string (marksB 0))) := W6
    clear W6
    go_wp2_with fail
    have hbl : 2 * (l.length : Int) + 2 ≤ 100 * ((l.length : Int) + 1) + p := by omega
    have hbh : 100 * ((l.length : Int) + 1) + p ≤ 9223372036854775807 := by omega
    generalize 100 * ((l.length : Int) + 1) + p = b at *
    refine (cWork (m := 0) W6'.out.xk (by have := W6'.out.xge; omega) W6'.out.xrow HV.out hs0 (by omega) PX6.out.rm HSS.out (HG.out.below W6'.out.bel) PY6.out.rm hl HOS.out (Nat.zero_le _) b hbl hbh).mono ?_
    intro e w7 hA
    obtain ⟨e1, k1, j1, xv1, V1, rfl, st, K1, said⟩ := hA
    obtain ⟨bel7, xk7, yk7, xr7⟩ := W6'.out.worked st
    have PX7 := hidD (PX6.out.grown W6'.out.xk (by simp) st.gr)
    have SX7 := hidD (SX6.out.grown W6'.out.xk (by decide) st.gr)
    have PY7 := hidD (PY6.out.grown W6'.out.xk (by simp) st.gr)
    have SY7 := hidD (SY6.out.grown W6'.out.xk (by decide) st.gr)
    have B7 := hidD bel7
    have XK7 := hidD xk7
    have YK7 := hidD yk7
    have XR7 := hidD xr7
    have SAID := hidD said
    have KV1 := hidD K1
    have hz7 := st.gr.size
    clear st bel7 xk7 yk7 xr7 said K1 PX6 SX6 PY6 SY6
    go_wp2_with fail
    refine (refWork YK7.out (HD.out.below B7.out (Nat.le_refl _)) HV.out hs0 (by omega) (H1.out.below B7.out (Nat.le_refl _)) HSS.out (H2.out.below B7.out (Nat.le_refl _)) hl HOS.out).mono ?_
    intro e w8 hB
    obtain ⟨e2, k2, yv2, V2, rfl, st2, K2, said2⟩ := hB
    obtain ⟨he, hk, hV, hj1⟩ := work_one SAID.out said2
    subst he
    subst hk
    subst hV
    have W8 : Hid (Wst w w8 xb yb w3.heap.size w6.heap.size fold space xv1 yv2 V1 (.string (marksB j1))) := ⟨B7.out.grown st2.gr B7.out.size (fun g e => by cases e; exact W6'.out.yge), W6'.out.xge, W6'.out.yge, W6'.out.xlt, W6'.out.ylt, W6'.out.n36, Nat.le_trans (Nat.le_trans W6'.out.nu hz7) st2.gr.size, vk_apart XK7.out YK7.out (by decide) st2.gr, st2.vk, (by obtain ⟨B, h1, h2⟩ := XR7.out; exact ⟨B, own_vk h1 YK7.out (by decide) st2.gr, h2⟩), (by
      rcases st2.row with ⟨h1, h2⟩ | ho
      · rw [h1, h2]
        exact .inl HD.out
      · exact .inr ⟨_, Nat.le_trans W6'.out.nu hz7, ho⟩)⟩
    have PX8 := hidD (PX7.out.grown YK7.out (by simp) st2.gr)
    have SX8 := hidD (SX7.out.grown YK7.out (by decide) st2.gr)
    have PY8 := hidD (PY7.out.grown YK7.out (by simp) st2.gr)
    have SY8 := hidD (SY7.out.grown YK7.out (by decide) st2.gr)
    clear st2 K2 said2 PX7 SX7 PY7 SY7 XK7 YK7 XR7 W6' B7
    go_wp2_with fail
    refine (kept_u PX8.out hS2).mono ?_
    rintro e w9 ⟨rfl, hb9⟩
    have W9 := hidD (W8.out.below hb9)
    have SX9 := hidD (SX8.out.below hb9)
    have PY9 := hidD (PY8.out.below hb9)
    have SY9 := hidD (SY8.out.below hb9)
    clear hb9 PX8 SX8 PY8 SY8 W8
    go_wp2_with fail
    refine (keptOps_u PY9.out hl).mono ?_
    rintro e w10 ⟨rfl, hb10⟩
    have W10 := hidD (W9.out.below hb10)
    have SX10 := hidD (SX9.out.below hb10)
    have SY10 := hidD (SY9.out.below hb10)
    clear hb10 SX9 PY9 SY9 W9
    go_wp2_with fail
    refine (spoil_s SX10.out).mono ?_
    rintro e w11 ⟨rfl, row, hg, hr⟩
    have W11 := hidD (W10.out.spoilt hg (fun g e => ⟨(hr g e).1, Nat.lt_of_lt_of_le (hr g e).2 hz6⟩))
    have SY11 := hidD (SY10.out.far hg (fun g e => (hr g e).2))
    clear hg hr W10 SX10 SY10
    go_wp2_with fail
    refine (spoilO_s SY11.out).mono ?_
    rintro e w12 ⟨rfl, row2, hg, hr⟩
    have W12 := hidD (W11.out.spoilt hg (fun g e => ⟨Nat.le_trans hz5 (hr g e).1, (hr g e).2⟩))
    clear hg hr W11 SY11
    have hfew : V1.length ≤ 120 := KV1.out.few
    obtain ⟨qa, qc, hyv⟩ := W12.out.yrow.val
    subst hyv
    have z0 := W12.out.yk.vol.c0
    have D12 := hidD (W12.out.below (⟨rfl, rfl, rfl, Nat.le_refl _, fun _ _ => rfl⟩ : Below w12.heap.size w12 w12.drew))
    go_wp2
    go_region_held3 (fun u => u.cell? ⟨yb, 0, none⟩ = some (.slice qa V1.length qc)) (go_keep) (first | (go_at_call 24; refine (cTree D12.out.xk D12.out.xrow (by omega)).mono ?_; rintro e w13 ⟨tv, rfl, ho, hb13⟩; obtain ⟨ta, tn, tc, htv⟩ := own_shape ho; subst htv; have O13 := hidD ho; have W13 := hidD (D12.out.below hb13); have z1 := W13.out.yk.vol.c0; clear ho hb13) | (go_at_call 11; refine (sameF (RowAt.ofOwn O13.out) W13.out.yrow (by omega)).mono ?_; rintro e w14 ⟨rfl, hb14⟩; have W14 := hidD (W13.out.below hb14); have z2 := W14.out.yk.vol.c0; clear hb14))
    go_wp2_with fail
    refine (num_anyL e1 _).mono ?_
    rintro e w14' ⟨rfl, hw⟩
    rw [hw]
    clear hw w14'
    go_wp2_with fail
    refine (cJournal W14.out.xk).mono ?_
    rintro e w14' ⟨rfl, hw⟩
    rw [hw]
    clear hw w14'
    go_wp2_with fail
    refine (cWork (m := j1) W14.out.xk (by have := W14.out.xge; omega) W14.out.xrow KV1.out hs0 (by omega) (H1.out.below W14.out.bel (Nat.le_refl _)) HSS.out (HG.out.below W14.out.bel) (H2.out.below W14.out.bel (Nat.le_refl _)) hl HOS.out hj1 b hbl hbh).mono ?_
    intro e w15 hA
    obtain ⟨e3, k3, j3, xv3, V3, rfl, st3, K3, said3⟩ := hA
    obtain ⟨he, hk, hV, hj3⟩ := work_two SAID.out said3
    subst he
    subst hk
    subst hV
    obtain ⟨bel15, xk15, yk15, xr15⟩ := W14.out.worked st3
    have YROW := hidD (W14.out.yrow.grown W14.out.xk (by simp) st3.gr)
    have B15 := hidD bel15
    have XK15 := hidD xk15
    have YK15 := hidD yk15
    have XROW : Hid (RowAt w15 xv3 V3) := by obtain ⟨B, h1, _⟩ := xr15; exact RowAt.ofOwn h1
    have HJ3 := hidD hj3
    have z3 := YK15.out.vol.c0
    have hdr : Below w15.heap.size w15 w15.drew := ⟨rfl, rfl, rfl, Nat.le_refl _, fun _ _ => rfl⟩
    have HT := hidD (cTree (XK15.out.below hdr XK15.out.lt) (XROW.out.below hdr (Nat.le_refl _)) (by omega))
    have hylt := YK15.out.lt
    clear st3 bel15 xk15 yk15 xr15 said3 K3 hj3
    go_wp2
    go_region_held3 (fun u => u.cell? ⟨yb, 0, none⟩ = some (.slice qa V3.length qc)) (go_keep) (first | (go_at_call 24; refine HT.out.mono ?_; rintro e w16 ⟨tv, rfl, ho, hb16⟩; obtain ⟨ta2, tn2, tc2, htv⟩ := own_shape ho; subst htv; have O16 := hidD ho; have B16 : Hid (Below w15.heap.size w15 w16) := hdr.trans hb16; have z4 := cell_kept B16.out hylt z3; clear ho hb16) | (go_at_call 11; refine (sameF (RowAt.ofOwn O16.out) (YROW.out.below B16.out (Nat.le_refl _)) (by omega)).mono ?_; rintro e w17 ⟨rfl, hb17⟩; have B17 : Hid (Below w15.heap.size w15 w17) := B16.out.trans (hb17.mono B16.out.size); have z5 := cell_kept B17.out hylt z3; clear hb17))
    go_wp2_with fail
    refine (num_anyL e3 _).mono ?_
    rintro e w17' ⟨rfl, hw⟩
    rw [hw]
    clear hw w17'
    have BEL := hidD (B15.out.trans (B17.out.mono B15.out.size))
    have XK17 := hidD (XK15.out.below B17.out XK15.out.lt)
    by_cases he0 : e3 = 0
    · have hj := HJ3.out he0
      subst hj
      have hne : (e3 != 0) = false := by simpa using he0
      go_wp2_with fail
      refine (cJournal XK17.out).mono ?_
      rintro e w17' ⟨rfl, hw⟩
      rw [hw]
      clear hw w17'
      go_wp2
      go_ret
      exact ⟨rfl, BEL.out⟩
    · have hne : (e3 != 0) = true := by simpa using he0
      go_wp2
      go_ret
      exact ⟨rfl, BEL.out⟩
  · have HN := hidD hN
    clear hN
    go_enter Tryz.func5, Tryz.ntmps5
    go_wp2_with fail
    refine (mounts_any _ (HG.out.below T0.out.bel)).mono ?_
    rintro e w1 ⟨rfl, hb1⟩
    have T1 := hidD (T0.out.below hb1)
    have k0 := T1.out.cell 0
    have k1 := T1.out.cell 1
    have k2 := T1.out.cell 2
    simp at k0 k1 k2
    clear hb1 T0
    go_wp2_with fail
    refine (cMount fold (HD.out.below T1.out.bel (Nat.le_refl _)) HSL.out space ⟨#[]⟩ (by decide)).mono ?_
    intro e w2 hm
    rw [CMnt, if_neg HN.out] at hm
    obtain ⟨rfl, hb2⟩ := hm
    have T2 := hidD (T1.out.below hb2)
    have k0 := T2.out.cell 0
    have k1 := T2.out.cell 1
    have k2 := T2.out.cell 2
    simp at k0 k1 k2
    clear hb2 T1
    go_wp2_with fail
    refine (refMount fold (HD.out.below T2.out.bel (Nat.le_refl _)) HSL.out space).mono ?_
    intro e w3 hm
    rw [CMnt, if_neg HN.out] at hm
    obtain ⟨rfl, hb3⟩ := hm
    have T3 := hidD (T2.out.below hb3)
    clear hb3 T2 k0 k1 k2
    generalize mountN fold space L = nn at *
    go_wp2_with fail
    refine (num_anyL nn _).mono ?_
    rintro e w3' ⟨rfl, hw⟩
    rw [hw]
    clear hw w3'
    go_wp2
    go_ret
    exact ⟨rfl, T3.out.bel⟩
end Go.Proofs.YtehkdjdflgknnaaGreatDoor
