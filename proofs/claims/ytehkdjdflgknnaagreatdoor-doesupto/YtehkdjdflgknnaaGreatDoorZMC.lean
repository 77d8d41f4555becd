/- The law Does: what its rounds lean on. -/
import Derived.Test.YtehkdjdflgknnaaGreatDoorZMB2
import Derived.Deep.RegionHeld3
namespace Go.Proofs.YtehkdjdflgknnaaGreatDoor
open Go.RowKit
set_option linter.unusedVariables false
set_option linter.unusedSimpArgs false

theorem info50 : (Tryz.prog.info? 50).map (fun i => (i.zero, i.size, i.bytes)) = some (some (.pointer none), 1, 8) := by kernel_rfl
theorem info53 : (Tryz.prog.info? 53).map (fun i => (i.zero, i.size, i.bytes)) = some (some (.pointer none), 1, 8) := by kernel_rfl
theorem cell_newT (T : TypeId) (u : World) (v : Value) : ∀ j x, [v][j]? = some x → (u.alloc (.cells #[v] T)).cell? ((⟨u.heap.size, 0, none⟩ : Addr).add j) = some x := by
  intro j x hx
  have : (⟨u.heap.size, 0, none⟩ : Addr).add j = ⟨u.heap.size, j, none⟩ := by unfold Addr.add; split <;> simp_all
  rw [this, cell_of_row _ _ _ #[v] T (0, 0) (heap_alloc_new u _)]
  simpa using hx

theorem CMnt.zero {T : TypeId} {w : World} {fold : Bool} {space : Int} {rest : List Value} {n : Int} {R : Value → World → Prop} {r : Ending} {w' : World} (h : CMnt T w fold space rest n R r w') (hn : n = 0) : ∃ vb v', r = .returned (.tuple #[.pointer (some ⟨vb, 0, none⟩), .int .i64 0]) ∧ w.heap.size ≤ vb ∧ Vk T w' vb v' fold space rest ∧ R v' w' ∧ Below w.heap.size w w' := by
  unfold CMnt at h
  rwa [if_pos hn] at h
theorem CMnt.err {T : TypeId} {w : World} {fold : Bool} {space : Int} {rest : List Value} {n : Int} {R : Value → World → Prop} {r : Ending} {w' : World} (h : CMnt T w fold space rest n R r w') (hn : ¬ n = 0) : r = .returned (.tuple #[.pointer none, .int .i64 n]) ∧ Below w.heap.size w w' := by
  unfold CMnt at h
  rwa [if_neg hn] at h

/-- A box of some type. -/
structure Tb (T : TypeId) (w : World) (cs : Array Value) (u : World) : Prop where
  bel : Below w.heap.size w u
  box : u.heap[w.heap.size]? = some (.cells cs T (0, 0))
theorem Tb.start (T : TypeId) (w : World) (cs : Array Value) : Tb T w cs (w.alloc (.cells cs T)) := ⟨(Below.refl _ _).alloc (Nat.le_refl _) _, heap_alloc_new w _⟩
theorem Tb.lt {T : TypeId} {w u : World} {cs : Array Value} (h : Tb T w cs u) : w.heap.size < u.heap.size := (Array.getElem?_eq_some_iff.1 h.box).1
theorem Tb.below {T : TypeId} {w u u' : World} {cs : Array Value} (h : Tb T w cs u) (hb : Below u.heap.size u u') : Tb T w cs u' := ⟨h.bel.trans (hb.mono h.bel.size), (hb.block _ h.lt).trans h.box⟩
theorem Tb.cell {T : TypeId} {w u : World} {cs : Array Value} (h : Tb T w cs u) (j : Nat) : u.cell? ⟨w.heap.size, j, none⟩ = cs[j]? := Lib.cell_of_heap h.box j

theorem DoA.num {T : TypeId} {w : World} {vb : Nat} {fold : Bool} {space : Int} {rest : List Value} {x : Except Int (List EntD)} {r : Ending} {w' : World} (h : DoA T w vb fold space rest x r w') : r = .returned (.int .i64 (retOf x)) := by
  cases x with
  | error n => exact h.1
  | ok M => exact h.1
theorem DoA.offs {T : TypeId} {w : World} {vb : Nat} {v : Value} {fold : Bool} {space : Int} {rest : List Value} {x : Except Int (List EntD)} {r : Ending} {w' : World} (h : DoA T w vb fold space rest x r w') (hk : Vk T w vb v fold space rest) : Off [T] w w' := by
  cases x with
  | error n => exact Off.of_below h.2
  | ok M =>
    obtain ⟨_, v', _, _, hg⟩ := h
    exact Off.of_vk hk hg
theorem DoA.bel {T : TypeId} {w0 w : World} {vb : Nat} {fold : Bool} {space : Int} {rest : List Value} {x : Except Int (List EntD)} {r : Ending} {w' : World} (h : DoA T w vb fold space rest x r w') (h0 : Below w0.heap.size w0 w) (hv : w0.heap.size ≤ vb) : Below w0.heap.size w0 w' := by
  cases x with
  | error n => exact h0.trans (h.2.mono h0.size)
  | ok M =>
    obtain ⟨_, v', _, _, hg⟩ := h
    exact h0.grown hg h0.size (fun q hq => by cases hq; exact hv)
theorem Vols.do2 {w0 w w1 w2 : World} {ds : List VolD} {xv yv jv : Value} {r1 r2 : Ending} {o : OpD} (h : Vols w0 w ds) (hr : Rows3 w0 w ds xv yv jv) {k : Nat} (hk : k < ds.length)
    (h1 : DoA 92 w ds[k].xb ds[k].fold ds[k].space [.string ds[k].jn] (doesL ds[k].fold ds[k].space ds[k].L o) r1 w1) (h2 : DoA 65 w1 ds[k].yb ds[k].fold ds[k].space [] (doesL ds[k].fold ds[k].space ds[k].L o) r2 w2) :
    ∃ es : List VolD, es.length = ds.length ∧ Vols w0 w2 es ∧ Rows3 w0 w2 es xv yv jv ∧ Off [92, 65] w w2 := by
  have hd := h.each _ (List.getElem_mem hk)
  cases hx : doesL ds[k].fold ds[k].space ds[k].L o with
  | error n =>
    rw [hx] at h1 h2
    have b : Below w.heap.size w w2 := h1.2.trans (h2.2.mono h1.2.size)
    exact ⟨ds, rfl, h.below b, hr.below b, Off.of_below b⟩
  | ok M =>
    rw [hx] at h1 h2
    obtain ⟨_, v1, k1, o1, g1⟩ := h1
    obtain ⟨_, v2, k2, o2, g2⟩ := h2
    obtain ⟨hv, ho⟩ := h.did hk k1 o1 g1 k2 o2 g2 (does_ok hd.ok hx)
    exact ⟨_, by simp, hv, (hr.off ho (by decide) (by decide) (by decide)).set hk v1 v2 M, ho⟩
theorem Off.cell {ts : List TypeId} {w w' : World} (h : Off ts w w') {base e size n : Nat} {v : Value} {xs : List Value} (hr : w.ownsRow base e size v n xs) (hT : e ∉ ts) {g k : Nat} (hg : v.ownBlock = some g) {x : Value} (hc : w.cell? ⟨g, k, none⟩ = some x) : w'.cell? ⟨g, k, none⟩ = some x := by
  obtain ⟨cur, hcur⟩ := row_typed hr hg
  rw [← hc]
  rw [Lib.cell_of_heap hcur, Lib.cell_of_heap ((h g _ e hcur hT).trans hcur)]

set_option maxHeartbeats 16000000 in
set_option maxRecDepth 100000 in
theorem does_any (v1 v2 : Value) (D : List DiskD) (S : List StepD) (w : World) (hg : Gd w) (h1 : DiskRow w v1 D) (h2 : StepRow w v2 S) (l3 : D.length + S.length ≤ 1000000) (hD : ∀ d ∈ D, d.ok w) (hS : ∀ s ∈ S, s.o.small ∧ -9223372036854775808 ≤ s.a ∧ s.a ≤ 9223372036854775807) :
    Calls Tryz.prog 4 #[v1, v2] w fun e w' => e = .returned (.bool true) ∧ Below w.heap.size w w' := by
  obtain ⟨i50, hi50, hz50, hy50, hb50⟩ := info_parts info50
  obtain ⟨i53, hi53, hz53, hy53, hb53⟩ := info_parts info53
  obtain ⟨i9, hi9, hz9, hy9, hb9⟩ := info_parts info9
  have H1 := hidD h1
  have H2 := hidD h2
  have HG := hidD hg
  have HD := hidD hD
  have HS := hidD hS
  obtain ⟨a1, c1, rfl⟩ := h1.val
  obtain ⟨a2, c2, rfl⟩ := h2.val
  clear h1 h2 hg hD hS
  go_enter Tryz.func4, Tryz.ntmps4
  go_wp2_with fail
  refine (mounts_any w HG.out).mono ?_
  rintro e w1 ⟨rfl, hb1⟩
  have V0 := hidD (Vols.nil hb1)
  have R0 : Hid (Rows3 w w1 [] (.slice none 0 0) (.slice none 0 0) (.slice none 0 0)) := ⟨World.ownsRow_nil _ _ _ _, World.ownsRow_nil _ _ _ _, World.ownsRow_nil _ _ _ _⟩
  clear hb1
  go_wp2
  go_loopw [6, 7, 8, 9] (fun xv yv jv iv wr => ∃ (k : Nat) (ds : List VolD), k ≤ D.length ∧ iv = .int .i64 k ∧ ds.length ≤ k ∧ Hid (Vols w wr ds) ∧ Hid (Rows3 w wr ds xv yv jv)) (fun _ _ _ iv _ => D.length - (intOf iv).toNat)
  case atStart => exact ⟨0, [], Nat.zero_le _, rfl, Nat.le_refl _, V0, R0⟩
  case round =>
    clear V0 R0
    obtain ⟨k, ds, hk, rfl, hdk, HV, HR⟩ := hrel
    obtain ⟨xa, xc, hxv⟩ := row_len HR.out.x
    obtain ⟨ya, yc, hyv⟩ := row_len HR.out.y
    obtain ⟨ja, jc, hjv⟩ := row_len HR.out.j
    subst hxv hyv hjv
    by_cases hlt : k < D.length
    · obtain ⟨b, off, c, hv1, hlb, hat⟩ := disk_parts H1.out hlt
      cases hv1
      have hcw := (hat.below HV.out.bel hlb) k hlt
      have hd := HD.out _ (List.getElem_mem hlt)
      generalize D[k] = d at *
      obtain ⟨dv, dL, df, dsp, dj⟩ := d
      dsimp only at hcw
      obtain ⟨q0, q1, q2, q3⟩ := hcw
      have HDk := hidD hd
      obtain ⟨da, dc, hdv⟩ := hd.1.val
      dsimp only at hdv
      subst hdv
      have hdl : dL.length ≤ 2000000 := hd.2.1.1
      have hdj : dj.size ≤ 1500000 := hd.2.2
      have HSm : Hid (SmallL dL) := hd.2.1
      have HRw : Hid (RowZ w (.slice da dL.length dc) dL) := hd.1
      clear hd hat
      have T1 := hidD (Tb.start 49 wr #[.slice da dL.length dc, .bool df, .int .i64 dsp, .string dj])
      by_cases hN : mountN df dsp dL = 0
      · go_wp2_with fail
        refine (roomy_s (HRw.out.below (HV.out.bel.trans (T1.out.bel.mono HV.out.bel.size)) (Nat.le_refl _)) hdl).mono ?_
        rintro e w2 ⟨v2, rfl, pr2, sp2, hb2⟩
        obtain ⟨ra, rc, hv2⟩ := pr2.rm.val
        subst hv2
        have T2 := hidD (T1.out.below hb2)
        have P2 := hidD pr2
        have S2 := hidD sp2
        have k0 := T2.out.cell 0
        have k1 := T2.out.cell 1
        have k2 := T2.out.cell 2
        have k3 := T2.out.cell 3
        simp at k0 k1 k2 k3
        clear pr2 sp2 hb2 T1
        go_wp2_with fail
        refine (cMount df P2.out.rm HSm.out dsp dj (by omega)).mono ?_
        intro e w3 hm3
        obtain ⟨xb, xv, rfl, hxb, hxk, hxr, hb3⟩ := hm3.zero hN
        have T3 := hidD (T2.out.below hb3)
        have P3 := hidD (P2.out.below hb3)
        have S3 := hidD (S2.out.below hb3)
        have XK := hidD hxk
        have XR := hidD hxr
        have B23 := hidD hb3
        have k0 := T3.out.cell 0
        have k1 := T3.out.cell 1
        have k2 := T3.out.cell 2
        have k3 := T3.out.cell 3
        simp at k0 k1 k2 k3
        clear hm3 hb3 P2 S2 hxk hxr
        go_wp2_with fail
        refine (refMountZ df (HRw.out.below (HV.out.bel.trans (T3.out.bel.mono HV.out.bel.size)) (Nat.le_refl _)) HSm.out dsp).mono ?_
        intro e w4 hm4
        obtain ⟨yb, yv, rfl, hyb, hyk, hyv, hb4⟩ := hm4.zero hN
        have hyv' : yv = .slice da dL.length dc := hyv
        subst hyv'
        have T4 := hidD (T3.out.below hb4)
        have P4 := hidD (P3.out.below hb4)
        have S4 := hidD (S3.out.below hb4)
        have YK := hidD hyk
        have B34 := hidD hb4
        have k0 := T4.out.cell 0
        simp at k0
        clear hm4 hb4 T3 P3 S3 hyk hyv
        go_wp2_with fail
        refine (kept_z P4.out hdl).mono ?_
        rintro e w5 ⟨rfl, hb5⟩
        have T5 := hidD (T4.out.below hb5)
        have S5 := hidD (S4.out.below hb5)
        have B45 := hidD hb5
        clear hb5 T4 P4 S4
        go_wp2_with fail
        refine (spoil_s S5.out).mono ?_
        rintro e w6 ⟨rfl, row, hg6, hrow⟩
        have B6 := hidD (T5.out.bel.grown hg6 T5.out.bel.size (fun q hq => by have := (hrow q hq).1; simp at this; omega))
        have VN := hidD (VolS.mounted (HV.out.bel.trans (T2.out.bel.mono HV.out.bel.size)) HDk.out hN hxb XK.out XR.out B23.out hyb YK.out B34.out B45.out hg6 (fun g hg => (hrow g hg).2))
        have hz2 := T2.out.bel.size
        have hz3 := B23.out.size
        have V6 := hidD ((HV.out.below B6.out).add VN.out (fun e he => ⟨by have := (HV.out.each e he).xk.lt; dsimp only; omega, by have := (HV.out.each e he).yk.lt; dsimp only; omega⟩))
        have R6 := hidD (HR.out.below B6.out)
        have BX6 : Hid (w6.heap[wr.heap.size]? = some (.cells #[.slice da dL.length dc, .bool df, .int .i64 dsp, .string dj] 49 (0, 0))) := (hg6.block wr.heap.size T5.out.lt (fun e => by have := (hrow _ e.symm).1; simp at this; omega)).trans T5.out.box
        clear hg6 hrow T5 S5 T2 XK XR B23 YK B34 B45 VN
        go_wp2_with (first | (go_at_call 14; refine (num_anyL _ _).mono ?_; rintro e wz ⟨rfl, hwz⟩; rw [hwz]; clear hwz) | (at_builtin; refine wpList_append_own _ rfl _ _ 45 rfl w.heap.size 50 i50 _ 1 8 Tryz.underlying45 hi50 hz50 hy50 hb50 rfl (by decide) _ _ _ rfl (R6.out.x.alloc _) ⟨_, 0, none⟩ 1 1 [.pointer (some ⟨xb, 0, none⟩)] rfl rfl (cell_newT 50 _ _) (fun u hu => by simp at hu; subst hu; rfl) (by unfold maxLen; omega) (by omega) (by have := V6.out.bel.size; simp only [World.size_alloc]; omega) ?_; intro v7 w7 hown7 hg7 _; have o7 := (Off.of_below (ts := []) ((Below.refl w6.heap.size w6).alloc (Nat.le_refl _) _)).trans (Off.of_row (R6.out.x.alloc _) hg7); have y7 := o7.row R6.out.y (by decide); have j7 := o7.row R6.out.j (by decide); have b7 := (V6.out.bel.alloc V6.out.bel.size _).grown hg7 (by have := V6.out.bel.size; simp only [World.size_alloc]; omega) (fun q hq => (R6.out.x.lt q hq).1); have V7 := V6.out.off o7 b7 (by decide) (by decide) (by decide); have X7 := (o7 _ _ 49 BX6.out (by decide)).trans BX6.out) | (at_builtin; refine wpList_append_own _ rfl _ _ 46 rfl w.heap.size 53 i53 _ 1 8 Tryz.underlying46 hi53 hz53 hy53 hb53 rfl (by decide) _ _ _ rfl (y7.alloc _) ⟨_, 0, none⟩ 1 1 [.pointer (some ⟨yb, 0, none⟩)] rfl rfl (cell_newT 53 _ _) (fun u hu => by simp at hu; subst hu; rfl) (by unfold maxLen; omega) (by omega) (by have := b7.size; simp only [World.size_alloc]; omega) ?_; intro v8 w8 hown8 hg8 _; have o8 := (Off.of_below (ts := []) ((Below.refl w7.heap.size w7).alloc (Nat.le_refl _) _)).trans (Off.of_row (y7.alloc _) hg8); have j8 := o8.row j7 (by decide); have x8 := o8.row hown7 (by decide); have b8 := (b7.alloc b7.size _).grown hg8 (by have := b7.size; simp only [World.size_alloc]; omega) (fun q hq => (y7.lt q hq).1); have V8 := V7.off o8 b8 (by decide) (by decide) (by decide); have X8 := (o8 _ _ 49 X7 (by decide)).trans X7; have k3 := Lib.cell_of_heap X8 3; simp at k3) | (at_builtin; refine wpList_append_own _ rfl _ _ 47 rfl w.heap.size 9 i9 _ 1 16 Tryz.underlying47 hi9 hz9 hy9 hb9 rfl (by decide) _ _ _ rfl (j8.alloc _) ⟨_, 0, none⟩ 1 1 [.string dj] rfl rfl (cell_newT 9 _ _) (fun u hu => by simp at hu; subst hu; rfl) (by unfold maxLen; omega) (by omega) (by have := b8.size; simp only [World.size_alloc]; omega) ?_; intro v9 w9 hown9 hg9 _; have o9 := (Off.of_below (ts := []) ((Below.refl w8.heap.size w8).alloc (Nat.le_refl _) _)).trans (Off.of_row (j8.alloc _) hg9); have y9 := o9.row hown8 (by decide); have x9 := o9.row x8 (by decide); have b9 := (b8.alloc b8.size _).grown hg9 (by have := b8.size; simp only [World.size_alloc]; omega) (fun q hq => (j8.lt q hq).1); have V9 := V8.off o9 b9 (by decide) (by decide) (by decide)))
        refine ⟨⟨k + 1, _, by omega, by go_num, ?_, hidD V9, hidD ⟨?_, ?_, ?_⟩⟩, by simp [intOf]; omega⟩
        · simp; omega
        · rw [List.map_append, List.length_append]; exact x9
        · rw [List.map_append, List.length_append]; exact y9
        · rw [List.map_append, List.length_append]; exact hown9
      · go_wp2_with fail
        refine (roomy_s (HRw.out.below (HV.out.bel.trans (T1.out.bel.mono HV.out.bel.size)) (Nat.le_refl _)) hdl).mono ?_
        rintro e w2 ⟨v2, rfl, pr2, sp2, hb2⟩
        obtain ⟨ra, rc, hv2⟩ := pr2.rm.val
        subst hv2
        have T2 := hidD (T1.out.below hb2)
        have P2 := hidD pr2
        have S2 := hidD sp2
        have k0 := T2.out.cell 0
        have k1 := T2.out.cell 1
        have k2 := T2.out.cell 2
        have k3 := T2.out.cell 3
        simp at k0 k1 k2 k3
        clear pr2 sp2 hb2 T1
        go_wp2_with fail
        refine (cMount df P2.out.rm HSm.out dsp dj (by omega)).mono ?_
        intro e w3 hm3
        obtain ⟨rfl, hb3⟩ := hm3.err hN
        have T3 := hidD (T2.out.below hb3)
        have P3 := hidD (P2.out.below hb3)
        have S3 := hidD (S2.out.below hb3)
        have k0 := T3.out.cell 0
        have k1 := T3.out.cell 1
        have k2 := T3.out.cell 2
        have k3 := T3.out.cell 3
        simp at k0 k1 k2 k3
        clear hm3 hb3 T2 P2 S2
        go_wp2_with fail
        refine (refMountZ df (HRw.out.below (HV.out.bel.trans (T3.out.bel.mono HV.out.bel.size)) (Nat.le_refl _)) HSm.out dsp).mono ?_
        intro e w4 hm4
        obtain ⟨rfl, hb4⟩ := hm4.err hN
        have T4 := hidD (T3.out.below hb4)
        have P4 := hidD (P3.out.below hb4)
        have S4 := hidD (S3.out.below hb4)
        have k0 := T4.out.cell 0
        simp at k0
        clear hm4 hb4 T3 P3 S3
        go_wp2_with fail
        refine (kept_z P4.out hdl).mono ?_
        rintro e w5 ⟨rfl, hb5⟩
        have T5 := hidD (T4.out.below hb5)
        have S5 := hidD (S4.out.below hb5)
        clear hb5 T4 P4 S4
        go_wp2_with fail
        refine (spoil_s S5.out).mono ?_
        rintro e w6 ⟨rfl, row, hg6, hrow⟩
        have B6 := hidD (T5.out.bel.grown hg6 T5.out.bel.size (fun q hq => by have := (hrow q hq).1; simp at this; omega))
        clear hg6 hrow T5 S5
        generalize mountN df dsp dL = nn at *
        have hnn : (nn != nn) = false := by simp
        go_wp2_with (go_at_call 14; refine (num_anyL _ _).mono ?_; rintro e w' ⟨rfl, rfl⟩)
        exact ⟨⟨k + 1, ds, by omega, by go_num, by omega, hidD (HV.out.below B6.out), hidD (HR.out.below B6.out)⟩, by simp [intOf]; omega⟩
    · have I0 := hidD (LawInv.start w wr HV.out.bel)
      have B0 : Hid (Below wr.heap.size wr (wr.alloc (.cells #[.slice none 0 0, .slice none 0 0, .slice none 0 0] 30))) := (Below.refl _ _).alloc (Nat.le_refl _) _
      have V0 := hidD (HV.out.below B0.out)
      have R0 := hidD (HR.out.below B0.out)
      clear HV HR B0 HD H1
      generalize hbk : wr.heap.size = bk at *
      go_wp2
      go_loopw [5, 18] (fun okv iv wr2 => ∃ (i kk : Nat) (es : List VolD), i ≤ S.length ∧ okv = .bool true ∧ iv = .int .i64 i ∧ kk ≤ i ∧ es.length = ds.length ∧ Hid (LawInv w bk kk wr2) ∧ Hid (Vols w wr2 es) ∧ Hid (Rows3 w wr2 es (.slice xa ds.length xc) (.slice ya ds.length yc) (.slice ja ds.length jc))) (fun _ iv _ => S.length - (intOf iv).toNat)
      case atStart => exact ⟨0, 0, ds, Nat.zero_le _, rfl, rfl, Nat.le_refl _, rfl, I0, V0, R0⟩
      case round =>
        clear I0 V0 R0
        obtain ⟨i, kk, es, hi, rfl, rfl, hkk, hel, HI, HV, HR⟩ := hrel
        have hdl : ds.length ≤ D.length := by omega
        by_cases hlt2 : i < S.length ∧ 0 < ds.length
        · obtain ⟨hlt2, hpos⟩ := hlt2
          obtain ⟨b, off, c, hv2, hlb, hat⟩ := step_parts H2.out hlt2
          cases hv2
          obtain ⟨hsm, ha0, ha1⟩ := HS.out _ (List.getElem_mem hlt2)
          have HAT := hidD (fun (u : World) (hu : Below w.heap.size w u) => (hat.below hu hlb) i hlt2)
          clear hat
          generalize S[i] = st at *
          obtain ⟨sk, sa, so⟩ := st
          dsimp only at hsm ha0 ha1 HAT
          have hq := HAT.out _ HV.out.bel
          obtain ⟨q0, q1, q2⟩ := hq
          have o0 : wr.cell? ⟨b, off + i * 8 + 2, none⟩ = some (.int .i64 so.kind) := q2 0 _ rfl
          have o1 := q2 1 _ rfl
          have o2 := q2 2 _ rfl
          have o3 := q2 3 _ rfl
          have o4 := q2 4 _ rfl
          have o5 := q2 5 _ rfl
          clear q2
          go_wp2_with fail
          refine (pick_any sa ds.length _ hpos (by omega) ha0 ha1).mono ?_
          rintro e wz ⟨k, hk, rfl, hwz⟩
          rw [hwz]
          clear hwz wz
          have hke : k < es.length := by omega
          have hX := HR.out.x
          have hY := HR.out.y
          have hJ := HR.out.j
          rw [hel] at hX hY hJ
          obtain ⟨gx, hxa, cx⟩ := own_ptr hX hk
          obtain ⟨gy, hya, cy⟩ := own_ptr hY hk
          obtain ⟨gj, hja, cj⟩ := own_ptr hJ hk
          subst hxa hya hja
          simp only [List.getElem?_map, List.getElem?_eq_getElem hke, Option.map_some, xP, yP, jP] at cx cy cj
          clear hX hY hJ
          have VS := hidD (HV.out.each _ (List.getElem_mem hke))
          by_cases k1 : sk = 1
          · subst k1
            have HDX := hidD (fun (u : World) (hu : Below wr.heap.size wr u) => (cDo ((VS.out.off (Off.of_below (ts := []) hu) (by simp) (by simp) (by simp)).xk) (RowAt.ofOwn (VS.out.off (Off.of_below (ts := []) hu) (by simp) (by simp) (by simp)).xr) VS.out.ok (HG.out.below (HV.out.bel.trans (hu.mono HV.out.bel.size))) so hsm VS.out.s0 (by have := VS.out.s1; omega)).mono (fun r w' h => DoA.from_below hu h))
            go_wp2
            go_region_held3 (fun u => u.cell? ⟨gx, k, none⟩ = some (.pointer (some ⟨es[k].xb, 0, none⟩)) ∧ u.cell? ⟨b, off + i * 8 + 2, none⟩ = some (.int .i64 so.kind) ∧ u.cell? ⟨b, off + i * 8 + 2 + 1, none⟩ = some (.string so.path) ∧ u.cell? ⟨b, off + i * 8 + 2 + 2, none⟩ = some (.string so.dest) ∧ u.cell? ⟨b, off + i * 8 + 2 + 3, none⟩ = some (.int .i64 so.id) ∧ u.cell? ⟨b, off + i * 8 + 2 + 4, none⟩ = some (.int .i64 so.size) ∧ u.cell? ⟨b, off + i * 8 + 2 + 5, none⟩ = some (.int .i64 so.mode)) (go_keep) (first | (go_at_call 22; refine (HDX.out _ (below_drewK wr 1)).mono ?_; intro r w5 hd5; obtain rfl := hd5.num; have of5 := hd5.offs VS.out.xk; have bl5 := hd5.bel HV.out.bel VS.out.xge; have m0 := of5.cell HR.out.x (by decide) rfl cx; have n0 := of5.cell HR.out.y (by decide) rfl cy; obtain ⟨z0, z1, z2⟩ := HAT.out _ bl5; have y0 : w5.cell? ⟨b, off + i * 8 + 2, none⟩ = some (.int .i64 so.kind) := z2 0 _ rfl; have y1 := z2 1 _ rfl; have y2 := z2 2 _ rfl; have y3 := z2 3 _ rfl; have y4 := z2 4 _ rfl; have y5 := z2 5 _ rfl; clear z2))
            have VY5 := hidD (show Vk 65 w5 es[k].yb es[k].yv es[k].fold es[k].space [] ∧ RowZ w5 es[k].yv es[k].L from ⟨of5.vk VS.out.yk (by decide), VS.out.yr.elim (fun hr => hr.below bl5 (Nat.le_refl _)) (fun hr => .inl (RowAt.ofOwn (of5.row hr (by decide))))⟩)
            have HDY := hidD (fun (u : World) (hu : Below w5.heap.size w5 u) => (refDoesZ (VY5.out.1.below hu VY5.out.1.lt) (VY5.out.2.below hu (Nat.le_refl _)) VS.out.ok so hsm VS.out.s0 (by have := VS.out.s1; omega)).mono (fun r w' h => DoA.from_below hu h))
            go_wp2
            go_region_held3 (fun u => u.cell? ⟨gy, k, none⟩ = some (.pointer (some ⟨es[k].yb, 0, none⟩)) ∧ u.cell? ⟨b, off + i * 8 + 2, none⟩ = some (.int .i64 so.kind) ∧ u.cell? ⟨b, off + i * 8 + 2 + 1, none⟩ = some (.string so.path) ∧ u.cell? ⟨b, off + i * 8 + 2 + 2, none⟩ = some (.string so.dest) ∧ u.cell? ⟨b, off + i * 8 + 2 + 3, none⟩ = some (.int .i64 so.id) ∧ u.cell? ⟨b, off + i * 8 + 2 + 4, none⟩ = some (.int .i64 so.size) ∧ u.cell? ⟨b, off + i * 8 + 2 + 5, none⟩ = some (.int .i64 so.mode)) (go_keep) (first | (go_at_call 23; refine (HDY.out _ (below_drewK w5 1)).mono ?_; intro r w7 hd7; obtain rfl := hd7.num; have of7 := hd7.offs VY5.out.1; have bl7 := hd7.bel bl5 VS.out.yge; have m7 := of7.cell (of5.row HR.out.y (by decide)) (by decide) rfl n0; obtain ⟨z0, z1, z2⟩ := HAT.out _ bl7; have x0 : w7.cell? ⟨b, off + i * 8 + 2, none⟩ = some (.int .i64 so.kind) := z2 0 _ rfl; have x1 := z2 1 _ rfl; have x2 := z2 2 _ rfl; have x3 := z2 3 _ rfl; have x4 := z2 4 _ rfl; have x5 := z2 5 _ rfl; clear z2))
            obtain ⟨es', hel', hv7, hr7, ho7⟩ := Vols.do2 HV.out HR.out hke hd5 hd7
            have I7 := hidD (HI.out.off ho7 hv7.bel (by decide) (by decide) (by decide) (by decide))
            have V7 := hidD hv7
            have R7 := hidD hr7
            have hel2 : es'.length = ds.length := by omega
            clear hv7 hr7 ho7 hd5 hd7 HDX HDY VS VY5 of5 of7 HI HV HR
            generalize retOf (doesL es[k].fold es[k].space es[k].L so) = rr at *
            have hrr : (rr == rr) = true := by simp
            go_wp2_with (first | (go_at_call 14; refine (num_anyL _ _).mono ?_; rintro e wz ⟨rfl, hwz⟩; rw [hwz]; clear hwz wz) | (go_at_call 16; refine (looks_u I7.out (by omega)).mono ?_; rintro e w8 ⟨rfl, nn, hw8⟩; rw [hw8]; clear hw8))
            exact ⟨⟨i + 1, kk, _, by omega, rfl, by go_num, by omega, by omega, hidD (I7.out.below (below_drewK _ nn)), hidD (V7.out.below (below_drewK _ nn)), hidD (R7.out.below (below_drewK _ nn))⟩, by simp [intOf]; omega⟩
          · by_cases k2 : sk = 2
            · subst k2
              have few := VS.out.ok.few
              have HT := hidD (cTree VS.out.xk (RowAt.ofOwn VS.out.xr) (by omega))
              go_wp2_with fail
              refine HT.out.mono ?_
              rintro e w5 ⟨v5, rfl, ho5, hb5⟩
              obtain ⟨a5, m5, c5, hv5⟩ := own_shape ho5
              subst hv5
              have n0 := (Off.of_below (ts := []) hb5).cell HR.out.y (by decide) rfl cy
              obtain ⟨ay, sy, hyv⟩ := (VS.out.vy HV.out.bel).val
              have VS5 := hidD (VS.out.off (Off.of_below (ts := []) hb5) (by simp) (by simp) (by simp))
              have bl5 := HV.out.bel.trans (hb5.mono HV.out.bel.size)
              have e0 := VS5.out.yk.vol.c0
              rw [hyv] at e0
              have HSM := hidD (sameZ (RowAt.ofOwn ho5) (VS5.out.vy bl5) (by omega))
              rw [hyv] at HSM
              go_wp2_with fail
              refine HSM.out.mono ?_
              rintro e w6 ⟨rfl, hb6⟩
              have b56 : Below wr.heap.size wr w6 := hb5.trans (hb6.mono hb5.size)
              have HBV := hidD (book_v HI.out b56 (Nat.le_refl _) b56.size (by omega) (by omega) (own_below hb6 ho5))
              go_wp2_with fail
              refine HBV.out.mono ?_
              rintro e w7 ⟨rfl, hi7, _, ho7⟩
              have I7 := hidD hi7
              have V7 := hidD (HV.out.off ho7 hi7.bel (by decide) (by decide) (by decide))
              have R7 := hidD (HR.out.off ho7 (by decide) (by decide) (by decide))
              clear hi7 ho7 HBV HSM HT VS VS5 HI HV HR
              go_wp2_with (first | (go_at_call 14; refine (num_anyL _ _).mono ?_; rintro e wz ⟨rfl, hwz⟩; rw [hwz]; clear hwz wz) | (go_at_call 16; refine (looks_u I7.out (by omega)).mono ?_; rintro e w8 ⟨rfl, nn, hw8⟩; rw [hw8]; clear hw8))
              exact ⟨⟨i + 1, kk + 1, _, by omega, rfl, by go_num, by omega, by omega, hidD (I7.out.below (below_drewK _ nn)), hidD (V7.out.below (below_drewK _ nn)), hidD (R7.out.below (below_drewK _ nn))⟩, by simp [intOf]; omega⟩
            · have e1 : (sk == 1) = false := by simpa using k1
              have e2 : (sk == 2) = false := by simpa using k2
              by_cases k3 : sk = 3
              · have e3 : (sk == 3) = true := by simpa using k3
                have HJ := hidD (cJournal VS.out.xk)
                have hjj : (es[k].jn.toList == es[k].jn.toList) = true := by simp
                have I7 := HI
                have V7 := HV
                have R7 := HR
                go_wp2_with (first | (go_at_call 25; refine HJ.out.mono ?_; rintro e wz ⟨rfl, hwz⟩; rw [hwz]; clear hwz wz) | (go_at_call 16; refine (looks_u I7.out (by omega)).mono ?_; rintro e w8 ⟨rfl, nn, hw8⟩; rw [hw8]; clear hw8))
                exact ⟨⟨i + 1, kk, _, by omega, rfl, by go_num, by omega, by omega, hidD (I7.out.below (below_drewK _ nn)), hidD (V7.out.below (below_drewK _ nn)), hidD (R7.out.below (below_drewK _ nn))⟩, by simp [intOf]; omega⟩
              · have e3 : (sk == 3) = false := by simpa using k3
                have I7 := HI
                have V7 := HV
                have R7 := HR
                go_wp2_with (first | (go_at_call 14; refine (num_anyL _ _).mono ?_; rintro e wz ⟨rfl, hwz⟩; rw [hwz]; clear hwz wz) | (go_at_call 16; refine (looks_u I7.out (by omega)).mono ?_; rintro e w8 ⟨rfl, nn, hw8⟩; rw [hw8]; clear hw8))
                exact ⟨⟨i + 1, kk, _, by omega, rfl, by go_num, by omega, by omega, hidD (I7.out.below (below_drewK _ nn)), hidD (V7.out.below (below_drewK _ nn)), hidD (R7.out.below (below_drewK _ nn))⟩, by simp [intOf]; omega⟩
        · have hcase : (¬ i < S.length) ∨ (i < S.length ∧ ds.length = 0) := by omega
          rcases hcase with h | ⟨h, h0⟩
          all_goals
            go_wp2
            clear hlt2 h
            try clear h0
            go_loopw [26] (fun kv wr3 => ∃ (q kk3 : Nat), q ≤ ds.length ∧ kv = .int .i64 q ∧ kk3 ≤ kk + q ∧ Hid (LawInv w bk kk3 wr3) ∧ Hid (Vols w wr3 es) ∧ Hid (Rows3 w wr3 es (.slice xa ds.length xc) (.slice ya ds.length yc) (.slice ja ds.length jc))) (fun kv _ => ds.length - (intOf kv).toNat)
            case atStart => exact ⟨0, kk, Nat.zero_le _, rfl, Nat.le_refl _, HI, HV, HR⟩
            case round =>
              clear HI HV HR
              obtain ⟨k, kk3, hk, rfl, hk3, HI, HV, HR⟩ := hrel
              by_cases hlt3 : k < ds.length
              · have hke : k < es.length := by omega
                have hX := HR.out.x
                have hY := HR.out.y
                have hJ := HR.out.j
                rw [hel] at hX hY hJ
                obtain ⟨gx, hxa, cx⟩ := own_ptr hX hlt3
                obtain ⟨gy, hya, cy⟩ := own_ptr hY hlt3
                obtain ⟨gj, hja, cj⟩ := own_ptr hJ hlt3
                subst hxa hya hja
                simp only [List.getElem?_map, List.getElem?_eq_getElem hke, Option.map_some, xP, yP, jP] at cx cy cj
                clear hX hY hJ
                have VS := hidD (HV.out.each _ (List.getElem_mem hke))
                have few := VS.out.ok.few
                have HT := hidD (cTree VS.out.xk (RowAt.ofOwn VS.out.xr) (by omega))
                go_wp2_with fail
                refine HT.out.mono ?_
                rintro e w5 ⟨v5, rfl, ho5, hb5⟩
                obtain ⟨a5, m5, c5, hv5⟩ := own_shape ho5
                subst hv5
                have n0 := (Off.of_below (ts := []) hb5).cell HR.out.y (by decide) rfl cy
                obtain ⟨ay, sy, hyv⟩ := (VS.out.vy HV.out.bel).val
                have VS5 := hidD (VS.out.off (Off.of_below (ts := []) hb5) (by simp) (by simp) (by simp))
                have bl5 := HV.out.bel.trans (hb5.mono HV.out.bel.size)
                have e0 := VS5.out.yk.vol.c0
                rw [hyv] at e0
                have HSM := hidD (sameZ (RowAt.ofOwn ho5) (VS5.out.vy bl5) (by omega))
                rw [hyv] at HSM
                go_wp2_with fail
                refine HSM.out.mono ?_
                rintro e w6 ⟨rfl, hb6⟩
                have b56 : Below wr.heap.size wr w6 := hb5.trans (hb6.mono hb5.size)
                have HJ := hidD (cJournal (VS5.out.xk.below hb6 VS5.out.xk.lt))
                have x6 := (Off.of_below (ts := []) b56).cell HR.out.x (by decide) rfl cx
                have j6 := (Off.of_below (ts := []) b56).cell HR.out.j (by decide) rfl cj
                have hjj : (es[k].jn.toList != es[k].jn.toList) = false := by simp
                have HBV := hidD (book_v HI.out b56 (Nat.le_refl _) b56.size (by omega) (by omega) (own_below hb6 ho5))
                go_wp2_with (go_at_call 25; refine HJ.out.mono ?_; rintro e wz ⟨rfl, hwz⟩; rw [hwz]; clear hwz wz)
                refine HBV.out.mono ?_
                rintro e w7 ⟨rfl, hi7, _, ho7⟩
                have I7 := hidD hi7
                have V7 := hidD (HV.out.off ho7 hi7.bel (by decide) (by decide) (by decide))
                have R7 := hidD (HR.out.off ho7 (by decide) (by decide) (by decide))
                clear hi7 ho7 HBV HSM HT VS VS5 HI HV HR
                go_wp2
                exact ⟨⟨k + 1, kk3 + 1, by omega, by go_num, by omega, I7, V7, R7⟩, by simp [intOf]; omega⟩
              · have HL := hidD (looks_u HI.out (by omega))
                go_wp2_with (go_at_call 16; refine HL.out.mono ?_; rintro e w8 ⟨rfl, nn, hw8⟩; rw [hw8]; clear hw8)
                go_ret
                exact ⟨rfl, HV.out.bel.trans (below_drewK _ nn)⟩
end Go.Proofs.YtehkdjdflgknnaaGreatDoor
