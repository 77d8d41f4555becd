/- IH, II, IJ, IK, IL: in one text. -/
import Derived.Test.YtpjjagalekolaaaGreatDoorP33
import Derived.Test.YtpjjagalekolaaaGreatDoorP20
/- Does a step wait for itself? -/
namespace Go.Proofs.YtpjjagalekolaaaGreatDoor
open Go.RowKit
set_option linter.unusedVariables false
set_option linter.unusedSimpArgs false

def boolV (seen : Nat → Bool) (n : Nat) : List Value := (List.range n).map fun i => Value.bool (seen i)
theorem boolV_len (seen : Nat → Bool) (n : Nat) : (boolV seen n).length = n := by simp [boolV]
theorem boolV_get (seen : Nat → Bool) (n i : Nat) (h : i < n) : (boolV seen n)[i]? = some (.bool (seen i)) := by simp [boolV, h]
theorem boolV_set (seen : Nat → Bool) (n i : Nat) (b : Bool) : (boolV seen n).set i (.bool b) = boolV (upN seen i b) n := by
  refine List.ext_getElem? (fun j => ?_)
  by_cases hj : j < n
  · rw [boolV_get _ _ _ hj]
    by_cases e : i = j
    · subst e
      rw [List.getElem?_set_self (by rw [boolV_len]; exact hj), upN_at]
    · rw [List.getElem?_set_ne e, boolV_get _ _ _ hj, upN_ne _ _ (fun h => e h.symm)]
  · rw [List.getElem?_eq_none (by rw [List.length_set, boolV_len]; omega), List.getElem?_eq_none (by rw [boolV_len]; omega)]
def cF (seen : Nat → Bool) : Nat → Nat
  | 0 => 0
  | n + 1 => cF seen n + (if seen n then 0 else 1)
theorem cF_same {a b : Nat → Bool} : ∀ n, (∀ x, x < n → a x = b x) → cF a n = cF b n
  | 0, _ => rfl
  | n + 1, h => by rw [cF, cF, cF_same n (fun x hx => h x (by omega)), h n (by omega)]
theorem cF_up {a : Nat → Bool} {x : Nat} (hx : a x = false) : ∀ n, x < n → cF (upN a x true) n + 1 = cF a n
  | 0, h => by omega
  | n + 1, h => by
    rw [cF, cF]
    by_cases e : x = n
    · subst e
      rw [upN_at, hx, cF_same (b := a) x (fun z hz => upN_ne _ _ (by omega))]
      simp
    · rw [upN_ne _ _ (by omega), ← cF_up hx n (by omega)]
      omega
def seenAt (w : World) (M i : Nat) : Bool := match w.cell? ⟨M, i, none⟩ with | some (.bool b) => b | _ => false
theorem cF_at {w : World} {M n : Nat} {seen : Nat → Bool} (h : Blk w M 4 (boolV seen n)) : cF (seenAt w M) n = cF seen n :=
  cF_same n (fun x hx => by rw [seenAt, h.cell x (boolV_get seen n x hx)])

/-- How far the search is. -/
structure Sch (E : Nat → List Nat) (L : List Nat) (k n : Nat) (W : List Nat) (seen : Nat → Bool) : Prop where
  s1 : ∀ y ∈ W, Rch E L y ∧ y < n
  s2 : ∀ y, seen y = true → Rch E L y
  c1 : ∀ y ∈ L, y ∈ W ∨ seen y = true
  c2 : ∀ x, seen x = true → ∀ y ∈ E x, y ∈ W ∨ seen y = true
  nk : seen k = false
  len : W.length + 800 * cF seen n ≤ 400 + 800 * n
theorem Sch.none {E : Nat → List Nat} {L : List Nat} {k n : Nat} {seen : Nat → Bool} (h : Sch E L k n [] seen) : ¬ Rch E L k := by
  intro hr
  have key : ∀ z, Rch E L z → seen z = true := fun z hz => by
    induction hz with
    | first y hy =>
      rcases h.c1 y hy with h | h
      · cases h
      · exact h
    | next x y _ hy ih =>
      rcases h.c2 x ih y hy with h | h
      · cases h
      · exact h
  have := h.nk
  rw [key k hr] at this
  cases this
theorem Sch.skip {E : Nat → List Nat} {L : List Nat} {k n x : Nat} {W : List Nat} {seen : Nat → Bool} (h : Sch E L k n (x :: W) seen) (hx : seen x = true) : Sch E L k n W seen where
  s1 := fun y hy => h.s1 y (List.mem_cons_of_mem _ hy)
  s2 := h.s2
  c1 := fun y hy => by
    rcases h.c1 y hy with h' | h'
    · rcases List.mem_cons.1 h' with rfl | h'
      · exact .inr hx
      · exact .inl h'
    · exact .inr h'
  c2 := fun z hz y hy => by
    rcases h.c2 z hz y hy with h' | h'
    · rcases List.mem_cons.1 h' with rfl | h'
      · exact .inr hx
      · exact .inl h'
    · exact .inr h'
  nk := h.nk
  len := by have := h.len; simp only [List.length_cons] at this; omega
theorem Sch.mark {E : Nat → List Nat} {L : List Nat} {k n x : Nat} {W : List Nat} {seen : Nat → Bool} (h : Sch E L k n (x :: W) seen) (hx : seen x = false) (hk : x ≠ k) (hE : ∀ y ∈ E x, y < n) (hl : (E x).length ≤ 800) : Sch E L k n (W ++ E x) (upN seen x true) where
  s1 := fun y hy => by
    rcases List.mem_append.1 hy with hy | hy
    · exact h.s1 y (List.mem_cons_of_mem _ hy)
    · exact ⟨.next x y (h.s1 x (by simp)).1 hy, hE y hy⟩
  s2 := fun y hy => by
    by_cases e : y = x
    · subst e; exact (h.s1 y (by simp)).1
    · rw [upN_ne _ _ e] at hy; exact h.s2 y hy
  c1 := fun y hy => by
    by_cases e : y = x
    · subst e; exact .inr (upN_at _ _ _)
    · rw [upN_ne _ _ e]
      rcases h.c1 y hy with h' | h'
      · rcases List.mem_cons.1 h' with h' | h'
        · exact absurd h' e
        · exact .inl (List.mem_append.2 (.inl h'))
      · exact .inr h'
  c2 := fun z hz y hy => by
    by_cases e : y = x
    · subst e; exact .inr (upN_at _ _ _)
    · rw [upN_ne _ _ e]
      by_cases e' : z = x
      · subst e'; exact .inl (List.mem_append.2 (.inr hy))
      · rw [upN_ne _ _ e'] at hz
        rcases h.c2 z hz y hy with h' | h'
        · rcases List.mem_cons.1 h' with h' | h'
          · exact absurd h' e
          · exact .inl (List.mem_append.2 (.inl h'))
        · exact .inr h'
  nk := by rw [upN_ne _ _ (fun e => hk e.symm)]; exact h.nk
  len := by
    have h1 := h.len
    have h2 := cF_up hx n (h.s1 x (by simp)).2
    simp only [List.length_cons] at h1
    rw [List.length_append]
    omega
theorem Sch.begin {E : Nat → List Nat} {L : List Nat} {k n : Nat} (hL : ∀ y ∈ L, y < n) (hl : L.length ≤ 400) : Sch E L k n L (fun _ => false) where
  s1 := fun y hy => ⟨.first y hy, hL y hy⟩
  s2 := fun y h => by cases h
  c1 := fun y hy => .inl hy
  c2 := fun x h => by cases h
  nk := rfl
  len := by
    have : ∀ n, cF (fun _ => false) n = n := fun n => by
      induction n with
      | zero => rfl
      | succ n ih => rw [cF, ih]; simp
    rw [this]; omega

/-- What waits to be looked at: a row of its own, from some place on. -/
def WtR (u : World) (B : Nat) (v : Value) (W : List Nat) : Prop := ∃ a c, v = .slice a W.length c ∧ W.length ≤ c ∧ c ≤ maxLen ∧ ∀ (i : Nat) (h : i < W.length), ∃ b off xs, a = some ⟨b, off, none⟩ ∧ B ≤ b ∧ Blk u b 3 xs ∧ xs[off + i]? = some (.int .i64 (W[i] : Int))
theorem WtR.own {u : World} {B : Nat} {v : Value} {W : List Nat} (h : u.ownsRow B 3 1 v W.length (numV W)) : WtR u B v W := by
  by_cases h0 : 0 < W.length
  · obtain ⟨g, c, hv⟩ := row_form h h0
    subst hv
    obtain ⟨h1, h2⟩ := row_cap h
    exact ⟨_, c, rfl, h1, h2, fun i hi => ⟨g, 0, numV W, rfl, (h.lt g rfl).1, blk_of_row h, by rw [Nat.zero_add]; exact numV_get W i hi⟩⟩
  · rcases h.2 with ⟨h1, h2⟩ | ⟨g, cap, cur, h1, _, _, h4, h5, _⟩
    · exact ⟨none, 0, by rw [h1, h2], by omega, by unfold maxLen; omega, fun i hi => by omega⟩
    · exact ⟨_, cap, h1, h4, h5, fun i hi => by omega⟩
theorem WtR.kept {u u' : World} {B : Nat} {v : Value} {W : List Nat} (h : WtR u B v W) (hk : ∀ b xs, Blk u b 3 xs → Blk u' b 3 xs) : WtR u' B v W := by
  obtain ⟨a, c, h1, h2, h3, h4⟩ := h
  refine ⟨a, c, h1, h2, h3, fun i hi => ?_⟩
  obtain ⟨b, off, xs, g1, g2, g3, g4⟩ := h4 i hi
  exact ⟨b, off, xs, g1, g2, hk b xs g3, g4⟩
theorem WtR.rd {u : World} {B : Nat} {v : Value} {W : List Nat} (h : WtR u B v W) : RdN u v W := by
  obtain ⟨a, c, h1, h2, h3, h4⟩ := h
  refine ⟨a, c, h1, fun i hi => ?_⟩
  obtain ⟨b, off, xs, g1, g2, g3, g4⟩ := h4 i hi
  exact ⟨b, off, g1, g3.lt, g3.cell _ g4⟩
theorem slice24 (b off n c : Nat) (h1 : 1 ≤ n) (h2 : n ≤ c) : ∃ p, (∀ w, (Instr.sliceAt 23 (.slice (some ⟨b, off, none⟩) n c) (some (.int .i64 1)) none none).run Tryz.prog w = .ok (.slice p (n - 1) (c - 1)) w) ∧ (1 < n → p = some ⟨b, off + 1, none⟩) := by
  have k1 : (1 : Int) ≤ (n : Int) := by omega
  have k2 : (n : Int) ≤ (c : Int) := by omega
  by_cases k3 : c = 1
  · refine ⟨some ⟨b, off, none⟩, fun w => ?_, fun h => by omega⟩
    go_simp
  · exact ⟨some ⟨b, off + 1, none⟩, fun w => by go_simp, fun _ => rfl⟩
/-- The first is taken off. -/
theorem WtR.tail {u : World} {B : Nat} {v : Value} {x : Nat} {W : List Nat} (h : WtR u B v (x :: W)) : ∃ b off c p, v = .slice (some ⟨b, off, none⟩) (W.length + 1) c ∧ 1 ≤ c ∧ c ≤ maxLen ∧ u.cell? ⟨b, off, none⟩ = some (.int .i64 (x : Int)) ∧ (∀ w, (Instr.sliceAt 23 (.slice (some ⟨b, off, none⟩) (W.length + 1) c) (some (.int .i64 1)) none none).run Tryz.prog w = .ok (.slice p W.length (c - 1)) w) ∧ WtR u B (.slice p W.length (c - 1)) W := by
  obtain ⟨a, c, h1, h2, h3, h4⟩ := h
  obtain ⟨b, off, xs, rfl, g2, g3, g4⟩ := h4 0 (by simp)
  simp only [List.length_cons] at h1 h2
  obtain ⟨p, hp1, hp2⟩ := slice24 b off (W.length + 1) c (by omega) h2
  refine ⟨b, off, c, p, h1, by omega, h3, by have := g3.cell _ g4; simpa using this, hp1, ⟨_, c - 1, rfl, by omega, by omega, fun i hi => ?_⟩⟩
  have := hp2 (by omega)
  subst this
  obtain ⟨b', off', xs', e1, e2, e3, e4⟩ := h4 (i + 1) (by simp; omega)
  cases e1
  exact ⟨b, off + 1, xs', rfl, e2, e3, by rw [show off + 1 + i = off + (i + 1) by omega]; simpa using e4⟩

theorem info4 : (Tryz.prog.info? 4).map (fun i => (i.zero, i.size, i.bytes)) = some (some (.bool false), 1, 1) := by kernel_rfl
theorem makeB (u : World) (n : Nat) (hn : n ≤ 1000) : ∃ w', (Instr.makeSlice 224 (.int .i64 (n : Int)) (.int .i64 (n : Int))).run Tryz.prog u = .ok (.slice (some ⟨u.heap.size, 0, none⟩) n n) w' ∧ Blk w' u.heap.size 4 (boolV (fun _ => false) n) ∧ Below u.heap.size u w' := by
  obtain ⟨i0, hi, hz0, hz1, hz2⟩ := info_parts info4
  have h := run_makeSlice (P := Tryz.prog) u 224 4 i0 _ Tryz.underlying224 hi hz0 .i64 .i64 (n : Int) (n : Int) (by omega) (Int.le_refl _) (by rw [hz1]; simp; omega) (by rw [hz2]; simp; omega) (by omega)
  simp only [Int.toNat_natCast] at h
  refine ⟨_, h, ⟨_, heap_alloc_new u _, fun j v hv => ?_⟩, box_below u _ 4⟩
  have hj : j < n := by
    have := (List.getElem?_eq_some_iff.1 hv).1
    rwa [boolV_len] at this
  rw [boolV_get _ _ _ hj] at hv
  cases hv
  rw [hz1, Nat.mul_one]
  have hc : (Value.bool false).cells = #[.bool false] := rfl
  rw [hc]
  simp [madeCells, hj, Nat.mod_one]
end Go.Proofs.YtpjjagalekolaaaGreatDoor

/- Does a step wait for itself? The program's own search. -/
namespace Go.Proofs.YtpjjagalekolaaaGreatDoor
open Go.RowKit
set_option linter.unusedVariables false
set_option linter.unusedSimpArgs false

theorem concatN_at {u : World} {v0 v1 v2 : Value} {L0 L1 L2 : List Nat} (h0 : RdN u v0 L0) (h1 : RdN u v1 L1) (h2 : RdN u v2 L2) (hl0 : L0.length ≤ 300000) (hl1 : L1.length ≤ 300000) (hl2 : L2.length ≤ 300000) :
    Calls Tryz.prog 185 #[.slice (some ⟨u.heap.size, 0, none⟩) 3 3] (u.alloc (.cells #[v0, v1, v2] 23)).drew fun e w' => ∃ v, e = .returned v ∧ w'.ownsRow u.heap.size 3 1 v (L0 ++ L1 ++ L2).length (numV (L0 ++ L1 ++ L2)) ∧ Below u.heap.size u w' := by
  have hb : Below u.heap.size u (u.alloc (.cells #[v0, v1, v2] 23)).drew := (box_below u _ 23).trans (Below.mono (below_drewB _) (by simp))
  have hp : Blk (u.alloc (.cells #[v0, v1, v2] 23)).drew u.heap.size 23 [v0, v1, v2] := Blk.new u 23 [v0, v1, v2]
  refine (concatN hp (h0.below hb) (h1.below hb) (h2.below hb) hl0 hl1 hl2).mono ?_
  rintro e w' ⟨v, rfl, hown, hb'⟩
  have hz := hb.size
  exact ⟨v, rfl, own_monoK hown hz, hb.trans (hb'.mono hz)⟩
def lenV (v : Value) : Nat := match v with | .slice _ n _ => n | _ => 0

set_option maxHeartbeats 16000000 in
set_option maxRecDepth 100000 in
theorem waitsN {w1 u : World} {R g c n : Nat} {op : Nat → OpD} {ws : Nat → Nat} {f m : Nat → Value} {rdy : Value} {rx : List Nat} {opv : Value} {ops : List OpD} {N : Nat} (S : RM w1 u R g c n op ws f m rdy rx opv ops N) {fx mx : Nat → List Nat} (hf : ∀ k, k < n → NumR w1 g (f k) (fx k)) (hm : ∀ k, k < n → NumR w1 g (m k) (mx k)) (hn : n ≤ 200) (bf : ∀ k, (fx k).length ≤ 400) (bm : ∀ k, (mx k).length ≤ 400) (ff : ∀ k, ∀ y ∈ fx k, y < n) (fm : ∀ k, ∀ y ∈ mx k, y < n) {k : Nat} (hk : k < n) :
    Calls Tryz.prog 145 #[.pointer (some ⟨R, 0, none⟩), .int .i64 k] u fun e w' => ∃ b, e = .returned (.bool b) ∧ (b = true ↔ Rch (fun x => fx x ++ mx x) (fx k) k) ∧ Below u.heap.size u w' := by
  have d0 := S.r.cell 0 rfl
  obtain ⟨u1, hmk, hM, hbM⟩ := makeB u n (by omega)
  have S1 := hidD (S.below hbM)
  have d0' := S1.out.r.cell 0 rfl
  have d7 : u1.cell? ⟨g, k * 9 + 7, none⟩ = some (f k) := S1.out.st.cell _ ((stC_get hk (by decide)).trans rfl)
  have M1 := hidD hM
  have CL := hidD (cloneN (S1.out.rd' (hf k hk)) (Nat.le_trans (bf k) (by omega)))
  obtain ⟨fa, fc, hfk, hfz⟩ := hf k hk
  clear hfz
  rw [hfk] at d7 CL
  have hk' : (k : Int) < (n : Int) := by omega
  have HS := hidD S
  have HBM := hidD hbM
  have HFF := hidD (And.intro hf hm)
  have HB4 := hidD (And.intro (And.intro bf bm) (And.intro ff fm))
  have SB := hidD (Sch.begin (E := fun x => fx x ++ mx x) (k := k) (ff k) (bf k))
  clear S hf hm bf bm ff fm hM hbM hfk
  go_enter Tryz.func145, Tryz.ntmps145
  go_wp2_with fail
  refine CL.out.mono ?_
  rintro e u2 ⟨v2, rfl, ho2, hb2⟩
  obtain ⟨p1, p2, p3, hp⟩ := shape_of ho2
  subst hp
  have M2 := hidD (M1.out.below hb2)
  have B2 := hidD (HBM.out.trans (hb2.mono HBM.out.size))
  have W2 := hidD (WtR.own (own_monoK ho2 HBM.out.size))
  clear ho2 hb2 CL M1 d0 d0' d7 S1 HBM
  go_wp2_with fail
  go_loopw [6] (fun wv wr => ∃ (W : List Nat) (seen : Nat → Bool), Hid (WtR wr u.heap.size wv W) ∧ Hid (Blk wr u.heap.size 4 (boolV seen n)) ∧ Hid (Below u.heap.size u wr) ∧ Hid (Sch (fun x => fx x ++ mx x) (fx k) k n W seen)) (fun wv wr => 1000 * cF (seenAt wr u.heap.size) n + lenV wv)
  case atStart => exact ⟨_, _, W2, M2, B2, SB⟩
  case round =>
    clear W2 M2 B2 SB
    obtain ⟨W, seen, WW, MM, BB, SS⟩ := hrel
    have hmeas := cF_at MM.out
    have hlenW := SS.out.len
    cases W with
    | nil =>
      obtain ⟨a, c', hv, _⟩ := WW.out
      subst hv
      go_wp2_with fail
      go_ret
      exact ⟨false, rfl, ⟨fun h => (by cases h), fun h => absurd h SS.out.none⟩, BB.out⟩
    | cons x W =>
      obtain ⟨b, off, c', p, hv, hc1, hc2, hcell, hsl, WT'⟩ := WW.out.tail
      subst hv
      have WT := hidD WT'
      obtain ⟨hrx, hxn⟩ := SS.out.s1 x (by simp)
      simp only [List.length_cons] at hlenW
      have HR := hidD hrx
      have hx' : (x : Int) < (n : Int) := by omega
      have mx0 := MM.out.cell x (boolV_get seen n x hxn)
      have mf0 := MM.out.frozen x
      have hpos : (0 : Int) < ((W.length + 1 : Nat) : Int) := by omega
      have hlv : lenV (.slice (some ⟨b, off, none⟩) (W.length + 1) c') = W.length + 1 := rfl
      generalize hwn : W.length + 1 = wn at *
      clear WT' hrx WW
      by_cases hxk : x = k
      · subst hxk
        go_wp2_with fail
        go_ret
        exact ⟨true, rfl, ⟨fun _ => HR.out, fun _ => rfl⟩, BB.out⟩
      · have hne : ((x : Int) == (k : Int)) = false := by simp; omega
        cases hs : seen x with
        | true =>
          rw [hs] at mx0
          go_wp2_with fail
          refine ⟨⟨W, seen, WT, MM, BB, hidD (SS.out.skip hs)⟩, ?_⟩
          rw [hmeas, hlv]
          show 1000 * cF seen n + W.length < 1000 * cF seen n + wn
          omega
        | false =>
          rw [hs] at mx0
          obtain ⟨⟨bf, bm⟩, ff, fm⟩ := HB4.out
          have SM := hidD (SS.out.mark hs hxk (fun y hy => by
            rcases List.mem_append.1 hy with hy | hy
            · exact ff x y hy
            · exact fm x y hy) (by have := bf x; have := bm x; rw [List.length_append]; omega))
          have hcf := cF_up hs n hxn
          have bfx := bf x
          have bmx := bm x
          have M3' := MM.out.set x (.bool true) (by rw [boolV_len]; exact hxn)
          rw [boolV_set] at M3'
          have M3 := hidD M3'
          have B3 := hidD (below_set BB.out u.heap.size x (.bool true) BB.out.size (Nat.le_refl _))
          have W3 := hidD (WT.out.kept (u' := wr.setCell ⟨u.heap.size, x, none⟩ (.bool true)) (fun b' xs h => h.other x (.bool true) (h.ne MM.out (by decide))))
          have S3 := hidD (HS.out.below B3.out)
          have e0 := S3.out.r.cell 0 rfl
          have e7 : (wr.setCell ⟨u.heap.size, x, none⟩ (.bool true)).cell? ⟨g, x * 9 + 7, none⟩ = some (f x) := S3.out.st.cell _ ((stC_get hxn (by decide)).trans rfl)
          have e8 : (wr.setCell ⟨u.heap.size, x, none⟩ (.bool true)).cell? ⟨g, x * 9 + 8, none⟩ = some (m x) := S3.out.st.cell _ ((stC_get hxn (by decide)).trans rfl)
          have HC := hidD (concatN_at W3.out.rd (S3.out.rd' (HFF.out.1 x hxn)) (S3.out.rd' (HFF.out.2 x hxn)) (by omega) (by omega) (by omega))
          obtain ⟨a7, c7, hv7, h7⟩ := HFF.out.1 x hxn
          obtain ⟨a8, c8, hv8, h8⟩ := HFF.out.2 x hxn
          clear h7 h8
          rw [hv7] at e7 HC
          rw [hv8] at e8 HC
          generalize hn7 : (fx x).length = n7 at *
          generalize hn8 : (mx x).length = n8 at *
          clear M3' ff fm bf bm hv7 hv8 SS WT MM
          go_wp2_with fail
          generalize hV : wr.setCell ⟨u.heap.size, x, none⟩ (.bool true) = V at *
          go_region_held3 (fun v => v.cell? ⟨R, 0, none⟩ = some (.slice (some ⟨g, 0, none⟩) n c) ∧ v.cell? ⟨g, x * 9 + 7, none⟩ = some (.slice a7 n7 c7) ∧ v.cell? ⟨g, x * 9 + 8, none⟩ = some (.slice a8 n8 c8)) (go_keep) (first | (go_at_call 185; refine HC.out.mono ?_; rintro e w4 ⟨v4, rfl, hown4, hb4⟩; have S4 := S3.out.below hb4; have r0 := S4.r.cell 0 rfl; have r7 := cell_kept hb4 S3.out.st.lt e7; have r8 := cell_kept hb4 S3.out.st.lt e8))
          have W4 := hidD (WtR.own (own_monoK hown4 B3.out.size))
          have M4 := hidD (M3.out.below hb4)
          have B4 := hidD (B3.out.trans (hb4.mono B3.out.size))
          obtain ⟨z1, z2, hz⟩ := row_shape0 hown4
          subst hz
          have hl4 : (W ++ fx x ++ mx x).length = W.length + n7 + n8 := by simp only [List.length_append]; omega
          have hm4 := cF_at M4.out
          rw [← List.append_assoc] at SM
          clear hown4 hb4 S4 S3 HC e0 e7 e8 r0 r7 r8
          go_wp2_with fail
          refine ⟨⟨_, _, W4, M4, B4, SM⟩, ?_⟩
          rw [hm4, hmeas, hlv]
          show 1000 * cF (upN seen x true) n + (W ++ fx x ++ mx x).length < _
          rw [hl4]
          omega
end Go.Proofs.YtpjjagalekolaaaGreatDoor

/- The numeral of a number below a hundred. -/
namespace Go.Proofs.YtpjjagalekolaaaGreatDoor
open Go.RowKit
set_option linter.unusedVariables false
set_option linter.unusedSimpArgs false

def digS : ByteArray := ⟨#[48, 49, 50, 51, 52, 53, 54, 55, 56, 57, 97, 98, 99, 100, 101, 102, 103, 104, 105, 106, 107, 108, 109, 110, 111, 112, 113, 114, 115, 116, 117, 118, 119, 120, 121, 122]⟩
def smlS : ByteArray := ⟨#[48, 48, 48, 49, 48, 50, 48, 51, 48, 52, 48, 53, 48, 54, 48, 55, 48, 56, 48, 57, 49, 48, 49, 49, 49, 50, 49, 51, 49, 52, 49, 53, 49, 54, 49, 55, 49, 56, 49, 57, 50, 48, 50, 49, 50, 50, 50, 51, 50, 52, 50, 53, 50, 54, 50, 55, 50, 56, 50, 57, 51, 48, 51, 49, 51, 50, 51, 51, 51, 52, 51, 53, 51, 54, 51, 55, 51, 56, 51, 57, 52, 48, 52, 49, 52, 50, 52, 51, 52, 52, 52, 53, 52, 54, 52, 55, 52, 56, 52, 57, 53, 48, 53, 49, 53, 50, 53, 51, 53, 52, 53, 53, 53, 54, 53, 55, 53, 56, 53, 57, 54, 48, 54, 49, 54, 50, 54, 51, 54, 52, 54, 53, 54, 54, 54, 55, 54, 56, 54, 57, 55, 48, 55, 49, 55, 50, 55, 51, 55, 52, 55, 53, 55, 54, 55, 55, 55, 56, 55, 57, 56, 48, 56, 49, 56, 50, 56, 51, 56, 52, 56, 53, 56, 54, 56, 55, 56, 56, 56, 57, 57, 48, 57, 49, 57, 50, 57, 51, 57, 52, 57, 53, 57, 54, 57, 55, 57, 56, 57, 57]⟩
theorem ba_of {a : ByteArray} {l : List UInt8} (h : a.data.toList = l) : a = ⟨l.toArray⟩ := by
  rw [← h]
theorem dig_all : (List.range 10).all (fun i => (digS.extract i (i + 1)).data.toList == Lib.itoa i) = true := by kernel_rfl
set_option maxRecDepth 100000 in
theorem sml_all : (List.range 100).all (fun i => decide (i < 10) || (smlS.extract (i * 2) (i * 2 + 2)).data.toList == Lib.itoa i) = true := by kernel_rfl
theorem dig_eq {i : Nat} (h : i < 10) : digS.extract i (i + 1) = ⟨(Lib.itoa i).toArray⟩ := ba_of (eq_of_beq (List.all_eq_true.1 dig_all i (List.mem_range.2 h)))
theorem sml_eq {i : Nat} (h : i < 100) (h2 : 10 ≤ i) : smlS.extract (i * 2) (i * 2 + 2) = ⟨(Lib.itoa i).toArray⟩ := by
  have := List.all_eq_true.1 sml_all i (List.mem_range.2 h)
  rw [Bool.or_eq_true, decide_eq_true_eq] at this
  rcases this with h' | h'
  · omega
  · exact ba_of (eq_of_beq h')
set_option maxRecDepth 100000 in
set_option maxHeartbeats 4000000 in
theorem smallN (i : Nat) (h : i < 100) (w : World) : Calls Tryz.prog 223 #[.int .i64 i] w fun e w' => e = .returned (.string ⟨(Lib.itoa i).toArray⟩) ∧ w' = w := by
  by_cases h10 : i < 10
  · have h1 : (i : Int) < 10 := by omega
    have w1 : IntKind.i64.wrap ((i : Int) + 1) = (i : Int) + 1 := by rw [IntKind.wrap_i64]; omega
    have HE := hidD (dig_eq h10)
    go_enter Tryz.func223, Tryz.ntmps223
    go_wp2
    go_ret
    exact ⟨congrArg (fun b => Ending.returned (.string b)) HE.out, rfl⟩
  · have h1 : ¬ (i : Int) < 10 := by omega
    have w1 : IntKind.i64.wrap ((i : Int) * 2) = (i : Int) * 2 := by rw [IntKind.wrap_i64]; omega
    have w2 : IntKind.i64.wrap ((i : Int) * 2 + 2) = (i : Int) * 2 + 2 := by rw [IntKind.wrap_i64]; omega
    have HE := hidD (sml_eq h (by omega))
    go_enter Tryz.func223, Tryz.ntmps223
    go_wp2
    go_ret
    exact ⟨congrArg (fun b => Ending.returned (.string b)) HE.out, rfl⟩
theorem formatN (i : Nat) (h : i < 100) (w : World) : Calls Tryz.prog 208 #[.int .i64 i, .int .i64 10] w fun e w' => e = .returned (.string ⟨(Lib.itoa i).toArray⟩) ∧ w' = w := by
  have h1 : (i : Int) < 100 := by omega
  have h2 : (0 : Int) ≤ (i : Int) := by omega
  go_enter Tryz.func208, Tryz.ntmps208
  go_wp2_with fail
  refine (smallN i h _).mono ?_
  rintro e wz ⟨rfl, hwz⟩; rw [hwz]; clear hwz
  go_wp2_with fail
  go_ret
  exact ⟨rfl, rfl⟩
theorem itoaN (i : Nat) (h : i < 100) (w : World) : Calls Tryz.prog 146 #[.int .i64 i] w fun e w' => e = .returned (.string ⟨(Lib.itoa i).toArray⟩) ∧ w' = w := by
  have h117 : Hid (Calls Tryz.prog 186 #[.int .i64 i] w fun e w' => e = .returned (.string ⟨(Lib.itoa i).toArray⟩) ∧ w' = w) := by
    show Calls Tryz.prog 186 #[.int .i64 i] w fun e w' => e = .returned (.string ⟨(Lib.itoa i).toArray⟩) ∧ w' = w
    go_enter Tryz.func186, Tryz.ntmps186
    go_wp2_with fail
    refine (formatN i h _).mono ?_
    rintro e wz ⟨rfl, hwz⟩; rw [hwz]; clear hwz
    go_wp2_with fail
    go_ret
    exact ⟨rfl, rfl⟩
  go_enter Tryz.func146, Tryz.ntmps146
  go_wp2_with fail
  refine h117.out.mono ?_
  rintro e wz ⟨rfl, hwz⟩; rw [hwz]; clear hwz
  go_wp2_with fail
  go_ret
  exact ⟨rfl, rfl⟩
theorem spB_cat (n : Nat) : (⟨#[126]⟩ : ByteArray) ++ (⟨(Lib.itoa n).toArray⟩ : ByteArray) = spB n := by
  have : ((⟨#[126]⟩ : ByteArray) ++ (⟨(Lib.itoa n).toArray⟩ : ByteArray)).data = (spB n).data := by
    rw [ByteArray.data_append]
    simp [spB, spN]
  cases h : ((⟨#[126]⟩ : ByteArray) ++ (⟨(Lib.itoa n).toArray⟩ : ByteArray)) with
  | mk d =>
    rw [h] at this
    rw [← show (⟨(spB n).data⟩ : ByteArray) = spB n from rfl, ← this]
end Go.Proofs.YtpjjagalekolaaaGreatDoor

/- The run of a plan in memory: a move that waits for itself is found, and steps aside. -/
namespace Go.Proofs.YtpjjagalekolaaaGreatDoor
open Go.RowKit
set_option linter.unusedVariables false
set_option linter.unusedSimpArgs false

theorem opNow_kind (s t : List EntD) (A : Nat → Option Nat) (m : Mean) : ((opNow s t A m).kind = 6 ↔ ∃ i j, m = Mean.ren i j) := by
  cases m with
  | ren i j =>
    refine ⟨fun _ => ⟨i, j, rfl⟩, fun _ => ?_⟩
    rw [opNow]
    split <;> rfl
  | del i =>
    simp only [opNow, opM, reduceCtorEq, exists_false, iff_false]
    cases (eg s i).dir <;> simp
  | chm i j => simp [opNow, opM]
  | mkd j => simp [opNow, opM]
  | wri j => simp [opNow, opM]
  | cpy j h => simp [opNow, opM]

set_option maxHeartbeats 8000000 in
set_option maxRecDepth 100000 in
theorem knotN {fold : Bool} {Q : List EntD → Prop} {s t : List EntD} {to fr : Nat → Option Nat} {ms : List Mean} {lv cm : Nat → Option Nat} {fd md : Nat → List Nat} {w1 u : World} {R g c : Nat} {fv mv : Nat → Value} {fz dn : Nat → Bool} {rd : List Nat} {A : Nat → Option Nat} {N : Nat} {ops : List OpD} (H : Plan0 fold Q s t to fr ms lv cm fd md) (F : Fix w1 g ms.length fv mv fd md) (X : RL fold Q s t to fr ms lv fd md w1 u R g c fv mv fz dn rd A N ops) :
    Calls Tryz.prog 95 #[.pointer (some ⟨R, 0, none⟩)] u fun e w' => ((∃ k : Nat, k < ms.length ∧ e = .returned (.int .i64 k) ∧ Knot ms fz fd md k) ∨ (e = .returned (.int .i64 (-1)) ∧ ∀ k, k < ms.length → ¬ Knot ms fz fd md k)) ∧ Below u.heap.size u w' := by
  obtain ⟨ws, rdy, opv, hU, hS, hW⟩ := X
  have HS := hidD hS
  have HF := hidD F
  have HR := hidD hU.R
  have hb := (hU.bounds H).2.2
  have d0 := hS.r.cell 0 rfl
  have BF : Hid ((∀ k, (if fz k then [] else fd k).length ≤ 400) ∧ ∀ k, ∀ y ∈ (if fz k then [] else fd k), y < ms.length) := by
    refine ⟨fun k => ?_, fun k y hy => ?_⟩
    · cases fz k with
      | true => simp
      | false => exact F.bf k
    · cases hz : fz k with
      | true => rw [hz] at hy; cases hy
      | false => rw [hz] at hy; exact (hU.R.fb k y hy).2
  clear hS hU hW F H
  go_enter Tryz.func95, Tryz.ntmps95
  go_wp2_with fail
  go_loopw [9] (fun iv wr => ∃ i : Nat, i ≤ ms.length ∧ iv = .int .i64 i ∧ Hid (Below u.heap.size u wr) ∧ Hid (∀ k, k < i → ¬ Knot ms fz fd md k)) (fun iv _ => ms.length - (intOf iv).toNat)
  case atStart => exact ⟨0, Nat.zero_le _, rfl, Below.refl _ _, fun k hk => absurd hk (Nat.not_lt_zero k)⟩
  case round =>
    clear d0
    obtain ⟨i, hi, rfl, B, K⟩ := hrel
    by_cases hlt : i < ms.length
    · obtain ⟨m, hm⟩ : ∃ m, ms[i]? = some m := ⟨_, List.getElem?_eq_getElem hlt⟩
      have S1 := hidD (HS.out.below B.out)
      have d0 := S1.out.r.cell 0 rfl
      have d1 := (S1.out.opCells hlt).1
      rw [opAt_at hm] at d1
      have hk6 := opNow_kind s t A m
      have hlt' : (i : Int) < (ms.length : Int) := by omega
      have WN := hidD (waitsN (fx := fun x => if fz x then [] else fd x) (mx := md) S1.out (fun k hk => HF.out.cur fz hk) HF.out.nm HF.out.bn BF.out.1 HF.out.bm BF.out.2 (fun k y hy => (HR.out.mb k y hy).2) hlt)
      generalize (opNow s t A m).kind = kd at *
      by_cases h6 : kd = 6
      · subst h6
        obtain ⟨i', j', hmm⟩ := hk6.1 rfl
        subst hmm
        clear hk6
        go_wp2_with fail
        refine WN.out.mono ?_
        rintro e w2 ⟨b, rfl, hbb, hb2⟩
        have B2 := hidD (B.out.trans (hb2.mono B.out.size))
        cases b with
        | true =>
          have KK : Hid (Knot ms fz fd md i) := ⟨⟨i', j', hm⟩, hbb.1 rfl⟩
          clear hbb hb2 WN
          go_wp2_with fail
          go_ret
          exact ⟨.inl ⟨i, hlt, rfl, KK.out⟩, B2.out⟩
        | false =>
          have KK : Hid (∀ k, k < i + 1 → ¬ Knot ms fz fd md k) := fun k hk => by
            by_cases e : k = i
            · subst e
              intro hn
              have := hbb.2 hn.2
              cases this
            · exact K.out k (by omega)
          clear hbb hb2 WN
          go_wp2_with fail
          exact ⟨⟨i + 1, by omega, by go_num, B2, KK⟩, by simp [intOf]; omega⟩
      · have hz : (kd == 6) = false := by simpa using h6
        have KK : Hid (∀ k, k < i + 1 → ¬ Knot ms fz fd md k) := fun k hk => by
          by_cases e : k = i
          · subst e
            rintro ⟨⟨i', j', h⟩, _⟩
            rw [hm] at h
            cases h
            exact h6 (hk6.2 ⟨i', j', rfl⟩)
          · exact K.out k (by omega)
        clear WN hk6
        go_wp2_with fail
        exact ⟨⟨i + 1, by omega, by go_num, B, KK⟩, by simp [intOf]; omega⟩
    · have hie : i = ms.length := by omega
      subst hie
      go_wp2_with fail
      go_ret
      exact ⟨.inr ⟨rfl, K.out⟩, B.out⟩
end Go.Proofs.YtpjjagalekolaaaGreatDoor

/- The run of a plan in memory: a move steps aside. -/
namespace Go.Proofs.YtpjjagalekolaaaGreatDoor
open Go.RowKit
set_option linter.unusedVariables false
set_option linter.unusedSimpArgs false

theorem RM.ops {w1 u : World} {R g c n : Nat} {op op' : Nat → OpD} {ws : Nat → Nat} {f m : Nat → Value} {rdy : Value} {rx : List Nat} {opv : Value} {ops : List OpD} {N : Nat} (h : RM w1 u R g c n op ws f m rdy rx opv ops N) (he : ∀ k, k < n → op k = op' k) : RM w1 u R g c n op' ws f m rdy rx opv ops N :=
  ⟨h.gr, h.ge, h.gl, h.r, by
    have e : stC op ws f m n = stC op' ws f m n := flatR_same n (fun k hk => by rw [he k hk])
    rw [← e]
    exact h.st, h.rd, h.po⟩
theorem RM.spare {w1 u : World} {R g c n : Nat} {op : Nat → OpD} {ws : Nat → Nat} {f m : Nat → Value} {rdy : Value} {rx : List Nat} {opv : Value} {ops : List OpD} {N : Nat} (h : RM w1 u R g c n op ws f m rdy rx opv ops N) (M : Nat) : RM w1 (u.setCell ⟨R, 3, none⟩ (.int .i64 (M : Int))) R g c n op ws f m rdy rx opv ops M := by
  have hg := gb_set u R 3 (.int .i64 (M : Int))
  refine ⟨(h.gr.trans (Kpt.of hg (S := fun b => b = R) (fun b e => by simpa using e))).mono (fun b hb e => ?_), h.ge, h.gl, h.r.set 3 _ (by simp), h.st.kept hg (fun e => h.gR (by simpa using e)), row_blk h.r h.rd (by decide) hg, row_blk h.r h.po (by decide) hg⟩
  rcases e with e | e
  · exact e
  · have := h.ge
    omega

set_option maxHeartbeats 16000000 in
set_option maxRecDepth 100000 in
theorem stepAsideN {fold : Bool} {Q : List EntD → Prop} {s t : List EntD} {to fr : Nat → Option Nat} {ms : List Mean} {lv cm : Nat → Option Nat} {fd md : Nat → List Nat} {w1 u : World} {R g c : Nat} {fv mv : Nat → Value} {fz dn : Nat → Bool} {rd : List Nat} {A : Nat → Option Nat} {N : Nat} {ops : List OpD} (H : Plan0 fold Q s t to fr ms lv cm fd md) (F : Fix w1 g ms.length fv mv fd md) (X : RL fold Q s t to fr ms lv fd md w1 u R g c fv mv fz dn rd A N ops) {k : Nat} (hk : k < ms.length) (hK : Knot ms fz fd md k) :
    Calls Tryz.prog 96 #[.pointer (some ⟨R, 0, none⟩), .int .i64 k] u fun e w' => e = .returned (.tuple #[]) ∧ ∃ fz' rd' A' ops', RL fold Q s t to fr ms lv fd md w1 w' R g c fv mv fz' dn rd' A' (N + 1) ops' ∧ N < 60 := by
  obtain ⟨i0, hi, hz0, hz1, hz2⟩ := info_parts info59
  obtain ⟨i, j, hm, hz, hl⟩ := Run.knot H hK
  obtain ⟨ws, rdy, opv, hU, hS, hW⟩ := X
  obtain ⟨h60, hAi, hU'⟩ := hU.aside H hm hz hl
  have hb := hU.bounds H
  have hop : opAt s t ms A k = opM s t (Mean.ren i j) := by rw [opAt_at hm, opNow, hAi]
  have d3 := hS.r.cell 3 rfl
  have f3 := hS.r.frozen 3
  have S1 := hidD (hS.spare (N + 1))
  have d0 := S1.out.r.cell 0 rfl
  have d2 := S1.out.r.cell 2 rfl
  have c1' := (S1.out.opCells hk).2.1
  rw [hop] at c1'
  have UU := hidD hU'
  have W := hidD hW
  have OP : Hid (∀ x, x < ms.length → upN (opAt s t ms A) k { opAt s t ms A k with path := spB N } x = opAt s t ms (fun x => if x = i then some N else A x) x) := fun x hx => by
    by_cases e : x = k
    · subst e
      rw [upN_at, hop, opAt_at hm, opNow, if_pos rfl]
    · rw [upN_ne _ _ e]
      obtain ⟨m', hm'⟩ : ∃ m', ms[x]? = some m' := ⟨_, List.getElem?_eq_getElem hx⟩
      rw [opAt_at hm', opAt_at hm']
      cases m' with
      | ren i' j' =>
        have hne : i' ≠ i := fun e' => by
          subst e'
          obtain ⟨g1, g2, _⟩ := H.Dr.renS x i' j' hm'
          obtain ⟨g3, g4, _⟩ := H.Dr.renS k i' j hm
          obtain rfl := som g1 g3
          rw [g2] at g4
          cases g4
          exact e rfl
        rw [opNow, opNow, if_neg hne]
      | _ => rfl
  obtain ⟨hR2, hLc, hLn⟩ := hU.R.freeL hk (by
    cases h : dn k with
    | false => rfl
    | true => rw [hU.R.df k h] at hz; cases hz) (L := fd k) (by rw [hz]; rfl)
  have FR : Hid (NumR w1 g (fcur fz fv k) (fd k) ∧ (∀ y ∈ fd k, y < ms.length) ∧ ∀ y, (fd k).count y ≤ ws y) := ⟨by have := F.cur fz hk; rwa [hz] at this, hLn, hLc⟩
  have hfl := F.bf k
  obtain ⟨sa, sn, sc, hsv⟩ := shape_of S1.out.po
  subst hsv
  obtain ⟨p, q, hpq⟩ : ∃ p q, opM s t (Mean.ren i j) = ⟨6, p, q, 0, 0, 0⟩ := ⟨_, _, rfl⟩
  rw [hpq] at c1' UU hop
  have HOP := hidD hop
  have hk' : (k : Int) < (ms.length : Int) := by omega
  have IT := hidD (itoaN N (by omega) u)
  have hcat := spB_cat N
  have hisz : (⟨(Lib.itoa N).toArray⟩ : ByteArray).size ≤ 7 := by
    have h1 := spN_spare (n := N) (by omega)
    unfold spareL at h1
    simp only [Bool.and_eq_true, decide_eq_true_eq] at h1
    have h2 := h1.1.1.2
    unfold spN at h2
    simp only [List.length_cons] at h2
    show (Lib.itoa N).toArray.size ≤ 7
    simp; omega
  have hN1 : IntKind.i64.wrap ((N : Int) + 1) = ((N + 1 : Nat) : Int) := by rw [IntKind.wrap_i64]; omega
  have hN2 : (N : Int) + 1 = ((N + 1 : Nat) : Int) := by omega
  dsimp only at c1'
  clear hU hU' hW hS H F hK hR2 hLc hLn hop hpq
  generalize hM : (N + 1 : Nat) = N1 at *
  generalize hsp : spB N = spn at *
  generalize (⟨(Lib.itoa N).toArray⟩ : ByteArray) = ib at *
  go_enter Tryz.func96, Tryz.ntmps96
  go_wp2_with fail
  refine IT.out.mono ?_
  rintro e wz ⟨rfl, hwz⟩; rw [hwz]; clear hwz IT
  go_wp2_with fail
  generalize hU : u.setCell ⟨R, 3, none⟩ (.int .i64 (N1 : Int)) = U at *
  have hbU : Below U.heap.size U (U.alloc (.cells #[.int .i64 6, .string p, .string spn, .int .i64 0, .int .i64 0, .int .i64 0] 59)).drew := (box_below U #[.int .i64 6, .string p, .string spn, .int .i64 0, .int .i64 0, .int .i64 0] 59).trans (Below.mono (below_drewB _) (by simp))
  have S2 := hidD (S1.out.below hbU)
  have d2' : (U.alloc (.cells #[.int .i64 6, .string p, .string spn, .int .i64 0, .int .i64 0, .int .i64 0] 59)).cell? ⟨R, 2, none⟩ = some (.slice sa sn sc) := S2.out.r.cell 2 rfl
  have c1'' : (U.alloc (.cells #[.int .i64 6, .string p, .string spn, .int .i64 0, .int .i64 0, .int .i64 0] 59)).cell? ⟨g, k * 9 + 1, none⟩ = some (.string p) := by
    have := (S2.out.opCells hk).2.1
    rw [HOP.out] at this
    exact this
  have hz2' : w1.heap.size ≤ (U.alloc (.cells #[.int .i64 6, .string p, .string spn, .int .i64 0, .int .i64 0, .int .i64 0] 59)).drew.heap.size := S2.out.gr.size
  have D6 := hidD (fun (w6 : World) (hg : (U.alloc (.cells #[.int .i64 6, .string p, .string spn, .int .i64 0, .int .i64 0, .int .i64 0] 59)).drew.grownBy w6 (Value.slice sa sn sc).ownBlock) => S2.out.r.kept hg (blk_row S2.out.r S2.out.po (by decide)))
  go_region_law ((refine step_append_lies _ (by rfl) (.tmp 30) (.tmp 37) 33 (by rfl) w1.heap.size 59 i0 _ 6 64 Tryz.underlying33 hi hz0 hz1 hz2 rfl (by decide) (.slice sa sn sc) _ _ (by rfl) S2.out.po ⟨U.heap.size, 0, none⟩ 1 1 (OpD.cells ⟨6, p, spn, 0, 0, 0⟩) (by rfl) rfl (new_at U 59 (OpD.cells ⟨6, p, spn, 0, 0, 0⟩)) (opCells_one _) (by decide) (by unfold maxLen; omega) (by omega) hz2' _ rfl ?_; intro g6 c6 w6 hown6 hg6 hat6 hlt6; have e5 := (D6.out w6 hg6).cell 2 rfl; have f5 := (D6.out w6 hg6).frozen 2))
  all_goals
    have S7 := hidD (S2.out.added (o := ⟨6, p, spn, 0, 0, 0⟩) hown6 hg6)
    have S8 := hidD ((S7.out.store (k * 9 + 1) (.string spn) (by omega) (stC_setP hk spn)).ops OP.out)
    have z1 := (S7.out.opCells hk).2.1
    rw [HOP.out] at z1
    dsimp only at z1
    have fz1 := S7.out.st.frozen (k * 9 + 1)
    have FF := hidD (freeN S8.out hk FR.out.1 FR.out.2.1 FR.out.2.2 (by omega) W.out (by omega))
    clear hown6 hg6 hat6 hlt6 D6 S2 hbU hz2' d2' c1'' S7 S8
    go_wp2_with fail
    refine FF.out.mono ?_
    rintro e w9 ⟨rfl, rdy9, rx9, hS9, hP9⟩
    rw [fcur_up] at hS9
    have X9 : Hid (RL fold Q s t to fr ms lv fd md w1 w9 R g c fv mv (upN fz k true) dn rx9 (fun x => if x = i then some N else A x) N1 (ops ++ [⟨6, p, spn, 0, 0, 0⟩])) := ⟨_, rdy9, _, UU.out.perm hP9, hS9, fun y => Nat.le_trans (relW_le _ ws y) (W.out y)⟩
    clear hS9 hP9 FF
    go_wp2_with fail
    refine bodyPost_end (results_none rfl _ _ _) rfl ?_
    exact ⟨rfl, _, rx9, _, _, X9.out, h60⟩
end Go.Proofs.YtpjjagalekolaaaGreatDoor

