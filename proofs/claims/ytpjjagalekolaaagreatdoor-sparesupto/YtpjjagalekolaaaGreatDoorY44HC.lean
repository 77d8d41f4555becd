/- Mount: the program's and the document's. -/
import Derived.Test.YtpjjagalekolaaaGreatDoorY28
import Derived.Test.YtpjjagalekolaaaGreatDoorY35
import Derived.Laws.ResultCell
namespace Go.Proofs.YtpjjagalekolaaaGreatDoor
open Go.RowKit
set_option linter.unusedVariables false
set_option linter.unusedSimpArgs false

theorem set_self (xs : List Value) (j : Nat) (v : Value) (h : xs[j]? = some v) : xs.set j v = xs := by
  obtain ⟨hj, rfl⟩ := List.getElem?_eq_some_iff.1 h
  exact List.set_getElem_self hj

set_option maxHeartbeats 4000000 in
set_option maxRecDepth 100000 in
theorem vcopied {w : World} {v : Value} {L : List EntD} (hr : RowAt w v L) (hl : L.length ≤ 1000) (hs : ∀ o ∈ L, o.small) :
    Calls Tryz.prog 72 #[v] w fun e w' => ∃ v', e = .returned v' ∧ w'.ownsRow w.heap.size 56 5 v' L.length (flatE L) ∧ Below w.heap.size w w' := by
  have HC := hidD (vclone hr hl)
  obtain ⟨a, c, rfl⟩ := hr.val
  have HS := hidD hs
  clear hr hs
  go_enter Tryz.func72, Tryz.ntmps72
  go_wp2_with (go_at_call 70; refine HC.out.mono ?_; rintro r w1 ⟨v1, rfl, hown1, hb1⟩; obtain ⟨a4, q4, hv4⟩ := (RowAt.ofOwn hown1).val; subst hv4)
  have HO1 := hidD hown1
  have HB1 := hidD hb1
  clear hown1 hb1
  go_loopw [9] (fun i wr => ∃ k : Nat, k ≤ L.length ∧ i = .int .i64 k ∧ Hid (wr.ownsRow w.heap.size 56 5 (.slice a4 L.length q4) L.length (flatE L)) ∧ Hid (Below w.heap.size w wr)) (fun i _ => L.length - (intOf i).toNat)
  case atStart => exact ⟨0, Nat.zero_le _, rfl, HO1, HB1⟩
  case round =>
    clear HO1 HB1
    obtain ⟨k, hk, rfl, HO, HB⟩ := hrel
    by_cases hlt : k < L.length
    · have hso : L[k].path.size ≤ 1500000 := HS.out _ (List.getElem_mem hlt)
      obtain ⟨g, c1, hv⟩ := own_some HO.out (by omega)
      cases hv
      have HC0 : Hid ((flatE L)[k * 5]? = some (.string L[k].path)) := by
        have := flatE_get L k hlt 0 (by omega)
        rw [Nat.add_zero] at this
        exact this
      have d0 : wr.cell? ⟨g, k * 5, none⟩ = some (.string L[k].path) := (HO.out.cellAt (k * 5) (by omega)).trans HC0.out
      have HST := hidD (set_self (flatE L) (k * 5) (.string L[k].path) HC0.out)
      generalize L[k] = o at *
      go_wp2_with (go_at_call 73; refine (clone_str o.path _ (by omega)).mono ?_; rintro r w2 ⟨rfl, hb2⟩; have o2 := own_below hb2 HO.out; have f2 := o2.frozenAt (k * 5); have x2 := (o2.cellAt (k * 5) (by omega)).trans HC0.out)
      obtain ⟨q1, q2⟩ := o2.stored (k * 5) (.string o.path)
      rw [HST.out] at q1
      exact ⟨⟨k + 1, by omega, by go_num, hidD q1, hidD ((HB.out.trans (hb2.mono HB.out.size)).grown q2 (Nat.le_trans HB.out.size hb2.size) (fun q hq => (o2.lt q hq).1))⟩, by simp [intOf]; omega⟩
    · go_wp2
      go_ret
      exact ⟨_, rfl, HO.out, HB.out⟩

/-- What Mount says of a list and a space. -/
def mountN (fold : Bool) (space : Int) (L : List EntD) : Int := if heldF fold L = false then 4 else if space < usedL L ∨ 100000 < space then 11 else 0

/-- A result's cell of type 85. -/
structure Mb (w : World) (cs : Array Value) (u : World) : Prop where
  bel : Below w.heap.size w u
  box : u.heap[w.heap.size]? = some (.cells cs 85 (0, 0))
theorem Mb.start (w : World) (cs : Array Value) : Mb w cs (w.alloc (.cells cs 85)) := ⟨(Below.refl _ _).alloc (Nat.le_refl _) _, heap_alloc_new w _⟩
theorem Mb.lt {w u : World} {cs : Array Value} (h : Mb w cs u) : w.heap.size < u.heap.size := (Array.getElem?_eq_some_iff.1 h.box).1
theorem Mb.below {w u u' : World} {cs : Array Value} (h : Mb w cs u) (hb : Below u.heap.size u u') : Mb w cs u' := ⟨h.bel.trans (hb.mono h.bel.size), (hb.block _ h.lt).trans h.box⟩
theorem Mb.cell {w u : World} {cs : Array Value} (h : Mb w cs u) (j : Nat) : u.cell? ⟨w.heap.size, j, none⟩ = cs[j]? := Lib.cell_of_heap h.box j
theorem Mb.frozen {w u : World} {cs : Array Value} (h : Mb w cs u) (j : Nat) : u.frozen? ⟨w.heap.size, j, none⟩ = false := frozen_of_row u _ j _ 85 h.box
theorem Mb.set {w u : World} {cs : Array Value} (h : Mb w cs u) (j : Nat) (v : Value) : Mb w (cs.setIfInBounds j v) (u.setCell ⟨w.heap.size, j, none⟩ v) := by
  refine ⟨⟨h.bel.os, h.bel.tape, h.bel.output, by simp; exact h.bel.size, fun k hk => ?_⟩, heap_setCell_same u w.heap.size j cs 85 v h.box⟩
  rw [heap_setCell_other u ⟨w.heap.size, j, none⟩ k _ (fun e => by simp at e; omega)]
  exact h.bel.block k hk

theorem Mb.fill {w u : World} {x0 x1 x2 x3 : Value} (h : Mb w #[x0, x1, x2, x3] u) (a b c d : Value) : Mb w #[a, b, c, d] ((((u.setCell ⟨w.heap.size, 0, none⟩ a).setCell ⟨w.heap.size, 1, none⟩ b).setCell ⟨w.heap.size, 2, none⟩ c).setCell ⟨w.heap.size, 3, none⟩ d) := by
  have := (((h.set 0 a).set 1 b).set 2 c).set 3 d
  simpa using this
theorem Mb.results {w u : World} {a : Option Addr} {m c : Nat} {b : Bool} {n : Int} {s : ByteArray} {k : Int} (h : Mb w #[.slice a m c, .bool b, .int .i64 n, .string s] u) (tmps : Array Value) (h8 : tmps.getD 8 undef = .pointer (some ⟨w.heap.size, 0, none⟩)) (h9 : tmps.getD 9 undef = .int .i64 k) :
    (results Tryz.f43 tmps).run Tryz.prog u = .ok (.tuple #[.agg #[.slice a m c, .bool b, .int .i64 n, .string s], .int .i64 k]) u := by
  rw [results_cell_tmp rfl, h8, h9]
  have z0 := h.cell 0
  have z1 := h.cell 1
  have z2 := h.cell 2
  have z3 := h.cell 3
  simp at z0 z1 z2 z3
  go_simp

theorem own_cell {u : World} {B e s n g : Nat} {v : Value} {xs : List Value} (h : u.ownsRow B e s v n xs) (hB : g < B) (j : Nat) (x : Value) : (u.setCell ⟨g, j, none⟩ x).ownsRow B e s v n xs := by
  refine h.kept (row := some g) ⟨rfl, rfl, rfl, by simp, fun k _ hk => heap_setCell_other u ⟨g, j, none⟩ k x (fun e => hk (by simp [e]))⟩ (.inr fun hv => ?_)
  have := (h.lt g hv).1
  omega

def zeroM : Array Value := #[.slice none 0 0, .bool false, .int .i64 0, .string ByteArray.empty]

/-- What Mount of the inner kind answers. -/
def VMnt (w : World) (fold : Bool) (space : Int) (j : ByteArray) (L : List EntD) (n : Int) (r : Ending) (w' : World) : Prop :=
  if n = 0 then ∃ a m c, r = .returned (.tuple #[.agg #[.slice a m c, .bool fold, .int .i64 space, .string j], .int .i64 0]) ∧ w'.ownsRow w.heap.size 56 5 (.slice a m c) L.length (flatE L) ∧ Below w.heap.size w w'
  else ∃ a m c b z s, r = .returned (.tuple #[.agg #[.slice a m c, .bool b, .int .i64 z, .string s], .int .i64 n]) ∧ Below w.heap.size w w'

section
variable {w : World} {v : Value} {L : List EntD}

set_option maxHeartbeats 4000000 in
set_option maxRecDepth 100000 in
theorem vMount_bad (fold : Bool) (hr : RowAt w v L) (hs : SmallL L) (space : Int) (j : ByteArray) (hh : heldF fold L = false) :
    Calls Tryz.prog 43 #[v, .bool fold, .int .i64 space, .string j] w fun r w' => ∃ a m c b z s, r = .returned (.tuple #[.agg #[.slice a m c, .bool b, .int .i64 z, .string s], .int .i64 4]) ∧ Below w.heap.size w w' := by
  have ST := hidD (Mb.start w zeroM)
  have HH := hidD (checkHeldF fold (hr.below ST.out.bel (Nat.le_refl _)) hs)
  rw [hh] at HH
  obtain ⟨a, c, rfl⟩ := hr.val
  clear hr hs
  unfold zeroM at *
  go_enter Tryz.func43, Tryz.ntmps43
  go_wp2_with (go_at_call 71; refine HH.out.mono ?_; rintro r w1 ⟨c1, k1, rfl, hck, hb1⟩; have hcn : (c1 != 0) = true := (by simp only [bne, hck]; rfl); have s1 := ST.out.below hb1; have z0 := s1.cell 0; have z1 := s1.cell 1; have z2 := s1.cell 2; have z3 := s1.cell 3; have y0 := s1.frozen 0; have y1 := s1.frozen 1; have y2 := s1.frozen 2; have y3 := s1.frozen 3; simp at z0 z1 z2 z3)
  have s2 := s1.fill (.slice none 0 0) (.bool false) (.int .i64 0) (.string ⟨#[]⟩)
  exact bodyPost_ret (s2.results _ rfl rfl) rfl ⟨_, _, _, _, _, _, rfl, s2.bel⟩

set_option maxHeartbeats 4000000 in
set_option maxRecDepth 100000 in
theorem vMount_space (fold : Bool) (hr : RowAt w v L) (hs : SmallL L) (space : Int) (j : ByteArray) (hh : heldF fold L = true) (hsp : space < usedL L ∨ 100000 < space) :
    Calls Tryz.prog 43 #[v, .bool fold, .int .i64 space, .string j] w fun r w' => ∃ a m c b z s, r = .returned (.tuple #[.agg #[.slice a m c, .bool b, .int .i64 z, .string s], .int .i64 11]) ∧ Below w.heap.size w w' := by
  have ST := hidD (Mb.start w zeroM)
  have HH := hidD (checkHeldF fold (hr.below ST.out.bel (Nat.le_refl _)) hs)
  have K := held_vol hh
  have HZ := hidD (fun (u : World) (hu : Below w.heap.size w u) => vsizes hr K.few K.sizesOk u hu)
  rw [hh] at HH
  obtain ⟨a, c, rfl⟩ := hr.val
  clear hr hs K
  unfold zeroM at *
  generalize usedL L = us at *
  by_cases h1 : space < us
  · go_enter Tryz.func43, Tryz.ntmps43
    go_wp2_with (first | (go_at_call 71; refine HH.out.mono ?_; rintro r w1 ⟨c1, k1, rfl, hck, hb1⟩; have hcn : (c1 != 0) = false := (by simp only [bne, hck]; rfl); have s1 := ST.out.below hb1) | (go_at_call 69; refine (HZ.out _ s1.bel).mono ?_; rintro r w2 ⟨rfl, hb2⟩; have s2 := s1.below hb2; have z0 := s2.cell 0; have z1 := s2.cell 1; have z2 := s2.cell 2; have z3 := s2.cell 3; have y0 := s2.frozen 0; have y1 := s2.frozen 1; have y2 := s2.frozen 2; have y3 := s2.frozen 3; simp at z0 z1 z2 z3))
    have s3 := s2.fill (.slice none 0 0) (.bool false) (.int .i64 0) (.string ⟨#[]⟩)
    exact bodyPost_ret (s3.results _ rfl rfl) rfl ⟨_, _, _, _, _, _, rfl, s3.bel⟩
  · have h2 : 100000 < space := by omega
    go_enter Tryz.func43, Tryz.ntmps43
    go_wp2_with (first | (go_at_call 71; refine HH.out.mono ?_; rintro r w1 ⟨c1, k1, rfl, hck, hb1⟩; have hcn : (c1 != 0) = false := (by simp only [bne, hck]; rfl); have s1 := ST.out.below hb1) | (go_at_call 69; refine (HZ.out _ s1.bel).mono ?_; rintro r w2 ⟨rfl, hb2⟩; have s2 := s1.below hb2; have z0 := s2.cell 0; have z1 := s2.cell 1; have z2 := s2.cell 2; have z3 := s2.cell 3; have y0 := s2.frozen 0; have y1 := s2.frozen 1; have y2 := s2.frozen 2; have y3 := s2.frozen 3; simp at z0 z1 z2 z3))
    have s3 := s2.fill (.slice none 0 0) (.bool false) (.int .i64 0) (.string ⟨#[]⟩)
    exact bodyPost_ret (s3.results _ rfl rfl) rfl ⟨_, _, _, _, _, _, rfl, s3.bel⟩

set_option maxHeartbeats 4000000 in
set_option maxRecDepth 100000 in
theorem vMount_ok (fold : Bool) (hr : RowAt w v L) (hs : SmallL L) (space : Int) (j : ByteArray) (hj : j.size ≤ 2000000) (hh : heldF fold L = true) (h1 : ¬ space < usedL L) (h2 : ¬ 100000 < space) :
    Calls Tryz.prog 43 #[v, .bool fold, .int .i64 space, .string j] w fun r w' => ∃ a m c, r = .returned (.tuple #[.agg #[.slice a m c, .bool fold, .int .i64 space, .string j], .int .i64 0]) ∧ w'.ownsRow w.heap.size 56 5 (.slice a m c) L.length (flatE L) ∧ Below w.heap.size w w' := by
  have ST := hidD (Mb.start w zeroM)
  have HH := hidD (checkHeldF fold (hr.below ST.out.bel (Nat.le_refl _)) hs)
  have K := held_vol hh
  have HZ := hidD (fun (u : World) (hu : Below w.heap.size w u) => vsizes hr K.few K.sizesOk u hu)
  have HCP := hidD (fun (u : World) (hu : Below w.heap.size w u) => vcopied (hr.below hu (Nat.le_refl _)) (by have := K.few; omega) hs.2)
  rw [hh] at HH
  obtain ⟨a, c, rfl⟩ := hr.val
  clear hr hs K
  unfold zeroM at *
  generalize usedL L = us at *
  go_enter Tryz.func43, Tryz.ntmps43
  go_wp2_with (first | (go_at_call 71; refine HH.out.mono ?_; rintro r w1 ⟨c1, k1, rfl, hck, hb1⟩; have hcn : (c1 != 0) = false := (by simp only [bne, hck]; rfl); have s1 := ST.out.below hb1) | (go_at_call 69; refine (HZ.out _ s1.bel).mono ?_; rintro r w2 ⟨rfl, hb2⟩; have s2 := s1.below hb2) | (go_at_call 72; refine (HCP.out _ s2.bel).mono ?_; rintro r w3 ⟨v3, rfl, hown3, hb3⟩; obtain ⟨a3, m3, q3, hv3⟩ := own_shape hown3; subst hv3; have s3 := s2.below hb3) | (go_at_call 73; refine (clone_str j _ hj).mono ?_; rintro r w4 ⟨rfl, hb4⟩; have s4 := s3.below hb4; have o4 := own_below hb4 hown3; have z0 := s4.cell 0; have z1 := s4.cell 1; have z2 := s4.cell 2; have z3 := s4.cell 3; have y0 := s4.frozen 0; have y1 := s4.frozen 1; have y2 := s4.frozen 2; have y3 := s4.frozen 3; simp at z0 z1 z2 z3))
  have s5 := s4.fill (.slice a3 m3 q3) (.bool fold) (.int .i64 space) (.string j)
  refine bodyPost_ret (s5.results _ rfl rfl) rfl ⟨_, _, _, rfl, ?_, s5.bel⟩
  have hlt4 := s2.lt
  exact own_mono (B' := w.heap.size) (own_cell (own_cell (own_cell (own_cell o4 hlt4 0 _) hlt4 1 _) hlt4 2 _) hlt4 3 _) (by omega)

theorem vMount (fold : Bool) (hr : RowAt w v L) (hs : SmallL L) (space : Int) (j : ByteArray) (hj : j.size ≤ 2000000) :
    Calls Tryz.prog 43 #[v, .bool fold, .int .i64 space, .string j] w fun r w' => VMnt w fold space j L (mountN fold space L) r w' := by
  unfold VMnt mountN
  cases hh : heldF fold L
  · rw [if_pos rfl]
    exact (vMount_bad fold hr hs space j hh).mono (fun r w' h => by rw [if_neg (by decide : ¬ (4 : Int) = 0)]; exact h)
  · rw [if_neg (by decide)]
    by_cases hsp : space < usedL L ∨ 100000 < space
    · rw [if_pos hsp]
      exact (vMount_space fold hr hs space j hh hsp).mono (fun r w' h => by rw [if_neg (by decide : ¬ (11 : Int) = 0)]; exact h)
    · rw [if_neg hsp]
      exact (vMount_ok fold hr hs space j hj hh (fun h => hsp (.inl h)) (fun h => hsp (.inr h))).mono (fun r w' h => by rw [if_pos rfl]; exact h)

/-- What Mount answers. -/
def CMnt (T : TypeId) (w : World) (fold : Bool) (space : Int) (rest : List Value) (n : Int) (R : Value → World → Prop) (r : Ending) (w' : World) : Prop :=
  if n = 0 then ∃ vb v', r = .returned (.tuple #[.pointer (some ⟨vb, 0, none⟩), .int .i64 0]) ∧ w.heap.size ≤ vb ∧ Vk T w' vb v' fold space rest ∧ R v' w' ∧ Below w.heap.size w w'
  else r = .returned (.tuple #[.pointer none, .int .i64 n]) ∧ Below w.heap.size w w'

set_option maxHeartbeats 4000000 in
set_option maxRecDepth 100000 in
/-- convoy's Mount. -/
theorem cMount (fold : Bool) (hr : RowAt w v L) (hs : SmallL L) (space : Int) (j : ByteArray) (hj : j.size ≤ 2000000) :
    Calls Tryz.prog 22 #[v, .bool fold, .int .i64 space, .string j] w fun r w' => CMnt 89 w fold space [.string j] (mountN fold space L) (fun v' w' => w'.ownsRow w.heap.size 56 5 v' L.length (flatE L)) r w' := by
  have HM := hidD (vMount fold hr hs space j hj)
  obtain ⟨a, c, rfl⟩ := hr.val
  clear hr hs
  unfold VMnt at HM
  unfold CMnt
  generalize mountN fold space L = n at *
  by_cases hn : n = 0
  · subst hn
    simp only [↓reduceIte] at HM ⊢
    go_enter Tryz.func22, Tryz.ntmps22
    go_wp2_with (go_at_call 43; refine HM.out.mono ?_; rintro r w1 ⟨a1, m1, c1, rfl, hown1, hb1⟩)
    go_ret2
    refine ⟨_, _, rfl, by have := hb1.size; omega, ?_, (hown1.alloc _).alloc _, (hb1.alloc hb1.size _).alloc (by have := hb1.size; simp; omega) _⟩
    have := heap_alloc_new (w1.alloc (.cells #[.slice a1 m1 c1, .bool fold, .int .i64 space, .string j] 85)) (.cells #[.slice a1 m1 c1, .bool fold, .int .i64 space, .string j] 89)
    rw [World.size_alloc] at this
    exact this
  · simp only [if_neg hn] at HM ⊢
    have hn' : (n != 0) = true := by simpa using hn
    go_enter Tryz.func22, Tryz.ntmps22
    go_wp2_with (go_at_call 43; refine HM.out.mono ?_; rintro r w1 ⟨a1, m1, c1, b1, z1, s1, rfl, hb1⟩)
    go_ret2
    exact ⟨rfl, hb1.alloc hb1.size _⟩
end
end Go.Proofs.YtpjjagalekolaaaGreatDoor

