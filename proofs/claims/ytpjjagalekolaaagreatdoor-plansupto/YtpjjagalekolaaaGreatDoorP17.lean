/- VH, VI, VJ, VK, VL, XA, XB, VQ, VR, VO, VP, VN: in one text. -/
import Derived.Test.YtpjjagalekolaaaGreatDoorP16
import Derived.Test.YtpjjagalekolaaaGreatDoorP15
import Derived.Lib.AppendZerosOnto
import Derived.Test.YtpjjagalekolaaaGreatDoorP12
import Derived.Laws.OwnMore
/- Rows of entries put together: the library's Grow and Concat at this program. -/
namespace Go.Proofs.YtpjjagalekolaaaGreatDoor
open Go.RowKit
set_option linter.unusedVariables false
set_option linter.unusedSimpArgs false

theorem RowAt.ofOwn {w : World} {B : Nat} {v : Value} {l : List EntD} (h : w.ownsRow B 56 5 v l.length (flatE l)) : RowAt w v l := by
  have hc := h
  rcases h.2 with ⟨rfl, h0⟩ | ⟨g, cap, cur, rfl, hB, hg, hn, hm, _⟩
  · obtain rfl : l = [] := List.eq_nil_of_length_eq_zero h0
    exact .nil
  · refine .row g 0 cap l (heap_lt hg) hn hm (at_flatE fun j u hu => ?_)
    have := hc.cells (g := g) rfl j u hu
    have e2 : ((⟨g, 0, none⟩ : Addr).add j) = ⟨g, j, none⟩ := by unfold Addr.add; split <;> simp_all
    rwa [e2] at this

end Go.Proofs.YtpjjagalekolaaaGreatDoor

/- The library's BinarySearchFunc at this program: where an entry goes in. -/
namespace Go.Proofs.YtpjjagalekolaaaGreatDoor
open Go.RowKit
set_option linter.unusedVariables false
set_option linter.unusedSimpArgs false

end Go.Proofs.YtpjjagalekolaaaGreatDoor

/- A volume in memory: the entries with one more, and with one less. -/
namespace Go.Proofs.YtpjjagalekolaaaGreatDoor
open Go.RowKit
set_option linter.unusedVariables false
set_option linter.unusedSimpArgs false

theorem own_mono {w : World} {B B' : Nat} {v : Value} {n : Nat} {xs : List Value} (h : w.ownsRow B 56 5 v n xs) (hb : B' ≤ B) : w.ownsRow B' 56 5 v n xs :=
  ⟨h.1, h.2.imp id fun ⟨g, cap, cur, h1, h2, h3⟩ => ⟨g, cap, cur, h1, Nat.le_trans hb h2, h3⟩⟩
theorem own_shape {w : World} {B : Nat} {v : Value} {n : Nat} {xs : List Value} (h : w.ownsRow B 56 5 v n xs) : ∃ a m c, v = .slice a m c := by
  rcases h.2 with ⟨rfl, rfl⟩ | ⟨g, cap, cur, rfl, _⟩
  · exact ⟨_, _, _, rfl⟩
  · exact ⟨_, _, _, rfl⟩
theorem EntsAt.drop {w : World} {b off : Nat} {l : List EntD} (h : EntsAt w b off l) (n : Nat) : EntsAt w b (off + n * 5) (l.drop n) := by
  intro k hk j v hv
  have hk' : n + k < l.length := by simp at hk; omega
  rw [List.getElem_drop] at hv
  have := h (n + k) hk' j v hv
  rwa [show off + n * 5 + k * 5 + j = off + (n + k) * 5 + j by omega]
theorem RowAt.take {w : World} {b off cap : Nat} {l : List EntD} (hb : b < w.heap.size) (hc : l.length ≤ cap) (hm : cap ≤ maxLen) (h : EntsAt w b off l) (i : Nat) (hi : i ≤ l.length) : RowAt w (.slice (some ⟨b, off, none⟩) i cap) (l.take i) := by
  have := RowAt.row (w := w) b off cap (l.take i) hb (by simp; omega) hm (h.take i)
  rwa [List.length_take, Nat.min_eq_left hi] at this
theorem RowAt.drop {w : World} {b off cap : Nat} {l : List EntD} (hb : b < w.heap.size) (hc : l.length ≤ cap) (hm : cap ≤ maxLen) (h : EntsAt w b off l) (i : Nat) (hi : i ≤ l.length) : RowAt w (.slice (some ⟨b, off + i * 5, none⟩) (l.length - i) (cap - i)) (l.drop i) := by
  have := RowAt.row (w := w) b (off + i * 5) (cap - i) (l.drop i) hb (by simp; omega) (by omega) (h.drop i)
  rwa [List.length_drop] at this

theorem cells_new (w : World) (e : EntD) : EntsAt (w.alloc (.cells e.cells.toArray 56)) w.heap.size 0 [e] := by
  intro k hk j v hv
  obtain rfl : k = 0 := by simp at hk; omega
  simp only [List.getElem_cons_zero] at hv
  rw [show 0 + 0 * 5 + j = j by omega, World.cell?_alloc_at _ _ _ _ rfl, ← hv]
  simp

end Go.Proofs.YtpjjagalekolaaaGreatDoor

/- A volume in memory: the entries with one less; a file more, where there is space. -/
namespace Go.Proofs.YtpjjagalekolaaaGreatDoor
open Go.RowKit
set_option linter.unusedVariables false
set_option linter.unusedSimpArgs false

def SizesOk (L : List EntD) : Prop := ∀ k, k ≤ L.length → 0 ≤ usedL (L.take k) ∧ usedL (L.take k) ≤ 1000000000
end Go.Proofs.YtpjjagalekolaaaGreatDoor

/- A volume in memory: mkdir, unlink, write. -/
namespace Go.Proofs.YtpjjagalekolaaaGreatDoor
open Go.RowKit
set_option linter.unusedVariables false
set_option linter.unusedSimpArgs false

/-- A volume in memory, and what is known of its tree. -/
structure Vm (w : World) (vb : Nat) (v : Value) (L : List EntD) (fold : Bool) (space : Int) : Prop where
  vol : VolAt w vb v fold space
  row : RowAt w v L
  len : L.length ≤ 120
  small : ∀ o ∈ L, o.small
  srt : Srt L
  sizes : SizesOk L
  sp0 : 0 ≤ space
  sp1 : space ≤ 9223372036854775807
theorem Vm.below {w w' : World} {vb : Nat} {v : Value} {L : List EntD} {fold : Bool} {space : Int} (h : Vm w vb v L fold space) (hb : Below w.heap.size w w') : Vm w' vb v L fold space :=
  ⟨h.vol.below hb h.vol.lt, h.row.below hb (Nat.le_refl _), h.len, h.small, h.srt, h.sizes, h.sp0, h.sp1⟩
theorem Vm.smallL {w : World} {vb : Nat} {v : Value} {L : List EntD} {fold : Bool} {space : Int} (h : Vm w vb v L fold space) : SmallL L := ⟨by have := h.len; omega, h.small⟩

/-- An operation in a box of its own, and nothing else. -/
structure Ob (w : World) (o : OpD) (u : World) : Prop where
  bel : Below w.heap.size w u
  box : u.heap[w.heap.size]? = some (.cells o.cells.toArray 59 (0, 0))
theorem Ob.start (w : World) (o : OpD) : Ob w o (w.alloc (.cells o.cells.toArray 59)) := ⟨(Below.refl _ _).alloc (Nat.le_refl _) _, heap_alloc_new w _⟩
theorem Ob.below {w u u' : World} {o : OpD} (h : Ob w o u) (hb : Below u.heap.size u u') : Ob w o u' :=
  ⟨h.bel.trans (hb.mono h.bel.size), (hb.block _ (Array.getElem?_eq_some_iff.1 h.box).1).trans h.box⟩
theorem Ob.cell {w u : World} {o : OpD} (h : Ob w o u) (j : Nat) : u.cell? ⟨w.heap.size, j, none⟩ = o.cells[j]? := by
  rw [Lib.cell_of_heap h.box]; simp
theorem Ob.lt {w u : World} {o : OpD} (h : Ob w o u) : w.heap.size < u.heap.size := (Array.getElem?_eq_some_iff.1 h.box).1
theorem Ob.drewN {w u : World} {o : OpD} (h : Ob w o u) (n : Nat) : Ob w o (u.drewN n) := ⟨h.bel.trans ⟨rfl, rfl, rfl, Nat.le_refl _, fun _ _ => rfl⟩, h.box⟩

theorem ofL_small {t : BL} (h : t.length ≤ 1500000) : (ofL t).size ≤ 1500000 := by
  have : (ofL t).size = t.length := by simp [ofL, ByteArray.size]
  omega
end Go.Proofs.YtpjjagalekolaaaGreatDoor

/- The document's volume: one path or another, where an entry is, what all sizes come to, what lies below. -/
namespace Go.Proofs.YtpjjagalekolaaaGreatDoor
open Go.RowKit
set_option linter.unusedVariables false
set_option linter.unusedSimpArgs false

theorem one_both (a b : ByteArray) (fold : Bool) (w : World) (ha : a.size ≤ 1500000) (hb : b.size ≤ 1500000) :
    Calls Tryz.prog 110 #[.string a, .string b, .bool fold] w fun e w' => e = .returned (.bool (sameB fold a.data.toList b.data.toList)) ∧ ∃ n, w' = w.drewN n := by
  cases fold
  · exact one_any a b w ha hb
  · exact one_fold a b w ha hb
theorem one_bel (a b : ByteArray) (fold : Bool) (w : World) (ha : a.size ≤ 1500000) (hb : b.size ≤ 1500000) :
    Calls Tryz.prog 110 #[.string a, .string b, .bool fold] w fun e w' => e = .returned (.bool (sameB fold a.data.toList b.data.toList)) ∧ Below w.heap.size w w' :=
  (one_both a b fold w ha hb).mono (by rintro e w' ⟨rfl, n, rfl⟩; exact ⟨rfl, below_drewE _ n⟩)

set_option maxHeartbeats 1000000 in
theorem refBelow_any (s a : ByteArray) (fold : Bool) (w : World) (hs : s.size ≤ 1500000) (ha : a.size ≤ 1500000) :
    Calls Tryz.prog 112 #[.string s, .string a, .bool fold] w fun e w' => e = .returned (.bool (belowL fold s.data.toList a.data.toList)) ∧ ∃ n, w' = w.drewN n := by
  have hA : a.data.toList.length = a.size := by simp
  have hS : s.data.toList.length = s.size := by simp
  by_cases hlt : a.size < s.size
  · by_cases hc : ((s[a.size].toNat : Int) != 47) = false
    · have h47 : s[a.size] = 47 := by have h1 := bne_eq_false_iff_eq.1 hc; exact UInt8.toNat_inj.1 (by have : (47 : UInt8).toNat = 47 := rfl; omega)
      have hg : s.data.toList[a.size]? = some 47 := by
        rw [List.getElem?_eq_getElem (by simpa using hlt)]
        congr 1
      have hv : belowL fold s.data.toList a.data.toList = sameB fold (s.data.toList.take a.size) a.data.toList := by
        unfold belowL
        rw [hA, hS, hg]
        simp [hlt]
      rw [hv]
      go_enter Tryz.func112, Tryz.ntmps112
      go_wp2_with (go_at_call 110; refine (one_both _ _ _ _ (by simp; omega) (by omega)).mono ?_; rintro e w1 ⟨rfl, nq, rfl⟩)
      go_ret
      exact ⟨rfl, nq, rfl⟩
    · simp only [Bool.not_eq_false] at hc
      have h47 : s[a.size] ≠ 47 := by have h1 := bne_iff_ne.1 hc; intro h2; rw [h2] at h1; exact h1 rfl
      have hv : belowL fold s.data.toList a.data.toList = false := by
        unfold belowL
        rw [hA, hS, List.getElem?_eq_getElem (by simpa using hlt)]
        have : (some s.data.toList[a.size] == some (47 : UInt8)) = false := by
          simp only [beq_eq_false_iff_ne, ne_eq, Option.some.injEq]
          exact h47
        rw [this]; simp
      rw [hv]
      go_enter Tryz.func112, Tryz.ntmps112
      go_wp2
      go_ret
      exact ⟨rfl, 0, rfl⟩
  · have hv : belowL fold s.data.toList a.data.toList = false := by
      unfold belowL
      rw [hA, hS]; simp [hlt]
    rw [hv]
    go_enter Tryz.func112, Tryz.ntmps112
    go_wp2
    go_ret
    exact ⟨rfl, 0, rfl⟩

theorem refBelow_bel (s a : ByteArray) (fold : Bool) (w : World) (hs : s.size ≤ 1500000) (ha : a.size ≤ 1500000) :
    Calls Tryz.prog 112 #[.string s, .string a, .bool fold] w fun e w' => e = .returned (.bool (belowL fold s.data.toList a.data.toList)) ∧ Below w.heap.size w w' :=
  (refBelow_any s a fold w hs ha).mono (by rintro e w' ⟨rfl, n, rfl⟩; exact ⟨rfl, below_drewE _ n⟩)

theorem any_snocE (pr : EntD → Bool) (l : List EntD) (k : Nat) (h : k < l.length) : (l.take (k + 1)).any pr = ((l.take k).any pr || pr l[k]) := by
  rw [List.take_succ_eq_append_getElem h, List.any_append]; simp
theorem any_hitE (pr : EntD → Bool) (l : List EntD) (k : Nat) (h : k < l.length) (hp : pr l[k] = true) : l.any pr = true := List.any_eq_true.2 ⟨_, List.getElem_mem h, hp⟩

set_option maxHeartbeats 2000000 in
theorem refAt_row {w : World} {vb b off cap : Nat} {L : List EntD} {fold : Bool} {space : Int} (hv : VolAt w vb (.slice (some ⟨b, off, none⟩) L.length cap) fold space) (hlb : b < w.heap.size) (hc : EntsAt w b off L) (hs : SmallL L) (p : ByteArray) (hp : p.size ≤ 1500000) :
    Calls Tryz.prog 63 #[.pointer (some ⟨vb, 0, none⟩), .string p] w fun e w' => e = .returned (.int .i64 (fstI (isAt fold p.data.toList) L)) ∧ Below w.heap.size w w' := by
  have hvlt := hv.lt
  have hl := hs.1
  go_enter Tryz.func63, Tryz.ntmps63
  go_wp2
  go_loopw [5] (fun i wr => ∃ k : Nat, k ≤ L.length ∧ i = .int .i64 k ∧ Hid ((L.take k).any (isAt fold p.data.toList) = false) ∧ Hid (Below w.heap.size w wr)) (fun i _ => L.length - (intOf i).toNat)
  case atStart => exact ⟨0, Nat.zero_le _, rfl, hidD rfl, hidD (Below.refl _ _)⟩
  case round =>
    obtain ⟨k, hk, rfl, HD, HB⟩ := hrel
    have c0 := (hv.below HB.out hvlt).c0
    have c1 := (hv.below HB.out hvlt).c1
    by_cases hlt : k < L.length
    · have d0 : wr.cell? ⟨b, off + k * 5, none⟩ = some (.string L[k].path) := (hc.below HB.out hlb) k hlt 0 _ rfl
      have hbw : b < wr.heap.size := Nat.lt_of_lt_of_le hlb HB.out.size
      have hq : L[k].path.size ≤ 1500000 := hs.2 _ (List.getElem_mem hlt)
      have HH := hidD (fun h : isAt fold p.data.toList L[k] = true => fstI_hit (isAt fold p.data.toList) L k hlt h HD.out)
      have HM := hidD (fun h : isAt fold p.data.toList L[k] = false => show (L.take (k + 1)).any (isAt fold p.data.toList) = false by rw [any_snocE _ _ _ hlt, HD.out, h]; rfl)
      have HP : Hid (sameB fold L[k].path.data.toList p.data.toList = isAt fold p.data.toList L[k]) := rfl
      generalize L[k].path = q at *
      generalize isAt fold p.data.toList L[k] = t at *
      have HVV := hidD hv
      clear hv hc HD
      cases t
      all_goals
        go_wp2
        go_region_held (fun u => u.cell? ⟨vb, 0, none⟩ = some (.slice (some ⟨b, off, none⟩) L.length cap) ∧ u.cell? ⟨vb, 1, none⟩ = some (.bool fold) ∧ u.cell? ⟨b, off + k * 5, none⟩ = some (.string q)) (go_keep) (first | (go_at_call 110; refine (one_bel q p fold _ hq hp).mono ?_; rintro r w2 ⟨rfl, hb2⟩; rw [HP.out]; have hblt : b < (wr.drewN 1).heap.size := hbw; have u2 : Below w.heap.size w w2 := (HB.out.trans (below_drewE wr 1)).trans (hb2.mono HB.out.size); have f0 := (HVV.out.below u2 hvlt).c0; have f1 := (HVV.out.below u2 hvlt).c1; have f2 := cell_kept hb2 hblt (by exact d0)))
        all_goals go_wp2
      · all_goals exact ⟨⟨k + 1, by omega, by go_num, hidD (HM.out (by first | rfl | trivial)), hidD u2⟩, by simp [intOf]; omega⟩
      · all_goals go_ret
        all_goals exact ⟨by rw [HH.out (by first | rfl | trivial)]; rfl, u2⟩
    · have HN := hidD (show fstI (isAt fold p.data.toList) L = -1 from fstI_none _ _ (by have := HD.out; rwa [List.take_of_length_le (by omega)] at this))
      go_wp2
      go_ret
      exact ⟨by rw [HN.out]; rfl, HB.out⟩
set_option maxHeartbeats 1000000 in
theorem refAt_nil {w : World} {vb : Nat} {fold : Bool} {space : Int} (hv : VolAt w vb (.slice none 0 0) fold space) (p : ByteArray) :
    Calls Tryz.prog 63 #[.pointer (some ⟨vb, 0, none⟩), .string p] w fun e w' => e = .returned (.int .i64 (-1)) ∧ Below w.heap.size w w' := by
  have c0 := hv.c0
  go_enter Tryz.func63, Tryz.ntmps63
  go_wp2
  refine wp_loop_rounds 1 ?_
  rw [rounds_succ]
  go_wp2
  go_ret
  exact ⟨rfl, Below.refl _ _⟩
theorem refAt {w : World} {vb : Nat} {v : Value} {L : List EntD} {fold : Bool} {space : Int} (hv : VolAt w vb v fold space) (hr : RowAt w v L) (hs : SmallL L) (p : ByteArray) (hp : p.size ≤ 1500000) :
    Calls Tryz.prog 63 #[.pointer (some ⟨vb, 0, none⟩), .string p] w fun e w' => e = .returned (.int .i64 (fstI (isAt fold p.data.toList) L)) ∧ Below w.heap.size w w' := by
  cases hr with
  | nil => exact refAt_nil hv p
  | row b off cap l hlb hc hm h => exact refAt_row hv hlb h hs p hp

set_option maxHeartbeats 2000000 in
theorem refUsed_row {w : World} {vb b off cap : Nat} {L : List EntD} {fold : Bool} {space : Int} (hv : VolAt w vb (.slice (some ⟨b, off, none⟩) L.length cap) fold space) (hlb : b < w.heap.size) (hc : EntsAt w b off L) (hl : L.length ≤ 120) (hz : SizesOk L) :
    Calls Tryz.prog 39 #[.pointer (some ⟨vb, 0, none⟩)] w fun e w' => e = .returned (.int .i64 (usedL L)) ∧ w' = w := by
  have c0 := hv.c0
  have HZ := hidD hz
  clear hv hz
  go_enter Tryz.func39, Tryz.ntmps39
  go_wp2
  go_loopw [3, 4] (fun s i wr => ∃ k : Nat, k ≤ L.length ∧ i = .int .i64 k ∧ s = .int .i64 (usedL (L.take k)) ∧ wr = w) (fun _ i _ => L.length - (intOf i).toNat)
  case atStart => exact ⟨0, Nat.zero_le _, rfl, rfl, rfl⟩
  case round =>
    obtain ⟨k, hk, rfl, rfl, rfl⟩ := hrel
    obtain ⟨z1, z2⟩ := HZ.out k hk
    by_cases hlt : k < L.length
    · have HSN := hidD (usedL_snoc L k hlt)
      obtain ⟨z3, z4⟩ := HZ.out (k + 1) hlt
      have z5 : usedL (L.take (k + 1)) = usedL (L.take k) + L[k].size := usedL_snoc L k hlt
      have z6 : -2000000000 ≤ L[k].size ∧ L[k].size ≤ 2000000000 := by omega
      obtain ⟨z7, z8⟩ := z6
      clear z5 z3 z4
      have d3 : wr.cell? ⟨b, off + k * 5 + 3, none⟩ = some (.int .i64 L[k].size) := hc k hlt 3 _ rfl
      generalize L[k] = o at *
      generalize usedL (L.take k) = s at *
      go_wp2
      exact ⟨⟨k + 1, by omega, by go_num, by rw [HSN.out], by first | rfl | trivial⟩, by simp [intOf]; omega⟩
    · go_wp2
      go_ret
      refine ⟨?_, rfl⟩
      rw [List.take_of_length_le (by omega)]; rfl
set_option maxHeartbeats 1000000 in
theorem refUsed_nil {w : World} {vb : Nat} {fold : Bool} {space : Int} (hv : VolAt w vb (.slice none 0 0) fold space) :
    Calls Tryz.prog 39 #[.pointer (some ⟨vb, 0, none⟩)] w fun e w' => e = .returned (.int .i64 0) ∧ w' = w := by
  have c0 := hv.c0
  go_enter Tryz.func39, Tryz.ntmps39
  go_wp2
  refine wp_loop_rounds 1 ?_
  rw [rounds_succ]
  go_wp2
  go_ret
  exact ⟨rfl, rfl⟩
theorem refUsed {w : World} {vb : Nat} {v : Value} {L : List EntD} {fold : Bool} {space : Int} (V : Vm w vb v L fold space) :
    Calls Tryz.prog 39 #[.pointer (some ⟨vb, 0, none⟩)] w fun e w' => e = .returned (.int .i64 (usedL L)) ∧ w' = w := by
  have hr := V.row
  cases hr with
  | nil => exact refUsed_nil V.vol
  | row b off cap l hlb hc hm h => exact refUsed_row V.vol hlb h V.len V.sizes

set_option maxHeartbeats 2000000 in
theorem refAnyBelow_row {w : World} {vb b off cap : Nat} {L : List EntD} {fold : Bool} {space : Int} (hv : VolAt w vb (.slice (some ⟨b, off, none⟩) L.length cap) fold space) (hlb : b < w.heap.size) (hc : EntsAt w b off L) (hs : SmallL L) (p : ByteArray) (hp : p.size ≤ 1500000) :
    Calls Tryz.prog 67 #[.pointer (some ⟨vb, 0, none⟩), .string p] w fun e w' => e = .returned (.bool (L.any fun x => belowL false x.pl p.data.toList)) ∧ Below w.heap.size w w' := by
  have hvlt := hv.lt
  have hl := hs.1
  go_enter Tryz.func67, Tryz.ntmps67
  go_wp2
  go_loopw [5] (fun i wr => ∃ k : Nat, k ≤ L.length ∧ i = .int .i64 k ∧ Hid (((L.take k).any fun x => belowL false x.pl p.data.toList) = false) ∧ Hid (Below w.heap.size w wr)) (fun i _ => L.length - (intOf i).toNat)
  case atStart => exact ⟨0, Nat.zero_le _, rfl, hidD rfl, hidD (Below.refl _ _)⟩
  case round =>
    obtain ⟨k, hk, rfl, HD, HB⟩ := hrel
    have c0 := (hv.below HB.out hvlt).c0
    by_cases hlt : k < L.length
    · have d0 : wr.cell? ⟨b, off + k * 5, none⟩ = some (.string L[k].path) := (hc.below HB.out hlb) k hlt 0 _ rfl
      have hq : L[k].path.size ≤ 1500000 := hs.2 _ (List.getElem_mem hlt)
      have HH := hidD (fun h : belowL false L[k].pl p.data.toList = true => any_hitE (fun x => belowL false x.pl p.data.toList) L k hlt h)
      have HM := hidD (fun h : belowL false L[k].pl p.data.toList = false => show ((L.take (k + 1)).any fun x => belowL false x.pl p.data.toList) = false by rw [any_snocE _ _ _ hlt, HD.out, h]; rfl)
      have HP : Hid (belowL false L[k].path.data.toList p.data.toList = belowL false L[k].pl p.data.toList) := rfl
      generalize L[k].path = q at *
      generalize belowL false L[k].pl p.data.toList = t at *
      clear hv hc HD
      cases t
      all_goals go_wp2_with (go_at_call 112; refine (refBelow_bel q p false _ hq hp).mono ?_; rintro r w2 ⟨rfl, hb2⟩; rw [HP.out])
      · exact ⟨⟨k + 1, by omega, by go_num, hidD (HM.out (by first | rfl | trivial)), hidD (HB.out.trans (hb2.mono HB.out.size))⟩, by simp [intOf]; omega⟩
      · go_ret
        exact ⟨by rw [HH.out (by first | rfl | trivial)]; rfl, HB.out.trans (hb2.mono HB.out.size)⟩
    · have HN := hidD (show (L.any fun x => belowL false x.pl p.data.toList) = false from by have := HD.out; rwa [List.take_of_length_le (by omega)] at this)
      go_wp2
      go_ret
      exact ⟨by rw [HN.out]; rfl, HB.out⟩
end Go.Proofs.YtpjjagalekolaaaGreatDoor

/- The document's volume: entries but one; an entry in its place. -/
namespace Go.Proofs.YtpjjagalekolaaaGreatDoor
open Go.RowKit
set_option linter.unusedVariables false
set_option linter.unusedSimpArgs false

theorem erase_step (L : List EntD) (i j : Nat) (h : j < L.length) : (L.take (j + 1)).eraseIdx i = if j = i then (L.take j).eraseIdx i else (L.take j).eraseIdx i ++ [L[j]] := by
  have hlen : (L.take j).length = j := by simp; omega
  rw [List.take_succ_eq_append_getElem h]
  rcases Nat.lt_trichotomy i j with hij | hij | hij
  · rw [if_neg (by omega), List.eraseIdx_append_of_lt_length (by omega)]
  · subst hij
    rw [if_pos rfl, List.eraseIdx_append_of_length_le (by omega), hlen, Nat.sub_self, List.eraseIdx_of_length_le (l := L.take i) (by omega)]
    simp
  · rw [if_neg (by omega), List.eraseIdx_append_of_length_le (by omega), hlen, List.eraseIdx_of_length_le (l := L.take j) (by omega), List.eraseIdx_of_length_le (l := [L[j]]) (by simp; omega)]
theorem flatE_app (A B : List EntD) : flatE (A ++ B) = flatE A ++ flatE B := by simp [flatE]

set_option maxHeartbeats 4000000 in
set_option maxRecDepth 100000 in
theorem refWithout_row (b off cap : Nat) (L : List EntD) (i : Nat) (w : World) (hl : L.length ≤ 1000) (hb : b < w.heap.size) (hc : EntsAt w b off L) :
    Calls Tryz.prog 64 #[.slice (some ⟨b, off, none⟩) L.length cap, .int .i64 i] w fun e w' => ∃ v, e = .returned v ∧ w'.ownsRow w.heap.size 56 5 v (L.eraseIdx i).length (flatE (L.eraseIdx i)) ∧ Below w.heap.size w w' := by
  obtain ⟨i0, hi, hz0, hz1, hz2⟩ := info_parts info56
  go_enter Tryz.func64, Tryz.ntmps64
  go_wp2
  go_loopw [5, 6] (fun v q wr => ∃ j : Nat, j ≤ L.length ∧ q = .int .i64 j ∧ wr.ownsRow w.heap.size 56 5 v ((L.take j).eraseIdx i).length (flatE ((L.take j).eraseIdx i)) ∧ Below w.heap.size w wr) (fun _ q _ => L.length - (intOf q).toNat)
  case atStart => exact ⟨0, Nat.zero_le _, rfl, World.ownsRow_nil _ _ _ _, Below.refl _ _⟩
  case round =>
    obtain ⟨j, hj, rfl, hown, hbw⟩ := hrel
    have hbs := hbw.size
    have hlj : ((L.take j).eraseIdx i).length ≤ 1000 := by
      have := List.length_eraseIdx_le (L.take j) i
      simp at this
      omega
    by_cases hlt : j < L.length
    · have HST := hidD (erase_step L i j hlt)
      have hcw := (hc.below hbw hb) j hlt
      have c0 : wr.cell? ⟨b, off + j * 5, none⟩ = some (.string L[j].path) := hcw 0 _ rfl
      have c1 := hcw 1 _ rfl
      have c2 := hcw 2 _ rfl
      have c3 := hcw 3 _ rfl
      have c4 := hcw 4 _ rfl
      generalize L[j] = o at *
      clear hcw
      have HB := hidD hbw
      have HO := hidD hown
      obtain ⟨av, nv, cv, rfl⟩ := own_shape hown
      clear hbw hown
      generalize (L.take j).eraseIdx i = M at *
      by_cases he : j = i
      · have he' : ((j : Int) != (i : Int)) = false := by simp [he]
        go_wp2
        exact ⟨⟨j + 1, by omega, by go_num, by rw [HST.out, if_pos he]; exact HO.out, HB.out⟩, by simp [intOf]; omega⟩
      · have he' : ((j : Int) != (i : Int)) = true := by simp; omega
        go_wp2_with (at_builtin; refine wpList_append_own _ rfl _ _ 22 rfl w.heap.size 56 i0 _ 5 48 Tryz.underlying22 hi hz0 hz1 hz2 rfl (by decide) _ _ _ rfl (HO.out.alloc _) ⟨_, 0, none⟩ 1 1 (flatE [o]) rfl rfl (flatE_at (cells_new wr o)) (flatE_one _) (by unfold maxLen; omega) (by omega) (by simp only [World.size_alloc]; omega) ?_; intro v2 w2 hown2 hg2 _)
        exact ⟨⟨j + 1, by omega, by go_num, by rw [HST.out, if_neg he, flatE_app, List.length_append]; exact hown2, (HB.out.alloc hbs _).grown hg2 (by simp only [World.size_alloc]; omega) (fun q hq => (HO.out.lt q hq).1)⟩, by simp [intOf]; omega⟩
    · rw [List.take_of_length_le (by omega)] at hown
      obtain ⟨av, nv, cv, rfl⟩ := own_shape hown
      go_wp2
      go_ret
      exact ⟨_, rfl, hown, hbw⟩

/-- Does an entry stand ahead of one of these? -/
def gtA (e : EntD) (A : List EntD) : Bool := A.any fun x => decide (cmpL e.pl x.pl < 0)
theorem insL_none (e : EntD) (A : List EntD) (h : gtA e A = false) : insL e A = A ++ [e] := by
  induction A with
  | nil => rfl
  | cons x A ih =>
    simp only [gtA, List.any_cons, Bool.or_eq_false_iff, decide_eq_false_iff_not] at h
    rw [insL, if_neg h.1, ih h.2]; rfl
theorem insL_snoc (e : EntD) (A : List EntD) (x : EntD) : insL e (A ++ [x]) = if gtA e A then insL e A ++ [x] else if cmpL e.pl x.pl < 0 then A ++ [e] ++ [x] else A ++ [x] ++ [e] := by
  induction A with
  | nil =>
    simp only [gtA, List.any_nil, Bool.false_eq_true, if_false, List.nil_append]
    rw [insL]
    split <;> rfl
  | cons y A ih =>
    rw [List.cons_append, insL]
    by_cases hy : cmpL e.pl y.pl < 0
    · rw [if_pos hy]
      have : gtA e (y :: A) = true := by simp [gtA, hy]
      rw [this, if_pos rfl, insL, if_pos hy]; simp
    · rw [if_neg hy, ih]
      have : gtA e (y :: A) = gtA e A := by simp [gtA, hy]
      rw [this, insL, if_neg hy]
      split
      · rfl
      · split <;> rfl
def insK (e : EntD) (A : List EntD) : List EntD := if gtA e A then insL e A else A
theorem gtA_snoc (e : EntD) (A : List EntD) (x : EntD) : gtA e (A ++ [x]) = (gtA e A || decide (cmpL e.pl x.pl < 0)) := by simp [gtA]
theorem insK_in (e : EntD) (A : List EntD) (x : EntD) (h : gtA e A = true) : insK e (A ++ [x]) = insK e A ++ [x] := by
  unfold insK
  rw [gtA_snoc, insL_snoc, h]; simp
theorem insK_now (e : EntD) (A : List EntD) (x : EntD) (h : gtA e A = false) (hx : cmpL e.pl x.pl < 0) : insK e (A ++ [x]) = (insK e A ++ [e]) ++ [x] := by
  unfold insK
  rw [gtA_snoc, insL_snoc, h]; simp [hx]
theorem insK_out (e : EntD) (A : List EntD) (x : EntD) (h : gtA e A = false) (hx : ¬ cmpL e.pl x.pl < 0) : insK e (A ++ [x]) = insK e A ++ [x] := by
  unfold insK
  rw [gtA_snoc, insL_snoc, h]; simp [hx]
theorem insK_len (e : EntD) (A : List EntD) : (insK e A).length ≤ A.length + 1 := by
  unfold insK
  split
  · rw [(insL_perm e A).length_eq]; simp
  · omega

theorem row_parts {w : World} {a : Option Addr} {n c : Nat} {L : List EntD} (h : RowAt w (.slice a n c) L) {k : Nat} (hk : k < L.length) : ∃ b off, a = some ⟨b, off, none⟩ ∧ n = L.length ∧ b < w.heap.size ∧ EntsAt w b off L := by
  generalize hv : Value.slice a n c = v at h
  cases h with
  | nil => simp at hk
  | row b off cap l hlb hc hm h =>
    simp only [Value.slice.injEq] at hv
    exact ⟨b, off, hv.1, hv.2.1, hlb, h⟩

theorem eb_new (w : World) (o : EntD) : ∀ j u, (flatE [o])[j]? = some u → (w.alloc (.cells o.cells.toArray 56)).cell? ((⟨w.heap.size, 0, none⟩ : Addr).add j) = some u := flatE_at (cells_new w o)
theorem own_eb {w wr : World} {e : EntD} {v : Value} {n : Nat} {xs : List Value} (s : Eb w e wr) (h : wr.ownsRow (w.heap.size + 1) 56 5 v n xs) {u : World} (hg : wr.grownBy u v.ownBlock) : Eb w e u :=
  ⟨s.bel.grown hg s.bel.size (fun q hq => by have := (h.lt q hq).1; omega), (hg.block _ s.lt (fun hq => by have := (h.lt _ hq.symm).1; omega)).trans s.box⟩

set_option maxHeartbeats 8000000 in
set_option maxRecDepth 100000 in
theorem refInsert {v0 : Value} {L : List EntD} (e : EntD) {w : World} (hr : RowAt w v0 L) (hl : L.length ≤ 1000) (hs : ∀ o ∈ L, o.small) (hes : e.small) :
    Calls Tryz.prog 65 #[v0, .agg #[.string e.path, .bool e.dir, .int .i64 e.id, .int .i64 e.size, .int .i64 e.mode]] w fun r w' => ∃ v, r = .returned v ∧ w'.ownsRow w.heap.size 56 5 v (insL e L).length (flatE (insL e L)) ∧ Below w.heap.size w w' := by
  obtain ⟨i0, hi, hz0, hz1, hz2⟩ := info_parts info56
  have ST := hidD (Eb.start w e)
  have hes' : e.path.size ≤ 1500000 := hes
  have HR := hidD hr
  obtain ⟨a0, cap, rfl⟩ := hr.val
  clear hr
  go_enter Tryz.func65, Tryz.ntmps65
  go_wp2
  go_loopw [5, 6, 7] (fun v f q wr => ∃ j : Nat, j ≤ L.length ∧ q = .int .i64 j ∧ f = .bool (gtA e (L.take j)) ∧ Hid (wr.ownsRow (w.heap.size + 1) 56 5 v (insK e (L.take j)).length (flatE (insK e (L.take j)))) ∧ Hid (Eb w e wr)) (fun _ _ q _ => L.length - (intOf q).toNat)
  case atStart => exact ⟨0, Nat.zero_le _, rfl, rfl, hidD (World.ownsRow_nil _ _ _ _), ST⟩
  case round =>
    obtain ⟨j, hj, rfl, rfl, HO, HS⟩ := hrel
    have hlj := insK_len e (L.take j)
    have hlj2 : (L.take j).length ≤ 1000 := by simp; omega
    have k0 := HS.out.cell 0
    have k1 := HS.out.cell 1
    have k2 := HS.out.cell 2
    have k3 := HS.out.cell 3
    have k4 := HS.out.cell 4
    simp [EntD.cells] at k0 k1 k2 k3 k4
    have hwlt := HS.out.lt
    by_cases hlt : j < L.length
    · obtain ⟨b, off, rfl, _, hb, hc⟩ := row_parts HR.out hlt
      have hcw := (hc.below HS.out.bel hb) j hlt
      have c0 : wr.cell? ⟨b, off + j * 5, none⟩ = some (.string L[j].path) := hcw 0 _ rfl
      have hq : L[j].path.size ≤ 1500000 := hs _ (List.getElem_mem hlt)
      have HT := hidD (List.take_succ_eq_append_getElem hlt)
      have HCW := hidD (fun (u : World) (hu : Below w.heap.size w u) => (hc.below hu hb) j hlt)
      have HLC := hidD (less_cmp e.path.data.toList L[j].path.data.toList)
      generalize L[j] = o at *
      generalize L.take j = A at *
      clear hcw
      obtain ⟨av, nv, cv, rfl⟩ := own_shape HO.out
      cases hA : gtA e A
      · by_cases hx : cmpL e.pl o.pl < 0
        · have HI := hidD (insK_now e A o hA hx)
          have HG : Hid (gtA e (L.take (j + 1)) = true) := by show gtA e (L.take (j + 1)) = true; rw [HT.out, gtA_snoc, hA]; simp [hx]
          have hd : decide (cmpL e.path.data.toList o.path.data.toList < 0) = true := by rw [decide_eq_true_eq]; exact hx
          rw [hd] at HLC
          clear hd
          go_wp2
          go_region_held (fun u => u.cell? ⟨w.heap.size, 0, none⟩ = some (.string e.path) ∧ u.cell? ⟨b, off + j * 5, none⟩ = some (.string o.path)) (go_keep) (first | (go_at_call 111; refine (less_any e.path o.path _ hes' hq).mono ?_; rintro r w1 ⟨rfl, hb1⟩; rw [HLC.out]; have s1 := (HS.out.drewN 1).below hb1; have m0 := s1.cell 0; have m1 := s1.cell 1; have m2 := s1.cell 2; have m3 := s1.cell 3; have m4 := s1.cell 4; simp [EntD.cells] at m0 m1 m2 m3 m4; have hcw := HCW.out _ s1.bel; have n0 : w1.cell? ⟨b, off + j * 5, none⟩ = some (.string o.path) := hcw 0 _ rfl; have n1 := hcw 1 _ rfl; have n2 := hcw 2 _ rfl; have n3 := hcw 3 _ rfl; have n4 := hcw 4 _ rfl; clear hcw; have o1 : w1.ownsRow (w.heap.size + 1) 56 5 (.slice av nv cv) (insK e A).length (flatE (insK e A)) := own_below ((below_drewE (B := wr.heap.size) wr 1).trans hb1) HO.out))
          all_goals go_wp2_with (first | (at_builtin; refine wpList_append_own _ rfl (.tmp 28) (.tmp 30) 22 rfl (w.heap.size + 1) 56 i0 _ 5 48 Tryz.underlying22 hi hz0 hz1 hz2 rfl (by decide) _ _ _ rfl (o1.alloc _) ⟨_, 0, none⟩ 1 1 (flatE [e]) rfl rfl (eb_new w1 e) (flatE_one _) (by unfold maxLen; omega) (by omega) (by have := s1.lt; simp only [World.size_alloc]; omega) ?_; intro v2 w2 hown2 hg2 _; obtain ⟨a2, n2, c2, rfl⟩ := own_shape hown2; have s2 := own_eb (s1.below ((Below.refl _ _).alloc (Nat.le_refl _) _)) (o1.alloc _) hg2; have hcw2 := HCW.out _ s2.bel; have p0 : w2.cell? ⟨b, off + j * 5, none⟩ = some (.string o.path) := hcw2 0 _ rfl; have p1 := hcw2 1 _ rfl; have p2 := hcw2 2 _ rfl; have p3 := hcw2 3 _ rfl; have p4 := hcw2 4 _ rfl; clear hcw2) | (at_builtin; refine wpList_append_own _ rfl (.tmp 32) (.tmp 37) 22 rfl (w.heap.size + 1) 56 i0 _ 5 48 Tryz.underlying22 hi hz0 hz1 hz2 rfl (by decide) _ _ _ rfl (hown2.alloc _) ⟨_, 0, none⟩ 1 1 (flatE [o]) rfl rfl (eb_new w2 o) (flatE_one _) (by unfold maxLen; omega) (by omega) (by have := s2.lt; simp only [World.size_alloc]; omega) ?_; intro v3 w3 hown3 hg3 _; obtain ⟨a3, n3, c3, rfl⟩ := own_shape hown3; have s3 := own_eb (s2.below ((Below.refl _ _).alloc (Nat.le_refl _) _)) (hown2.alloc _) hg3))
          all_goals exact ⟨⟨j + 1, by omega, by go_num, by rw [HG.out]; try rfl, hidD (by rw [HT.out, HI.out, flatE_app, flatE_app, List.length_append, List.length_append]; exact hown3), hidD s3⟩, by simp [intOf]; omega⟩
        · have HI := hidD (insK_out e A o hA hx)
          have HG : Hid (gtA e (L.take (j + 1)) = false) := by show gtA e (L.take (j + 1)) = false; rw [HT.out, gtA_snoc, hA]; simp [hx]
          have hd : decide (cmpL e.path.data.toList o.path.data.toList < 0) = false := by rw [decide_eq_false_iff_not]; exact hx
          rw [hd] at HLC
          clear hd
          go_wp2
          go_region_held (fun u => u.cell? ⟨w.heap.size, 0, none⟩ = some (.string e.path) ∧ u.cell? ⟨b, off + j * 5, none⟩ = some (.string o.path)) (go_keep) (first | (go_at_call 111; refine (less_any e.path o.path _ hes' hq).mono ?_; rintro r w1 ⟨rfl, hb1⟩; rw [HLC.out]; have s1 := (HS.out.drewN 1).below hb1; have m0 := s1.cell 0; have m1 := s1.cell 1; have m2 := s1.cell 2; have m3 := s1.cell 3; have m4 := s1.cell 4; simp [EntD.cells] at m0 m1 m2 m3 m4; have hcw := HCW.out _ s1.bel; have n0 : w1.cell? ⟨b, off + j * 5, none⟩ = some (.string o.path) := hcw 0 _ rfl; have n1 := hcw 1 _ rfl; have n2 := hcw 2 _ rfl; have n3 := hcw 3 _ rfl; have n4 := hcw 4 _ rfl; clear hcw; have o1 : w1.ownsRow (w.heap.size + 1) 56 5 (.slice av nv cv) (insK e A).length (flatE (insK e A)) := own_below ((below_drewE (B := wr.heap.size) wr 1).trans hb1) HO.out))
          all_goals go_wp2_with (first | (at_builtin; refine wpList_append_own _ rfl (.tmp 32) (.tmp 37) 22 rfl (w.heap.size + 1) 56 i0 _ 5 48 Tryz.underlying22 hi hz0 hz1 hz2 rfl (by decide) _ _ _ rfl (o1.alloc _) ⟨_, 0, none⟩ 1 1 (flatE [o]) rfl rfl (eb_new w1 o) (flatE_one _) (by unfold maxLen; omega) (by omega) (by have := s1.lt; simp only [World.size_alloc]; omega) ?_; intro v3 w3 hown3 hg3 _; obtain ⟨a3, n3, c3, rfl⟩ := own_shape hown3; have s3 := own_eb (s1.below ((Below.refl _ _).alloc (Nat.le_refl _) _)) (o1.alloc _) hg3))
          all_goals exact ⟨⟨j + 1, by omega, by go_num, by rw [HG.out]; try rfl, hidD (by rw [HT.out, HI.out, flatE_app, List.length_append]; exact hown3), hidD s3⟩, by simp [intOf]; omega⟩
      · have HI := hidD (insK_in e A o hA)
        have HG : Hid (gtA e (L.take (j + 1)) = true) := by show gtA e (L.take (j + 1)) = true; rw [HT.out, gtA_snoc, hA]; simp
        by_cases hx : cmpL e.pl o.pl < 0
        · have hd : decide (cmpL e.path.data.toList o.path.data.toList < 0) = true := by rw [decide_eq_true_eq]; exact hx
          rw [hd] at HLC
          clear hd
          go_wp2
          go_region_held (fun u => u.cell? ⟨w.heap.size, 0, none⟩ = some (.string e.path) ∧ u.cell? ⟨b, off + j * 5, none⟩ = some (.string o.path)) (go_keep) (first | (go_at_call 111; refine (less_any e.path o.path _ hes' hq).mono ?_; rintro r w1 ⟨rfl, hb1⟩; rw [HLC.out]; have s1 := (HS.out.drewN 1).below hb1; have m0 := s1.cell 0; have m1 := s1.cell 1; have m2 := s1.cell 2; have m3 := s1.cell 3; have m4 := s1.cell 4; simp [EntD.cells] at m0 m1 m2 m3 m4; have hcw := HCW.out _ s1.bel; have n0 : w1.cell? ⟨b, off + j * 5, none⟩ = some (.string o.path) := hcw 0 _ rfl; have n1 := hcw 1 _ rfl; have n2 := hcw 2 _ rfl; have n3 := hcw 3 _ rfl; have n4 := hcw 4 _ rfl; clear hcw; have o1 : w1.ownsRow (w.heap.size + 1) 56 5 (.slice av nv cv) (insK e A).length (flatE (insK e A)) := own_below ((below_drewE (B := wr.heap.size) wr 1).trans hb1) HO.out))
          all_goals go_wp2_with (first | (at_builtin; refine wpList_append_own _ rfl (.tmp 32) (.tmp 37) 22 rfl (w.heap.size + 1) 56 i0 _ 5 48 Tryz.underlying22 hi hz0 hz1 hz2 rfl (by decide) _ _ _ rfl (o1.alloc _) ⟨_, 0, none⟩ 1 1 (flatE [o]) rfl rfl (eb_new w1 o) (flatE_one _) (by unfold maxLen; omega) (by omega) (by have := s1.lt; simp only [World.size_alloc]; omega) ?_; intro v3 w3 hown3 hg3 _; obtain ⟨a3, n3, c3, rfl⟩ := own_shape hown3; have s3 := own_eb (s1.below ((Below.refl _ _).alloc (Nat.le_refl _) _)) (o1.alloc _) hg3))
          all_goals exact ⟨⟨j + 1, by omega, by go_num, by rw [HG.out]; try rfl, hidD (by rw [HT.out, HI.out, flatE_app, List.length_append]; exact hown3), hidD s3⟩, by simp [intOf]; omega⟩
        · have hd : decide (cmpL e.path.data.toList o.path.data.toList < 0) = false := by rw [decide_eq_false_iff_not]; exact hx
          rw [hd] at HLC
          clear hd
          go_wp2
          go_region_held (fun u => u.cell? ⟨w.heap.size, 0, none⟩ = some (.string e.path) ∧ u.cell? ⟨b, off + j * 5, none⟩ = some (.string o.path)) (go_keep) (first | (go_at_call 111; refine (less_any e.path o.path _ hes' hq).mono ?_; rintro r w1 ⟨rfl, hb1⟩; rw [HLC.out]; have s1 := (HS.out.drewN 1).below hb1; have m0 := s1.cell 0; have m1 := s1.cell 1; have m2 := s1.cell 2; have m3 := s1.cell 3; have m4 := s1.cell 4; simp [EntD.cells] at m0 m1 m2 m3 m4; have hcw := HCW.out _ s1.bel; have n0 : w1.cell? ⟨b, off + j * 5, none⟩ = some (.string o.path) := hcw 0 _ rfl; have n1 := hcw 1 _ rfl; have n2 := hcw 2 _ rfl; have n3 := hcw 3 _ rfl; have n4 := hcw 4 _ rfl; clear hcw; have o1 : w1.ownsRow (w.heap.size + 1) 56 5 (.slice av nv cv) (insK e A).length (flatE (insK e A)) := own_below ((below_drewE (B := wr.heap.size) wr 1).trans hb1) HO.out))
          all_goals go_wp2_with (first | (at_builtin; refine wpList_append_own _ rfl (.tmp 32) (.tmp 37) 22 rfl (w.heap.size + 1) 56 i0 _ 5 48 Tryz.underlying22 hi hz0 hz1 hz2 rfl (by decide) _ _ _ rfl (o1.alloc _) ⟨_, 0, none⟩ 1 1 (flatE [o]) rfl rfl (eb_new w1 o) (flatE_one _) (by unfold maxLen; omega) (by omega) (by have := s1.lt; simp only [World.size_alloc]; omega) ?_; intro v3 w3 hown3 hg3 _; obtain ⟨a3, n3, c3, rfl⟩ := own_shape hown3; have s3 := own_eb (s1.below ((Below.refl _ _).alloc (Nat.le_refl _) _)) (o1.alloc _) hg3))
          all_goals exact ⟨⟨j + 1, by omega, by go_num, by rw [HG.out]; try rfl, hidD (by rw [HT.out, HI.out, flatE_app, List.length_append]; exact hown3), hidD s3⟩, by simp [intOf]; omega⟩
    · have HTL : Hid (L.take j = L) := List.take_of_length_le (by omega)
      obtain ⟨av, nv, cv, rfl⟩ := own_shape HO.out
      cases hA : gtA e (L.take j)
      · have HI : Hid (insL e L = insK e (L.take j) ++ [e]) := by
          show insL e L = insK e (L.take j) ++ [e]
          rw [insL_none e L (by rw [← HTL.out]; exact hA), insK, hA]
          simp [HTL.out]
        generalize insK e (L.take j) = M at *
        go_wp2_with (first | (at_builtin; refine wpList_append_own _ rfl (.tmp 41) (.tmp 43) 22 rfl (w.heap.size + 1) 56 i0 _ 5 48 Tryz.underlying22 hi hz0 hz1 hz2 rfl (by decide) _ _ _ rfl (HO.out.alloc _) ⟨_, 0, none⟩ 1 1 (flatE [e]) rfl rfl (eb_new wr e) (flatE_one _) (by unfold maxLen; omega) (by omega) (by have := HS.out.lt; simp only [World.size_alloc]; omega) ?_; intro v3 w3 hown3 hg3 _; obtain ⟨a3, n3, c3, rfl⟩ := own_shape hown3; have s3 := own_eb (HS.out.below ((Below.refl _ _).alloc (Nat.le_refl _) _)) (HO.out.alloc _) hg3))
        go_ret
        exact ⟨_, rfl, own_mono (by rw [HI.out, flatE_app, List.length_append]; exact hown3) (by omega), s3.bel⟩
      · have HI : Hid (insL e L = insK e (L.take j)) := by
          show insL e L = insK e (L.take j)
          rw [insK, hA, if_pos rfl, HTL.out]
        go_wp2
        go_ret
        exact ⟨_, rfl, own_mono (by rw [HI.out]; exact HO.out) (by omega), HS.out.bel⟩
end Go.Proofs.YtpjjagalekolaaaGreatDoor

/- The library's Clone at entries. -/
namespace Go.Proofs.YtpjjagalekolaaaGreatDoor
open Go.RowKit
set_option linter.unusedVariables false
set_option linter.unusedSimpArgs false

end Go.Proofs.YtpjjagalekolaaaGreatDoor

/- A volume in memory: chmod. -/
namespace Go.Proofs.YtpjjagalekolaaaGreatDoor
open Go.RowKit
set_option linter.unusedVariables false
set_option linter.unusedSimpArgs false

theorem own_some {w : World} {B : Nat} {v : Value} {n : Nat} {xs : List Value} (h : w.ownsRow B 56 5 v n xs) (hn : 0 < n) : ∃ g c, v = .slice (some ⟨g, 0, none⟩) n c := by
  rcases h.2 with ⟨rfl, rfl⟩ | ⟨g, cap, cur, rfl, _⟩
  · omega
  · exact ⟨_, _, rfl⟩

end Go.Proofs.YtpjjagalekolaaaGreatDoor

/- A volume in memory: rmdir. -/
namespace Go.Proofs.YtpjjagalekolaaaGreatDoor
open Go.RowKit
set_option linter.unusedVariables false
set_option linter.unusedSimpArgs false

end Go.Proofs.YtpjjagalekolaaaGreatDoor

/- Plain: what a checked tree gives for the walks: small paths, small sizes, one size for each id. -/
namespace Go.Proofs.YtpjjagalekolaaaGreatDoor
open Go.RowKit
set_option linter.unusedVariables false
set_option linter.unusedSimpArgs false

theorem used_small (L : List EntD) (h : ∀ o ∈ L, fieldsB o = true) : 0 ≤ usedL L ∧ usedL L ≤ 100 * L.length := by
  induction L with
  | nil => simp [usedL]
  | cons o L ih =>
    have h1 := ih fun x hx => h x (List.mem_cons_of_mem _ hx)
    obtain ⟨_, _, h2⟩ := fieldsB_true o (h o List.mem_cons_self)
    simp only [usedL, List.length_cons]
    rcases h2 with ⟨_, _, h3⟩ | ⟨_, _, _, h3, h4⟩ <;> omega
theorem VolOk.sizesOk {fold : Bool} {L : List EntD} (V : VolOk fold L) : SizesOk L := by
  intro k hk
  have h := used_small (L.take k) fun o ho => V.fields o (List.mem_of_mem_take ho)
  have h1 := V.few
  have h2 : (L.take k).length ≤ 120 := by simp; omega
  omega
theorem VolOk.other {fold : Bool} {L : List EntD} (V : VolOk fold L) (id size : Int) (hid : 1 ≤ id) (e : EntD) (h1 : e.id = id) (h2 : e.size = size) : otherB L e = (L.any fun x => !x.dir && decide (x.id = id) && decide (x.size ≠ size)) := by
  subst h1 h2
  unfold otherB
  have h : ∀ x ∈ L, (decide (x.id = e.id) && decide (x.size ≠ e.size)) = (!x.dir && decide (x.id = e.id) && decide (x.size ≠ e.size)) := by
    intro x hx
    obtain ⟨_, _, h3⟩ := fieldsB_true x (V.fields x hx)
    rcases h3 with ⟨d, i, _⟩ | ⟨d, _⟩
    · have : decide (x.id = e.id) = false := by rw [decide_eq_false_iff_not]; omega
      rw [this, d]; simp
    · rw [d]; simp
  rw [Bool.eq_iff_iff, List.any_eq_true, List.any_eq_true]
  exact ⟨fun ⟨x, hx, hp⟩ => ⟨x, hx, by rw [← h x hx]; exact hp⟩, fun ⟨x, hx, hp⟩ => ⟨x, hx, by rw [h x hx]; exact hp⟩⟩
theorem spl_len (n : Nat) : ∀ l : BL, l.length ≤ n → l.length + 1 = ((spl l).map (·.length + 1)).sum := by
  induction n with
  | zero =>
    intro l hl
    obtain rfl : l = [] := List.eq_nil_of_length_eq_zero (by omega)
    rfl
  | succ n ih =>
    intro l hl
    rcases last_cut l with h | ⟨a, b, rfl, hb⟩
    · rw [spl_none l h]; simp
    · simp only [List.length_append, List.length_cons] at hl
      rw [spl_split, List.map_append, List.sum_append, ← ih a (by omega), ← ih b (by omega)]
      simp; omega
theorem sum_le (c : Nat) (ps : List BL) (h : ∀ p ∈ ps, p.length ≤ c) : (ps.map (·.length + 1)).sum ≤ ps.length * (c + 1) := by
  induction ps with
  | nil => simp
  | cons p ps ih =>
    have h1 := ih fun x hx => h x (List.mem_cons_of_mem _ hx)
    have h2 := h p List.mem_cons_self
    simp only [List.map_cons, List.sum_cons, List.length_cons, Nat.add_mul, Nat.one_mul]
    simp only [Nat.mul_add, Nat.mul_one] at *
    omega

theorem path_len {l : BL} (h : pathL l = true) : l.length ≤ 60 := by
  unfold pathL at h
  rw [Bool.and_eq_true, decide_eq_true_eq, List.all_eq_true] at h
  have h1 := spl_len l.length l (Nat.le_refl _)
  have h2 := sum_le 8 (spl l) fun p hp => by
    have := h.2 p hp
    simp only [nmL, isNm, Bool.and_eq_true, decide_eq_true_eq] at this
    have h3 := this.1.1.1.2
    simpa [ByteArray.size] using h3
  have h3 : (spl l).length * (8 + 1) ≤ 6 * 9 := Nat.mul_le_mul_right _ h.1
  have h4 : l.length + 1 ≤ (spl l).length * (8 + 1) := h1 ▸ h2
  omega
theorem good_len {l : BL} (h : goodP l) : l.length ≤ 60 := by
  rcases h with h | h
  · exact path_len h
  · simp only [spareL, Bool.and_eq_true, decide_eq_true_eq] at h
    have := h.1.1.2
    omega
theorem VolOk.small {fold : Bool} {L : List EntD} (V : VolOk fold L) : ∀ o ∈ L, o.small := by
  intro o ho
  have h : o.pl.length ≤ 60 := good_len ((V.names o ho).imp id fun h => h.2)
  have h2 : o.path.size = o.pl.length := by simp [EntD.pl]
  show o.path.size ≤ 1500000
  omega
theorem VolOk.place {fold : Bool} {L : List EntD} (V : VolOk fold L) {p : BL} (hp : goodP p) : ∀ t, placeL fold L p = some t → t.length ≤ 1500000 := by
  intro t ht
  obtain ⟨h1, h2⟩ := place_good V ht hp
  have : t.length ≤ 60 := by
    rcases hp with h | h
    · exact path_len (h1 h)
    · rw [h2 h]; exact good_len (.inr h)
  omega
theorem Vm.of {w : World} {vb : Nat} {v : Value} {L : List EntD} {fold : Bool} {space : Int} (V : VolOk fold L) (hv : VolAt w vb v fold space) (hr : RowAt w v L) (h0 : 0 ≤ space) (h1 : space ≤ 9223372036854775807) : Vm w vb v L fold space :=
  ⟨hv, hr, V.few, V.small, V.srt, V.sizesOk, h0, h1⟩
theorem OpGood.small {o : OpD} (h : okOp o = true) (hd : o.dest.size ≤ 1500000) : o.small := by
  have h1 := good_len (okOp_good h).path
  have h2 : o.path.size = o.pl.length := by simp [OpD.pl]
  exact ⟨by omega, hd⟩

theorem doL_mkdir {fold : Bool} {space : Int} {L : List EntD} {o : OpD} (h : o.kind = 1) : doL fold space L o = mkL fold space L ⟨o.path, true, 0, 0, o.mode⟩ := by unfold doL; rw [if_pos h]
theorem doL_write {fold : Bool} {space : Int} {L : List EntD} {o : OpD} (h : o.kind = 4) : doL fold space L o = mkL fold space L ⟨o.path, false, o.id, o.size, o.mode⟩ := by unfold doL; rw [if_neg (by omega), if_pos h]
end Go.Proofs.YtpjjagalekolaaaGreatDoor

/- A volume in memory: copy. -/
namespace Go.Proofs.YtpjjagalekolaaaGreatDoor
open Go.RowKit
set_option linter.unusedVariables false
set_option linter.unusedSimpArgs false

end Go.Proofs.YtpjjagalekolaaaGreatDoor

