/- The program's reading of bytes: one number, one path. -/
import Derived.Test.YtjaepomjdknieaaDoorG
import Derived.Test.YtjaepomjdknieaaDoorJ
import Derived.Maps.AppendAt
import Derived.BigQuiet
namespace Go.Proofs.YtjaepomjdknieaaDoor
open Go.RowKit
set_option linter.unusedVariables false
set_option linter.unusedSimpArgs false

/-- What a panic of the readers bears. -/
def flt (c p : Int) : List PanicEntry := [{ v := .iface 119 (.agg #[.int .i64 c, .int .i64 p]), recovered := false }]

def RdAt (b : Nat) (s : ByteArray) (p : Nat) (w : World) : Prop := w.heap[b]? = some (.cells #[.string s, .int .i64 p] 122 (0, 0))

theorem RdAt.c0 {b : Nat} {s : ByteArray} {p : Nat} {w : World} (h : RdAt b s p w) : w.cell? ⟨b, 0, none⟩ = some (.string s) := by simp [World.cell?, show w.heap[b]? = _ from h]
theorem RdAt.c1 {b : Nat} {s : ByteArray} {p : Nat} {w : World} (h : RdAt b s p w) : w.cell? ⟨b, 1, none⟩ = some (.int .i64 p) := by simp [World.cell?, show w.heap[b]? = _ from h]
theorem RdAt.f1 {b : Nat} {s : ByteArray} {p : Nat} {w : World} (h : RdAt b s p w) : w.frozen? ⟨b, 1, none⟩ = false := by simp [World.frozen?, show w.heap[b]? = _ from h]

theorem RdAt.drewN {b : Nat} {s : ByteArray} {p : Nat} {w : World} (h : RdAt b s p w) (n : Nat) : RdAt b s p (w.drewN n) := h
theorem RdAt.set {b : Nat} {s : ByteArray} {p : Nat} {w : World} (h : RdAt b s p w) (q : Int) (q' : Nat) (e : q = q') : RdAt b s q' (w.setCell ⟨b, 1, none⟩ (.int .i64 q)) := by
  obtain ⟨hlt, hb⟩ := Array.getElem?_eq_some_iff.1 h
  show (w.heap.modify b _)[b]? = _
  rw [Array.getElem?_eq_getElem (by rw [Array.size_modify]; exact hlt), Array.getElem_modify_self, hb, e]
  rfl
theorem RdAt.lt {b : Nat} {s : ByteArray} {p : Nat} {w : World} (h : RdAt b s p w) : b < w.heap.size := (Array.getElem?_eq_some_iff.1 h).1
theorem gb_drewN (w : World) (n : Nat) (row : Option Nat) : w.grownBy (w.drewN n) row := ⟨rfl, rfl, rfl, Nat.le_refl _, fun _ _ _ => rfl⟩
theorem gb_set (w : World) (b j : Nat) (v : Value) : w.grownBy (w.setCell ⟨b, j, none⟩ v) (some b) :=
  ⟨rfl, rfl, rfl, by simp [World.setCell], fun k _ hk => Below.heap_setCell w ⟨b, j, none⟩ v k (fun e => hk (by rw [e]))⟩
theorem gb_below {w w' : World} (h : Below w.heap.size w w') (row : Option Nat) : w.grownBy w' row := ⟨h.os, h.tape, h.output, h.size, fun k hk _ => h.block k hk⟩
theorem RdAt.below {b : Nat} {s : ByteArray} {p : Nat} {w w' : World} (h : RdAt b s p w) (hb : Below w.heap.size w w') : RdAt b s p w' := (hb.block b h.lt).trans h

set_option maxHeartbeats 1000000 in
theorem take_ok (b : Nat) (s : ByteArray) (p n : Nat) (w : World) (h : RdAt b s p w) (hs : s.size ≤ 1500000) (hn : p + n ≤ s.size) :
    Calls Tryd.prog 91 #[.pointer (some ⟨b, 0, none⟩), .int .i64 n] w fun e w' => e = .returned (.string (s.extract p (p + n))) ∧ RdAt b s (p + n) w' ∧ w.grownBy w' (some b) := by
  have c0 := h.c0
  have c1 := h.c1
  have f1 := h.f1
  go_enter Tryd.func91, Tryd.ntmps91
  go_wp2
  go_quiet (fail)
  go_wp2
  go_quiet (fail)
  go_wp2
  go_ret
  exact ⟨rfl, (((h.drewN _).set _ _ (by omega)).drewN _), (((gb_drewN _ _ _).trans (gb_set _ _ _ _)).trans (gb_drewN _ _ _))⟩

set_option maxHeartbeats 1000000 in
theorem take_short (b : Nat) (s : ByteArray) (p n : Nat) (w : World) (h : RdAt b s p w) (hs : s.size ≤ 1500000) (hp : p ≤ s.size) (hn : s.size < p + n) (hn2 : n ≤ 1500000) :
    Calls Tryd.prog 91 #[.pointer (some ⟨b, 0, none⟩), .int .i64 n] w fun e w' => e = .panicked (flt 15 s.size) ∧ w.grownBy w' (some b) := by
  have c0 := h.c0
  have c1 := h.c1
  have f1 := h.f1
  go_enter Tryd.func91, Tryd.ntmps91
  go_wp2
  go_quiet (fail)
  go_wp2
  exact ⟨rfl, rfl, gb_drewN _ _ _⟩

def byteAt (s : ByteArray) (i : Nat) : Int := ((s.data.toList[i]?).getD 0).toNat
theorem byteAt_eq (s : ByteArray) (i : Nat) (h : i < s.size) : byteAt s i = (s[i].toNat : Int) := by
  have h' : i < s.data.toList.length := by simpa using h
  simp only [byteAt, List.getElem?_eq_getElem h', Option.getD_some]
  rfl
theorem byteAt_lt (s : ByteArray) (i : Nat) : 0 ≤ byteAt s i ∧ byteAt s i ≤ 255 := by
  unfold byteAt
  have := UInt8.toNat_lt ((s.data.toList[i]?).getD 0)
  omega

abbrev Rd (α : Type) := Except (Int × Int) (α × Nat)
def numR (s : ByteArray) (p : Nat) (lo hi : Int) : Rd Int :=
  if 255 < hi then
    (if p + 2 ≤ s.size then (if lo ≤ 256 * byteAt s p + byteAt s (p + 1) ∧ 256 * byteAt s p + byteAt s (p + 1) ≤ hi then .ok (256 * byteAt s p + byteAt s (p + 1), p + 2) else .error (14, p)) else .error (15, s.size))
  else
    (if p + 1 ≤ s.size then (if lo ≤ byteAt s p ∧ byteAt s p ≤ hi then .ok (byteAt s p, p + 1) else .error (14, p)) else .error (15, s.size))
def pathR (s : ByteArray) (p : Nat) (spare : Bool) : Rd ByteArray :=
  if p + 1 ≤ s.size then
    (if p + 1 + (byteAt s p).toNat ≤ s.size then (if placeB (s.extract (p + 1) (p + 1 + (byteAt s p).toNat)).data.toList spare then .ok (s.extract (p + 1) (p + 1 + (byteAt s p).toNat), p + 1 + (byteAt s p).toNat) else .error (14, p)) else .error (15, s.size))
  else .error (15, s.size)

/-- How a reading call ends. -/
def RdPost {α : Type} (enc : α → Value) (r : Rd α) (b : Nat) (s : ByteArray) (w : World) (e : Ending) (w' : World) : Prop :=
  w.grownBy w' (some b) ∧ match r with
    | .ok (x, q) => e = .returned (enc x) ∧ RdAt b s q w' ∧ q ≤ s.size
    | .error (c, q) => e = .panicked (flt c q)


theorem or_i64 (x y : Int) (hx0 : 0 ≤ x) (hx : x % 256 = 0) (hx1 : x < 65536) (hy0 : 0 ≤ y) (hy : y < 256) : bits .or .i64 x y = x + y :=
  bits_join .i64 16 (by decide) (fun n h0 h1 => by simp [IntKind.wrap, IntKind.bits, IntKind.signed] at *; omega) 8 x y hx0 (by simpa using hx) (by simpa using hx1) hy0 (by simpa using hy) (by simp; omega)
theorem first_byte (s : ByteArray) (p : Nat) (h : p + 1 ≤ s.size) (h' : 0 < (s.extract p (p + 1)).size) : (((s.extract p (p + 1))[0]'h').toNat : Int) = byteAt s p := by
  rw [byteAt_eq s p (by omega)]
  congr 2
  simp [ByteArray.getElem_extract]
theorem wrap_byte (n : Int) (h0 : 0 ≤ n) (h1 : n ≤ 255) : wrap64 n = n := by unfold wrap64; omega
theorem or_first (s : ByteArray) (p : Nat) (x : Int) (hx0 : 0 ≤ x) (hx : x % 256 = 0) (hx1 : x < 65536) (h : p + 1 ≤ s.size) (h' : 0 < (s.extract p (p + 1)).size) :
    bits .or .i64 x (wrap64 (((s.extract p (p + 1))[0]'h').toNat : Int)) = x + byteAt s p := by
  have hb := byteAt_lt s p
  rw [first_byte s p h h', wrap_byte _ hb.1 hb.2, or_i64 x _ hx0 hx hx1 hb.1 (by omega)]

set_option maxHeartbeats 1000000 in
theorem number1_ok (b : Nat) (s : ByteArray) (p : Nat) (lo hi : Int) (w : World) (h : RdAt b s p w) (hs : s.size ≤ 1500000) (hh : ¬ 255 < hi) (hn : p + 1 ≤ s.size) :
    Calls Tryd.prog 71 #[.pointer (some ⟨b, 0, none⟩), .int .i64 lo, .int .i64 hi] w (RdPost (fun n => .int .i64 n) (numR s p lo hi) b s w) := by
  have c1 := h.c1
  have hw : widthI hi = 1 := by simp [widthI, hh]
  go_enter Tryd.func71, Tryd.ntmps71
  go_wp2_with (go_at_call 86; refine (width_any _ _).mono ?_; rintro e w' ⟨rfl, rfl⟩; rw [hw])
  refine wp_loop_rounds 2 ?_
  rw [rounds_succ]
  go_wp2_with (go_at_call 91; refine (take_ok b s p 1 _ h hs hn).mono ?_; rintro e w1 ⟨rfl, h1, g1⟩)
  rw [rounds_succ]
  go_wp2_with (go_at_call 92; refine (within_any _ _ _ _).mono ?_; rintro e w2 ⟨rfl, rfl⟩)
  · rename_i hx _ _
    rw [or_first s p 0 (by omega) (by omega) (by omega) hn, Int.zero_add] at hx
    refine ⟨rfl, g1, ?_⟩
    have hx' : ¬ (lo ≤ byteAt s p ∧ byteAt s p ≤ hi) := by intro hc; simp [withinB] at hx; omega
    rw [numR, if_neg (by omega), if_pos hn, if_neg hx']; rfl
  · rename_i hx
    rw [or_first s p 0 (by omega) (by omega) (by omega) hn, Int.zero_add] at hx
    go_ret
    refine ⟨g1, ?_⟩
    have hx' : lo ≤ byteAt s p ∧ byteAt s p ≤ hi := by simpa [withinB] using hx
    rw [numR, if_neg (by omega), if_pos hn, if_pos hx']
    exact ⟨by rw [or_first s p 0 (by omega) (by omega) (by omega) hn, Int.zero_add]; rfl, h1, hn⟩


set_option maxHeartbeats 1000000 in
theorem number1_short (b : Nat) (s : ByteArray) (p : Nat) (lo hi : Int) (w : World) (h : RdAt b s p w) (hs : s.size ≤ 1500000) (hp : p ≤ s.size) (hh : ¬ 255 < hi) (hn : s.size < p + 1) :
    Calls Tryd.prog 71 #[.pointer (some ⟨b, 0, none⟩), .int .i64 lo, .int .i64 hi] w (RdPost (fun n => .int .i64 n) (numR s p lo hi) b s w) := by
  have c1 := h.c1
  have hw : widthI hi = 1 := by simp [widthI, hh]
  go_enter Tryd.func71, Tryd.ntmps71
  go_wp2_with (go_at_call 86; refine (width_any _ _).mono ?_; rintro e w' ⟨rfl, rfl⟩; rw [hw])
  refine wp_loop_rounds 2 ?_
  rw [rounds_succ]
  go_wp2_with (go_at_call 91; refine (take_short b s p 1 _ h hs hp hn (by omega)).mono ?_; rintro e w1 ⟨rfl, g1⟩)
  refine ⟨rfl, g1, ?_⟩
  rw [numR, if_neg (by omega), if_neg (by omega)]

theorem or_two (s : ByteArray) (p : Nat) (h : p + 2 ≤ s.size) (h' : 0 < (s.extract p (p + 1)).size) (h'' : 0 < (s.extract (p + 1) (p + 1 + 1)).size) :
    bits .or .i64 (wrap64 (bits .or .i64 0 (wrap64 (((s.extract p (p + 1))[0]'h').toNat : Int)) * 256)) (wrap64 (((s.extract (p + 1) (p + 1 + 1))[0]'h'').toNat : Int)) = 256 * byteAt s p + byteAt s (p + 1) := by
  have hb := byteAt_lt s p
  have hb2 := byteAt_lt s (p + 1)
  have e : wrap64 ((0 + byteAt s p) * 256) = 256 * byteAt s p := by unfold wrap64; omega
  rw [or_first s p 0 (by omega) (by omega) (by omega) (by omega), e, or_first s (p + 1) _ (by omega) (by omega) (by omega) (by omega)]

set_option maxHeartbeats 1000000 in
theorem number2_ok (b : Nat) (s : ByteArray) (p : Nat) (lo hi : Int) (w : World) (h : RdAt b s p w) (hs : s.size ≤ 1500000) (hh : 255 < hi) (hn : p + 2 ≤ s.size) :
    Calls Tryd.prog 71 #[.pointer (some ⟨b, 0, none⟩), .int .i64 lo, .int .i64 hi] w (RdPost (fun n => .int .i64 n) (numR s p lo hi) b s w) := by
  have c1 := h.c1
  have hw : widthI hi = 2 := by simp [widthI, hh]
  go_enter Tryd.func71, Tryd.ntmps71
  go_wp2_with (go_at_call 86; refine (width_any _ _).mono ?_; rintro e w' ⟨rfl, rfl⟩; rw [hw])
  refine wp_loop_rounds 3 ?_
  rw [rounds_succ]
  go_wp2_with (go_at_call 91; refine (take_ok b s p 1 _ h hs (by omega)).mono ?_; rintro e w1 ⟨rfl, h1, g1⟩)
  rw [rounds_succ]
  go_wp2_with (go_at_call 91; refine (take_ok b s (p + 1) 1 _ h1 hs (by omega)).mono ?_; rintro e w2 ⟨rfl, h2, g2⟩)
  rw [rounds_succ]
  go_wp2_with (go_at_call 92; refine (within_any _ _ _ _).mono ?_; rintro e w3 ⟨rfl, rfl⟩)
  · rename_i hx _ _
    rw [or_two s p hn] at hx
    refine ⟨rfl, g1.trans g2, ?_⟩
    have hx' : ¬ (lo ≤ 256 * byteAt s p + byteAt s (p + 1) ∧ 256 * byteAt s p + byteAt s (p + 1) ≤ hi) := by intro hc; simp [withinB] at hx; omega
    rw [numR, if_pos hh, if_pos hn, if_neg hx']; rfl
  · rename_i hx
    rw [or_two s p hn] at hx
    go_ret
    refine ⟨g1.trans g2, ?_⟩
    have hx' : lo ≤ 256 * byteAt s p + byteAt s (p + 1) ∧ 256 * byteAt s p + byteAt s (p + 1) ≤ hi := by simpa [withinB] using hx
    rw [numR, if_pos hh, if_pos hn, if_pos hx']
    exact ⟨by rw [or_two s p hn]; rfl, h2, hn⟩

set_option maxHeartbeats 1000000 in
theorem number2_short0 (b : Nat) (s : ByteArray) (p : Nat) (lo hi : Int) (w : World) (h : RdAt b s p w) (hs : s.size ≤ 1500000) (hp : p ≤ s.size) (hh : 255 < hi) (hn : s.size < p + 1) :
    Calls Tryd.prog 71 #[.pointer (some ⟨b, 0, none⟩), .int .i64 lo, .int .i64 hi] w (RdPost (fun n => .int .i64 n) (numR s p lo hi) b s w) := by
  have c1 := h.c1
  have hw : widthI hi = 2 := by simp [widthI, hh]
  go_enter Tryd.func71, Tryd.ntmps71
  go_wp2_with (go_at_call 86; refine (width_any _ _).mono ?_; rintro e w' ⟨rfl, rfl⟩; rw [hw])
  refine wp_loop_rounds 3 ?_
  rw [rounds_succ]
  go_wp2_with (go_at_call 91; refine (take_short b s p 1 _ h hs hp hn (by omega)).mono ?_; rintro e w1 ⟨rfl, g1⟩)
  refine ⟨rfl, g1, ?_⟩
  rw [numR, if_pos hh, if_neg (by omega)]

set_option maxHeartbeats 1000000 in
theorem number2_short1 (b : Nat) (s : ByteArray) (p : Nat) (lo hi : Int) (w : World) (h : RdAt b s p w) (hs : s.size ≤ 1500000) (hh : 255 < hi) (hp : p + 1 ≤ s.size) (hn : s.size < p + 2) :
    Calls Tryd.prog 71 #[.pointer (some ⟨b, 0, none⟩), .int .i64 lo, .int .i64 hi] w (RdPost (fun n => .int .i64 n) (numR s p lo hi) b s w) := by
  have c1 := h.c1
  have hw : widthI hi = 2 := by simp [widthI, hh]
  go_enter Tryd.func71, Tryd.ntmps71
  go_wp2_with (go_at_call 86; refine (width_any _ _).mono ?_; rintro e w' ⟨rfl, rfl⟩; rw [hw])
  refine wp_loop_rounds 3 ?_
  rw [rounds_succ]
  go_wp2_with (go_at_call 91; refine (take_ok b s p 1 _ h hs (by omega)).mono ?_; rintro e w1 ⟨rfl, h1, g1⟩)
  rw [rounds_succ]
  go_wp2_with (go_at_call 91; refine (take_short b s (p + 1) 1 _ h1 hs (by omega) (by omega) (by omega)).mono ?_; rintro e w2 ⟨rfl, g2⟩)
  refine ⟨rfl, g1.trans g2, ?_⟩
  rw [numR, if_pos hh, if_neg (by omega)]

theorem number_any (b : Nat) (s : ByteArray) (p : Nat) (lo hi : Int) (w : World) (h : RdAt b s p w) (hs : s.size ≤ 1500000) (hp : p ≤ s.size) :
    Calls Tryd.prog 71 #[.pointer (some ⟨b, 0, none⟩), .int .i64 lo, .int .i64 hi] w (RdPost (fun n => .int .i64 n) (numR s p lo hi) b s w) := by
  by_cases hh : 255 < hi
  · by_cases h1 : p + 1 ≤ s.size
    · by_cases h2 : p + 2 ≤ s.size
      · exact number2_ok b s p lo hi w h hs hh h2
      · exact number2_short1 b s p lo hi w h hs hh h1 (by omega)
    · exact number2_short0 b s p lo hi w h hs hp hh (by omega)
  · by_cases h1 : p + 1 ≤ s.size
    · exact number1_ok b s p lo hi w h hs hh h1
    · exact number1_short b s p lo hi w h hs hp hh (by omega)

theorem below8 {w w' : World} {b : Nat} (h : 8 ≤ w.heap.size) (hg : w.grownBy w' (some b)) (hb : 8 ≤ b) : Below 8 w w' :=
  ⟨hg.os, hg.tape, hg.output, hg.size, fun k hk => hg.block k (by omega) (by simp; omega)⟩
theorem Gd.grown {w w' : World} {b : Nat} (h : Gd w) (hg : w.grownBy w' (some b)) (hb : 8 ≤ b) : Gd w' where
  big := by have := hg.size; have := h.big; omega
  len := by obtain ⟨m, hm⟩ := h.len; exact ⟨m, hg.cell hm (by simp; omega)⟩
  need := fun k hk j v hv => hg.cell (h.need k hk j v hv) (by simp; omega)
  tab := var?_below (below8 h.big hg hb) gPow (by omega) h.tab

set_option maxHeartbeats 1000000 in
theorem path_any (b : Nat) (s : ByteArray) (p : Nat) (sp : Bool) (w : World) (hg : Gd w) (hb8 : 8 ≤ b) (h : RdAt b s p w) (hs : s.size ≤ 1500000) (hp : p ≤ s.size) :
    Calls Tryd.prog 169 #[.pointer (some ⟨b, 0, none⟩), .bool sp] w (RdPost (fun x => .string x) (pathR s p sp) b s w) := by
  have c1 := h.c1
  by_cases h1 : p + 1 ≤ s.size
  · have hb := byteAt_lt s p
    have hfb := first_byte s p h1
    obtain ⟨n, hn⟩ : ∃ n : Nat, byteAt s p = n := ⟨_, (Int.toNat_of_nonneg hb.1).symm⟩
    have hr : pathR s p sp = if p + 1 + n ≤ s.size then (if placeB (s.extract (p + 1) (p + 1 + n)).data.toList sp then .ok (s.extract (p + 1) (p + 1 + n), p + 1 + n) else .error (14, p)) else .error (15, s.size) := by
      rw [pathR, if_pos h1, hn]; simp
    rw [hn] at hfb hb
    rw [hr]
    have hwn : wrap64 (n : Int) = n := wrap_byte _ hb.1 hb.2
    clear hr hn
    by_cases h2 : p + 1 + n ≤ s.size
    · rw [if_pos h2]
      by_cases h3 : placeB (s.extract (p + 1) (p + 1 + n)).data.toList sp = true
      · rw [if_pos h3]
        go_enter Tryd.func169, Tryd.ntmps169
        go_wp2_with (first | (go_at_call 91; refine (take_ok b s p 1 _ h hs h1).mono ?_; clear h; rintro e w1 ⟨rfl, h1', g1⟩; simp only [hfb, hwn]) | (go_at_call 91; refine (take_ok b s (p + 1) n _ h1' hs h2).mono ?_; rintro e w2 ⟨rfl, h2', g2⟩) | (go_at_call 120; refine (isPlace_any _ _ (Classical.choose (hg.grown (g1.trans g2) hb8).len) _ (by simp; omega) (Classical.choose_spec (hg.grown (g1.trans g2) hb8).len)).mono ?_; rintro e w3 ⟨rfl, hb3⟩; rw [h3]))
        go_ret
        exact ⟨(g1.trans g2).trans (gb_below hb3 _), rfl, h2'.below hb3, h2⟩
      · rw [if_neg h3]
        simp only [Bool.not_eq_true] at h3
        go_enter Tryd.func169, Tryd.ntmps169
        go_wp2_with (first | (go_at_call 91; refine (take_ok b s p 1 _ h hs h1).mono ?_; clear h; rintro e w1 ⟨rfl, h1', g1⟩; simp only [hfb, hwn]) | (go_at_call 91; refine (take_ok b s (p + 1) n _ h1' hs h2).mono ?_; rintro e w2 ⟨rfl, h2', g2⟩) | (go_at_call 120; refine (isPlace_any _ _ (Classical.choose (hg.grown (g1.trans g2) hb8).len) _ (by simp; omega) (Classical.choose_spec (hg.grown (g1.trans g2) hb8).len)).mono ?_; rintro e w3 ⟨rfl, hb3⟩; rw [h3]))
        exact ⟨rfl, (g1.trans g2).trans (gb_below hb3 _), rfl⟩
    · rw [if_neg h2]
      go_enter Tryd.func169, Tryd.ntmps169
      go_wp2_with (first | (go_at_call 91; refine (take_ok b s p 1 _ h hs h1).mono ?_; clear h; rintro e w1 ⟨rfl, h1', g1⟩; simp only [hfb, hwn]) | (go_at_call 91; refine (take_short b s (p + 1) n _ h1' hs h1 (by omega) (by omega)).mono ?_; rintro e w2 ⟨rfl, g2⟩))
      exact ⟨rfl, g1.trans g2, rfl⟩
  · go_enter Tryd.func169, Tryd.ntmps169
    go_wp2_with (go_at_call 91; refine (take_short b s p 1 _ h hs hp (by omega) (by omega)).mono ?_; rintro e w1 ⟨rfl, g1⟩)
    refine ⟨rfl, g1, ?_⟩
    rw [pathR, if_neg h1]
end Go.Proofs.YtjaepomjdknieaaDoor
