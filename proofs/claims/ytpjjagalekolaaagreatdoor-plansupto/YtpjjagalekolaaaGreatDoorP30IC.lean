/- A heap of numbers, whatever is in it: Push and Pop. -/
import Derived.Test.YtpjjagalekolaaaGreatDoorP11
namespace Go.Proofs.YtpjjagalekolaaaGreatDoor
open Go.RowKit
set_option linter.unusedVariables false
set_option linter.unusedSimpArgs false

/-- All stays but the blocks of a set. -/
structure Kpt (u w' : World) (S : Nat → Prop) : Prop where
  os : w'.os = u.os
  tape : w'.tape = u.tape
  output : w'.output = u.output
  size : u.heap.size ≤ w'.heap.size
  block : ∀ b, b < u.heap.size → ¬ S b → w'.heap[b]? = u.heap[b]?
theorem Kpt.of {u w' : World} {row : Option Nat} {S : Nat → Prop} (h : u.grownBy w' row) (hs : ∀ b, some b = row → S b) : Kpt u w' S :=
  ⟨h.os, h.tape, h.output, h.size, fun b hb hn => h.block b hb (fun e => hn (hs b e))⟩
theorem Kpt.bel {u w' : World} {S : Nat → Prop} (h : Below u.heap.size u w') : Kpt u w' S := ⟨h.os, h.tape, h.output, h.size, fun b hb _ => h.block b hb⟩
theorem Kpt.trans {u v w : World} {S S' : Nat → Prop} (h1 : Kpt u v S) (h2 : Kpt v w S') : Kpt u w (fun b => S b ∨ S' b) :=
  ⟨h2.os.trans h1.os, h2.tape.trans h1.tape, h2.output.trans h1.output, Nat.le_trans h1.size h2.size, fun b hb hn => (h2.block b (Nat.lt_of_lt_of_le hb h1.size) (fun h => hn (.inr h))).trans (h1.block b hb (fun h => hn (.inl h)))⟩
theorem Kpt.mono {u w' : World} {S S' : Nat → Prop} (h : Kpt u w' S) (hs : ∀ b, b < u.heap.size → S b → S' b) : Kpt u w' S' := ⟨h.os, h.tape, h.output, h.size, fun b hb hn => h.block b hb (fun e => hn (hs b hb e))⟩
theorem Kpt.blk {u w' : World} {S : Nat → Prop} {b : Nat} {T : TypeId} {xs : List Value} (h : Kpt u w' S) (k : Blk u b T xs) (hn : ¬ S b) : Blk w' b T xs := by
  obtain ⟨cur, h1, h2⟩ := k
  refine ⟨cur, ?_, h2⟩
  rw [h.block b (by rw [Array.getElem?_eq_some_iff] at h1; exact h1.1) hn]
  exact h1
theorem Kpt.row {u w' : World} {S : Nat → Prop} {B e s n : Nat} {v : Value} {xs : List Value} (h : Kpt u w' S) (o : u.ownsRow B e s v n xs) (hn : ∀ b, v.ownBlock = some b → ¬ S b) : w'.ownsRow B e s v n xs := by
  refine ⟨o.1, ?_⟩
  rcases o.2 with h1 | ⟨g, cap, cur, rfl, h2, h3, h4⟩
  · exact .inl h1
  · refine .inr ⟨g, cap, cur, rfl, h2, ?_, h4⟩
    rw [h.block g (by rw [Array.getElem?_eq_some_iff] at h3; exact h3.1) (hn g rfl)]
    exact h3

set_option maxHeartbeats 4000000 in
set_option maxRecDepth 100000 in
theorem qPushN {B : Nat} {u : World} {R : Nat} {c0 q c2 c3 : Value} {xs : List Nat} (S : Qu B u R c0 q c2 c3 xs) (hB : B ≤ u.heap.size) (hn : xs.length ≤ 1000) (k : Nat) :
    Calls Tryz.prog 278 #[.pointer (some ⟨R, 1, none⟩), .iface 3 (.int .i64 k)] u fun e w' => e = .returned (.tuple #[]) ∧ ∃ g c, Qu B w' R c0 (.slice (some ⟨g, 0, none⟩) (xs.length + 1) c) c2 c3 (xs ++ [k]) ∧ Kpt u w' (fun b => b = R ∨ some b = q.ownBlock) ∧ (some g = q.ownBlock ∨ u.heap.size ≤ g) := by
  obtain ⟨i0, hi, hz0, hz1, hz2⟩ := info_parts info3
  have d5 := S.r.cell 1 rfl
  obtain ⟨sa, sn, sc, hsv⟩ := shape_of S.o
  subst hsv
  have hbU : Below u.heap.size u (u.alloc (.cells #[.int .i64 (k : Int)] 3)).drew := (box_below u #[.int .i64 (k : Int)] 3).trans (Below.mono (below_drewB _) (by simp))
  have S2 := hidD (S.below hbU)
  have d5' : (u.alloc (.cells #[.int .i64 (k : Int)] 3)).cell? ⟨R, 1, none⟩ = some (.slice sa sn sc) := S2.out.r.cell 1 rfl
  have hz2' : B ≤ (u.alloc (.cells #[.int .i64 (k : Int)] 3)).drew.heap.size := Nat.le_trans hB hbU.size
  have D6 := hidD (fun (w6 : World) (hg : (u.alloc (.cells #[.int .i64 (k : Int)] 3)).drew.grownBy w6 (Value.slice sa sn sc).ownBlock) => S2.out.r.kept hg (blk_row S2.out.r S2.out.o (by decide)))
  have hta : ∀ (w : World), (Instr.typeAssert (.iface 3 (.int .i64 (k : Int))) 20 3 false).run Tryz.prog w = .ok (.int .i64 (k : Int)) w := fun w => by kernel_rfl
  have HB := hidD hbU
  clear S hbU
  go_enter Tryz.func278, Tryz.ntmps278
  go_wp2
  go_region_law ((refine step_append_lies _ (by rfl) (.tmp 8) (.tmp 11) 149 (by rfl) B 3 i0 _ 1 8 Tryz.underlying149 hi hz0 hz1 hz2 rfl (by decide) (.slice sa sn sc) xs.length (numV xs) (by rfl) S2.out.o ⟨u.heap.size, 0, none⟩ 1 1 [.int .i64 (k : Int)] (by rfl) rfl (new_at u 3 [.int .i64 (k : Int)]) (by intro x hx; rw [List.mem_singleton.1 hx]; rfl) (by decide) (by unfold maxLen; omega) (by omega) hz2' _ rfl ?_; intro g6 c6 w6 hown6 hg6 hat6 hlt6; have e5 := (D6.out w6 hg6).cell 1 rfl; have f5 := (D6.out w6 hg6).frozen 1))
  all_goals
    refine bodyPost_end (results_none rfl _ _ _) rfl ?_
    have hz : (u.alloc (.cells #[.int .i64 (k : Int)] 3)).drew.heap.size = u.heap.size + 1 := by show (u.alloc (.cells #[.int .i64 (k : Int)] 3)).heap.size = _; simp
    have hr := D6.out w6 hg6
    have hnum : numV xs ++ [.int .i64 (k : Int)] = numV (xs ++ [k]) := by simp [numV]
    rw [hnum] at hown6
    refine ⟨rfl, g6, c6, ⟨hr.set 1 _ (by simp), ?_⟩, ?_, ?_⟩
    · have := row_blk hr hown6 (by decide) (gb_set w6 R 1 (.slice (some ⟨g6, 0, none⟩) (xs.length + 1) c6))
      rw [List.length_append]
      exact this
    · refine (((Kpt.bel HB.out (S := fun _ => False)).trans (Kpt.of hg6 (S := fun b => some b = (Value.slice sa sn sc).ownBlock) (fun b h => h))).trans (Kpt.of (gb_set w6 R 1 (.slice (some ⟨g6, 0, none⟩) (xs.length + 1) c6)) (S := fun b => b = R) (fun b h => by simpa using h))).mono ?_
      rintro b _ ((h | h) | h)
      · exact h.elim
      · exact .inr h
      · exact .inl h
    · rcases hat6 with h | h
      · exact .inl h.symm
      · right; omega

set_option maxHeartbeats 4000000 in
set_option maxRecDepth 100000 in
theorem pushN {B : Nat} {u : World} {R : Nat} {c0 q c2 c3 : Value} {xs : List Nat} (S : Qu B u R c0 q c2 c3 xs) (hB : B ≤ u.heap.size) (hn : xs.length ≤ 1000) (k : Nat) :
    Calls Tryz.prog 93 #[.iface 157 (.pointer (some ⟨R, 1, none⟩)), .iface 3 (.int .i64 k)] u fun e w' => e = .returned (.tuple #[]) ∧ ∃ g c ys, Qu B w' R c0 (.slice (some ⟨g, 0, none⟩) (xs.length + 1) c) c2 c3 ys ∧ ys.Perm (k :: xs) ∧ Kpt u w' (fun b => b = R ∨ some b = q.ownBlock) ∧ (some g = q.ownBlock ∨ u.heap.size ≤ g) := by
  have HP := hidD (qPushN S hB hn k)
  clear S
  go_enter Tryz.func93, Tryz.ntmps93
  go_wp2_with fail
  refine HP.out.mono ?_
  rintro e w1 ⟨rfl, g, c, hS, hk, hg⟩
  have S1 := hidD hS
  have hm := mlen (hS.r.cell 1 rfl)
  have HK := hidD hk
  have HG := hidD hg
  have U := hidD (up79 hS (by simp) xs.length (by omega) (by omega))
  clear hS hk hg HP
  go_wp2_with fail
  refine (len80 _ _ _ _).mono ?_
  rintro e wz ⟨rfl, hwz⟩; rw [hwz]; clear hwz
  go_wp2_with fail
  refine U.out.mono ?_
  rintro e w2 ⟨rfl, ys, hQ⟩
  have Q2 := hidD hQ
  clear hQ
  go_wp2_with fail
  refine bodyPost_end (results_none rfl _ _ _) rfl ?_
  refine ⟨rfl, g, c, ys, Q2.out.qu, Q2.out.pm.trans (List.perm_append_singleton _ _), ?_, HG.out⟩
  refine (HK.out.trans (Kpt.of Q2.out.gr (S := fun b => b = g) (fun b h => by simpa using h))).mono ?_
  rintro b hb (h | h)
  · exact h
  · rcases HG.out with h1 | h1
    · right; rw [h]; exact h1
    · omega

theorem row_less {u : World} {B q n cq m : Nat} {xs : List Nat} (h : u.ownsRow B 3 1 (.slice (some ⟨q, 0, none⟩) n cq) n (numV xs)) (hm : m ≤ n) : u.ownsRow B 3 1 (.slice (some ⟨q, 0, none⟩) m cq) m (numV (xs.take m)) := by
  have hl := h.1
  rw [numV_len] at hl
  refine ⟨by rw [numV_len, List.length_take]; omega, ?_⟩
  rcases h.2 with ⟨h1, _⟩ | ⟨g', cap, cur, h1, h2, h3, h4, h5, h6, h7⟩
  · simp at h1
  · have e1 : q = g' ∧ cq = cap := by simpa using h1
    obtain ⟨rfl, rfl⟩ := e1
    refine .inr ⟨q, cq, cur, rfl, h2, h3, by omega, h5, h6, ?_⟩
    have : numV (xs.take m) = (numV xs).take m := by simp [numV, List.map_take]
    rw [this, ← h7, List.take_take]
    congr 1
    omega

set_option maxHeartbeats 4000000 in
set_option maxRecDepth 100000 in
theorem qPopN {B : Nat} {u : World} {R q cq m : Nat} {c0 c2 c3 : Value} {xs : List Nat} (S : Qu B u R c0 (.slice (some ⟨q, 0, none⟩) (m + 1) cq) c2 c3 xs) (hn : xs.length = m + 1) (hm : m ≤ 2000000) :
    Calls Tryz.prog 277 #[.pointer (some ⟨R, 1, none⟩)] u fun e w' => ∃ x, e = .returned (.iface 3 (.int .i64 (x : Nat))) ∧ xs.Perm (x :: xs.take m) ∧ Qu B w' R c0 (.slice (some ⟨q, 0, none⟩) m cq) c2 c3 (xs.take m) ∧ Kpt u w' (fun b => b = R) := by
  have oq := S.o
  rw [hn] at oq
  have d0 := (blk_of_row oq).cell m (numV_get xs m (by omega))
  have d1 := S.r.cell 1 rfl
  have f1 := S.r.frozen 1
  obtain ⟨hc1, hc2⟩ := row_cap oq
  have S1 := hidD S
  have OQ := hidD oq
  have hp : Hid (xs.Perm (xs[m] :: xs.take m)) := by
    have h2 := List.perm_append_singleton xs[m] (xs.take m)
    have h1 : xs.take (m + 1) = xs.take m ++ [xs[m]] := List.take_succ_eq_append_getElem (by omega)
    rw [← h1, ← hn, List.take_length] at h2
    exact h2
  have w1 : IntKind.i64.wrap (m : Int) = (m : Int) := by rw [IntKind.wrap_i64]; omega
  have b1 : (m : Int) < ((m + 1 : Nat) : Int) := by omega
  have b2 : (m : Int) ≤ (cq : Int) := by omega
  have hc3 : ¬ cq = m := by omega
  generalize xs[m] = x at *
  clear S oq
  obtain ⟨n, hn1⟩ : ∃ n, m + 1 = n := ⟨_, rfl⟩
  have e1 : (n : Int) - 1 = (m : Int) := by omega
  rw [hn1] at b1 S1 d1 OQ
  have hmn : m ≤ n := by omega
  clear hn1
  go_enter Tryz.func277, Tryz.ntmps277
  go_wp2_with fail
  refine (len80 _ _ _ _).mono ?_
  rintro e wz ⟨rfl, hwz⟩; rw [hwz]; clear hwz
  go_wp2_with fail
  go_ret
  refine ⟨x, rfl, hp.out, ⟨S1.out.r.set 1 _ (by simp), ?_⟩, Kpt.of (gb_set u R 1 _) (fun b h => by simpa using h)⟩
  rw [show (xs.take m).length = m by rw [List.length_take]; omega]
  exact row_blk S1.out.r (row_less OQ.out hmn) (by decide) (gb_set u R 1 _)

set_option maxHeartbeats 4000000 in
set_option maxRecDepth 100000 in
theorem popN {B : Nat} {u : World} {R q cq m : Nat} {c0 c2 c3 : Value} {xs : List Nat} (S : Qu B u R c0 (.slice (some ⟨q, 0, none⟩) (m + 1) cq) c2 c3 xs) (hn : xs.length = m + 1) (hm : m ≤ 1000000) :
    Calls Tryz.prog 142 #[.iface 157 (.pointer (some ⟨R, 1, none⟩))] u fun e w' => ∃ x ys, e = .returned (.iface 3 (.int .i64 (x : Nat))) ∧ xs.Perm (x :: ys) ∧ Qu B w' R c0 (.slice (some ⟨q, 0, none⟩) m cq) c2 c3 ys ∧ Kpt u w' (fun b => b = R ∨ b = q) := by
  have hml := mlen (S.r.cell 1 rfl)
  have hs := mswap (S.r.cell 1 rfl)
  have oq := S.o
  rw [hn] at oq
  have HS := hidD (swap204 oq hn 0 m (by omega) (by omega))
  have w1 : IntKind.i64.wrap (m : Int) = (m : Int) := by rw [IntKind.wrap_i64]; omega
  have Q0 : Hid (Qk B u u R q cq (m + 1) c0 c2 c3 xs xs) := ⟨S, List.Perm.refl _, World.grownBy.refl _ _⟩
  have POP := hidD (fun (v : World) (zs : List Nat) (h : Qu B v R c0 (.slice (some ⟨q, 0, none⟩) (m + 1) cq) c2 c3 zs) (hz : zs.length = m + 1) => qPopN h hz (by omega))
  obtain ⟨n, hn1⟩ : ∃ n, m + 1 = n := ⟨_, rfl⟩
  have e1 : (n : Int) - 1 = (m : Int) := by omega
  have hmn : m < n := by omega
  have hn2 : n ≤ 2000000 := by omega
  have hn' := hn
  rw [hn1] at hn' hml hs HS Q0 POP
  clear S oq
  go_enter Tryz.func142, Tryz.ntmps142
  go_wp2_with fail
  refine (len80 _ _ _ _).mono ?_
  rintro e wz ⟨rfl, hwz⟩; rw [hwz]; clear hwz
  go_wp2_with fail
  refine HS.out.mono ?_
  rintro e w1 ⟨rfl, ho, hg⟩
  have Q1 := hidD (Q0.out.swap hn' 0 m (by omega) (by omega) ho hg)
  clear ho hg HS Q0 hs hml
  have hzl : ((xs.set 0 xs[m]).set m xs[0]).length = n := by simp [hn']
  generalize (xs.set 0 xs[m]).set m xs[0] = zs at *
  have DN := hidD (down114 Q1.out.qu hzl m hmn hn2)
  go_wp2_with fail
  refine DN.out.mono ?_
  rintro e w2 ⟨⟨b, rfl⟩, ys, hQ, _⟩
  have Q2 := hidD hQ
  have hyl : ys.length = n := hQ.pm.length_eq.trans hzl
  have PP := hidD (POP.out w2 ys hQ.qu hyl)
  clear hQ DN POP
  go_wp2_with fail
  refine PP.out.mono ?_
  rintro e w3 ⟨x, rfl, hp, hq, hk⟩
  have HP := hidD hp
  have HQ := hidD hq
  have HK := hidD hk
  clear hp hq hk PP
  go_wp2_with fail
  go_ret
  refine ⟨x, _, rfl, (Q1.out.pm.symm.trans Q2.out.pm.symm).trans HP.out, HQ.out, ?_⟩
  refine (((Kpt.of Q1.out.gr (S := fun b => b = q) (fun b h => by simpa using h)).trans (Kpt.of Q2.out.gr (S := fun b => b = q) (fun b h => by simpa using h))).trans HK.out).mono ?_
  rintro b _ ((h | h) | h)
  · exact .inr h
  · exact .inr h
  · exact .inl h
end Go.Proofs.YtpjjagalekolaaaGreatDoor

