/- IC, KO, KP, KQ: in one text. -/
import Derived.Test.YtpjjagalekolaaaGreatDoorY11
/- A heap of numbers, whatever is in it: Push and Pop. -/
namespace Go.Proofs.YtpjjagalekolaaaGreatDoor
open Go.RowKit
set_option linter.unusedVariables false
set_option linter.unusedSimpArgs false

/-- All stays but the blocks of a set. -/
structure Kpt (u w' : World) (S : Nat → Prop) : Prop where
  os : w'.os = u.os
  tape : w'.tape = u.tape
  output : w'.output = u.output
  size : u.heap.size ≤ w'.heap.size
  block : ∀ b, b < u.heap.size → ¬ S b → w'.heap[b]? = u.heap[b]?
theorem Kpt.of {u w' : World} {row : Option Nat} {S : Nat → Prop} (h : u.grownBy w' row) (hs : ∀ b, some b = row → S b) : Kpt u w' S :=
  ⟨h.os, h.tape, h.output, h.size, fun b hb hn => h.block b hb (fun e => hn (hs b e))⟩
theorem Kpt.bel {u w' : World} {S : Nat → Prop} (h : Below u.heap.size u w') : Kpt u w' S := ⟨h.os, h.tape, h.output, h.size, fun b hb _ => h.block b hb⟩
theorem Kpt.trans {u v w : World} {S S' : Nat → Prop} (h1 : Kpt u v S) (h2 : Kpt v w S') : Kpt u w (fun b => S b ∨ S' b) :=
  ⟨h2.os.trans h1.os, h2.tape.trans h1.tape, h2.output.trans h1.output, Nat.le_trans h1.size h2.size, fun b hb hn => (h2.block b (Nat.lt_of_lt_of_le hb h1.size) (fun h => hn (.inr h))).trans (h1.block b hb (fun h => hn (.inl h)))⟩
theorem Kpt.mono {u w' : World} {S S' : Nat → Prop} (h : Kpt u w' S) (hs : ∀ b, b < u.heap.size → S b → S' b) : Kpt u w' S' := ⟨h.os, h.tape, h.output, h.size, fun b hb hn => h.block b hb (fun e => hn (hs b hb e))⟩
theorem Kpt.blk {u w' : World} {S : Nat → Prop} {b : Nat} {T : TypeId} {xs : List Value} (h : Kpt u w' S) (k : Blk u b T xs) (hn : ¬ S b) : Blk w' b T xs := by
  obtain ⟨cur, h1, h2⟩ := k
  refine ⟨cur, ?_, h2⟩
  rw [h.block b (by rw [Array.getElem?_eq_some_iff] at h1; exact h1.1) hn]
  exact h1
theorem Kpt.row {u w' : World} {S : Nat → Prop} {B e s n : Nat} {v : Value} {xs : List Value} (h : Kpt u w' S) (o : u.ownsRow B e s v n xs) (hn : ∀ b, v.ownBlock = some b → ¬ S b) : w'.ownsRow B e s v n xs := by
  refine ⟨o.1, ?_⟩
  rcases o.2 with h1 | ⟨g, cap, cur, rfl, h2, h3, h4⟩
  · exact .inl h1
  · refine .inr ⟨g, cap, cur, rfl, h2, ?_, h4⟩
    rw [h.block g (by rw [Array.getElem?_eq_some_iff] at h3; exact h3.1) (hn g rfl)]
    exact h3

set_option maxHeartbeats 4000000 in
set_option maxRecDepth 100000 in
theorem qPushN {B : Nat} {u : World} {R : Nat} {c0 q c2 c3 : Value} {xs : List Nat} (S : Qu B u R c0 q c2 c3 xs) (hB : B ≤ u.heap.size) (hn : xs.length ≤ 1000) (k : Nat) :
    Calls Tryz.prog 278 #[.pointer (some ⟨R, 1, none⟩), .iface 3 (.int .i64 k)] u fun e w' => e = .returned (.tuple #[]) ∧ ∃ g c, Qu B w' R c0 (.slice (some ⟨g, 0, none⟩) (xs.length + 1) c) c2 c3 (xs ++ [k]) ∧ Kpt u w' (fun b => b = R ∨ some b = q.ownBlock) ∧ (some g = q.ownBlock ∨ u.heap.size ≤ g) := by
  obtain ⟨i0, hi, hz0, hz1, hz2⟩ := info_parts info3
  have d5 := S.r.cell 1 rfl
  obtain ⟨sa, sn, sc, hsv⟩ := shape_of S.o
  subst hsv
  have hbU : Below u.heap.size u (u.alloc (.cells #[.int .i64 (k : Int)] 3)).drew := (box_below u #[.int .i64 (k : Int)] 3).trans (Below.mono (below_drewB _) (by simp))
  have S2 := hidD (S.below hbU)
  have d5' : (u.alloc (.cells #[.int .i64 (k : Int)] 3)).cell? ⟨R, 1, none⟩ = some (.slice sa sn sc) := S2.out.r.cell 1 rfl
  have hz2' : B ≤ (u.alloc (.cells #[.int .i64 (k : Int)] 3)).drew.heap.size := Nat.le_trans hB hbU.size
  have D6 := hidD (fun (w6 : World) (hg : (u.alloc (.cells #[.int .i64 (k : Int)] 3)).drew.grownBy w6 (Value.slice sa sn sc).ownBlock) => S2.out.r.kept hg (blk_row S2.out.r S2.out.o (by decide)))
  have hta : ∀ (w : World), (Instr.typeAssert (.iface 3 (.int .i64 (k : Int))) 20 3 false).run Tryz.prog w = .ok (.int .i64 (k : Int)) w := fun w => by kernel_rfl
  have HB := hidD hbU
  clear S hbU
  go_enter Tryz.func278, Tryz.ntmps278
  go_wp2
  go_region_law ((refine step_append_lies _ (by rfl) (.tmp 8) (.tmp 11) 149 (by rfl) B 3 i0 _ 1 8 Tryz.underlying149 hi hz0 hz1 hz2 rfl (by decide) (.slice sa sn sc) xs.length (numV xs) (by rfl) S2.out.o ⟨u.heap.size, 0, none⟩ 1 1 [.int .i64 (k : Int)] (by rfl) rfl (new_at u 3 [.int .i64 (k : Int)]) (by intro x hx; rw [List.mem_singleton.1 hx]; rfl) (by decide) (by unfold maxLen; omega) (by omega) hz2' _ rfl ?_; intro g6 c6 w6 hown6 hg6 hat6 hlt6; have e5 := (D6.out w6 hg6).cell 1 rfl; have f5 := (D6.out w6 hg6).frozen 1))
  all_goals
    refine bodyPost_end (results_none rfl _ _ _) rfl ?_
    have hz : (u.alloc (.cells #[.int .i64 (k : Int)] 3)).drew.heap.size = u.heap.size + 1 := by show (u.alloc (.cells #[.int .i64 (k : Int)] 3)).heap.size = _; simp
    have hr := D6.out w6 hg6
    have hnum : numV xs ++ [.int .i64 (k : Int)] = numV (xs ++ [k]) := by simp [numV]
    rw [hnum] at hown6
    refine ⟨rfl, g6, c6, ⟨hr.set 1 _ (by simp), ?_⟩, ?_, ?_⟩
    · have := row_blk hr hown6 (by decide) (gb_set w6 R 1 (.slice (some ⟨g6, 0, none⟩) (xs.length + 1) c6))
      rw [List.length_append]
      exact this
    · refine (((Kpt.bel HB.out (S := fun _ => False)).trans (Kpt.of hg6 (S := fun b => some b = (Value.slice sa sn sc).ownBlock) (fun b h => h))).trans (Kpt.of (gb_set w6 R 1 (.slice (some ⟨g6, 0, none⟩) (xs.length + 1) c6)) (S := fun b => b = R) (fun b h => by simpa using h))).mono ?_
      rintro b _ ((h | h) | h)
      · exact h.elim
      · exact .inr h
      · exact .inl h
    · rcases hat6 with h | h
      · exact .inl h.symm
      · right; omega

set_option maxHeartbeats 4000000 in
set_option maxRecDepth 100000 in
theorem pushN {B : Nat} {u : World} {R : Nat} {c0 q c2 c3 : Value} {xs : List Nat} (S : Qu B u R c0 q c2 c3 xs) (hB : B ≤ u.heap.size) (hn : xs.length ≤ 1000) (k : Nat) :
    Calls Tryz.prog 93 #[.iface 157 (.pointer (some ⟨R, 1, none⟩)), .iface 3 (.int .i64 k)] u fun e w' => e = .returned (.tuple #[]) ∧ ∃ g c ys, Qu B w' R c0 (.slice (some ⟨g, 0, none⟩) (xs.length + 1) c) c2 c3 ys ∧ ys.Perm (k :: xs) ∧ Kpt u w' (fun b => b = R ∨ some b = q.ownBlock) ∧ (some g = q.ownBlock ∨ u.heap.size ≤ g) := by
  have HP := hidD (qPushN S hB hn k)
  clear S
  go_enter Tryz.func93, Tryz.ntmps93
  go_wp2_with fail
  refine HP.out.mono ?_
  rintro e w1 ⟨rfl, g, c, hS, hk, hg⟩
  have S1 := hidD hS
  have hm := mlen (hS.r.cell 1 rfl)
  have HK := hidD hk
  have HG := hidD hg
  have U := hidD (up79 hS (by simp) xs.length (by omega) (by omega))
  clear hS hk hg HP
  go_wp2_with fail
  refine (len80 _ _ _ _).mono ?_
  rintro e wz ⟨rfl, hwz⟩; rw [hwz]; clear hwz
  go_wp2_with fail
  refine U.out.mono ?_
  rintro e w2 ⟨rfl, ys, hQ⟩
  have Q2 := hidD hQ
  clear hQ
  go_wp2_with fail
  refine bodyPost_end (results_none rfl _ _ _) rfl ?_
  refine ⟨rfl, g, c, ys, Q2.out.qu, Q2.out.pm.trans (List.perm_append_singleton _ _), ?_, HG.out⟩
  refine (HK.out.trans (Kpt.of Q2.out.gr (S := fun b => b = g) (fun b h => by simpa using h))).mono ?_
  rintro b hb (h | h)
  · exact h
  · rcases HG.out with h1 | h1
    · right; rw [h]; exact h1
    · omega

theorem row_less {u : World} {B q n cq m : Nat} {xs : List Nat} (h : u.ownsRow B 3 1 (.slice (some ⟨q, 0, none⟩) n cq) n (numV xs)) (hm : m ≤ n) : u.ownsRow B 3 1 (.slice (some ⟨q, 0, none⟩) m cq) m (numV (xs.take m)) := by
  have hl := h.1
  rw [numV_len] at hl
  refine ⟨by rw [numV_len, List.length_take]; omega, ?_⟩
  rcases h.2 with ⟨h1, _⟩ | ⟨g', cap, cur, h1, h2, h3, h4, h5, h6, h7⟩
  · simp at h1
  · have e1 : q = g' ∧ cq = cap := by simpa using h1
    obtain ⟨rfl, rfl⟩ := e1
    refine .inr ⟨q, cq, cur, rfl, h2, h3, by omega, h5, h6, ?_⟩
    have : numV (xs.take m) = (numV xs).take m := by simp [numV, List.map_take]
    rw [this, ← h7, List.take_take]
    congr 1
    omega

set_option maxHeartbeats 4000000 in
set_option maxRecDepth 100000 in
theorem qPopN {B : Nat} {u : World} {R q cq m : Nat} {c0 c2 c3 : Value} {xs : List Nat} (S : Qu B u R c0 (.slice (some ⟨q, 0, none⟩) (m + 1) cq) c2 c3 xs) (hn : xs.length = m + 1) (hm : m ≤ 2000000) :
    Calls Tryz.prog 277 #[.pointer (some ⟨R, 1, none⟩)] u fun e w' => ∃ x, e = .returned (.iface 3 (.int .i64 (x : Nat))) ∧ xs.Perm (x :: xs.take m) ∧ Qu B w' R c0 (.slice (some ⟨q, 0, none⟩) m cq) c2 c3 (xs.take m) ∧ Kpt u w' (fun b => b = R) := by
  have oq := S.o
  rw [hn] at oq
  have d0 := (blk_of_row oq).cell m (numV_get xs m (by omega))
  have d1 := S.r.cell 1 rfl
  have f1 := S.r.frozen 1
  obtain ⟨hc1, hc2⟩ := row_cap oq
  have S1 := hidD S
  have OQ := hidD oq
  have hp : Hid (xs.Perm (xs[m] :: xs.take m)) := by
    have h2 := List.perm_append_singleton xs[m] (xs.take m)
    have h1 : xs.take (m + 1) = xs.take m ++ [xs[m]] := List.take_succ_eq_append_getElem (by omega)
    rw [← h1, ← hn, List.take_length] at h2
    exact h2
  have w1 : IntKind.i64.wrap (m : Int) = (m : Int) := by rw [IntKind.wrap_i64]; omega
  have b1 : (m : Int) < ((m + 1 : Nat) : Int) := by omega
  have b2 : (m : Int) ≤ (cq : Int) := by omega
  have hc3 : ¬ cq = m := by omega
  generalize xs[m] = x at *
  clear S oq
  obtain ⟨n, hn1⟩ : ∃ n, m + 1 = n := ⟨_, rfl⟩
  have e1 : (n : Int) - 1 = (m : Int) := by omega
  rw [hn1] at b1 S1 d1 OQ
  have hmn : m ≤ n := by omega
  clear hn1
  go_enter Tryz.func277, Tryz.ntmps277
  go_wp2_with fail
  refine (len80 _ _ _ _).mono ?_
  rintro e wz ⟨rfl, hwz⟩; rw [hwz]; clear hwz
  go_wp2_with fail
  go_ret
  refine ⟨x, rfl, hp.out, ⟨S1.out.r.set 1 _ (by simp), ?_⟩, Kpt.of (gb_set u R 1 _) (fun b h => by simpa using h)⟩
  rw [show (xs.take m).length = m by rw [List.length_take]; omega]
  exact row_blk S1.out.r (row_less OQ.out hmn) (by decide) (gb_set u R 1 _)

set_option maxHeartbeats 4000000 in
set_option maxRecDepth 100000 in
theorem popN {B : Nat} {u : World} {R q cq m : Nat} {c0 c2 c3 : Value} {xs : List Nat} (S : Qu B u R c0 (.slice (some ⟨q, 0, none⟩) (m + 1) cq) c2 c3 xs) (hn : xs.length = m + 1) (hm : m ≤ 1000000) :
    Calls Tryz.prog 142 #[.iface 157 (.pointer (some ⟨R, 1, none⟩))] u fun e w' => ∃ x ys, e = .returned (.iface 3 (.int .i64 (x : Nat))) ∧ xs.Perm (x :: ys) ∧ Qu B w' R c0 (.slice (some ⟨q, 0, none⟩) m cq) c2 c3 ys ∧ Kpt u w' (fun b => b = R ∨ b = q) := by
  have hml := mlen (S.r.cell 1 rfl)
  have hs := mswap (S.r.cell 1 rfl)
  have oq := S.o
  rw [hn] at oq
  have HS := hidD (swap204 oq hn 0 m (by omega) (by omega))
  have w1 : IntKind.i64.wrap (m : Int) = (m : Int) := by rw [IntKind.wrap_i64]; omega
  have Q0 : Hid (Qk B u u R q cq (m + 1) c0 c2 c3 xs xs) := ⟨S, List.Perm.refl _, World.grownBy.refl _ _⟩
  have POP := hidD (fun (v : World) (zs : List Nat) (h : Qu B v R c0 (.slice (some ⟨q, 0, none⟩) (m + 1) cq) c2 c3 zs) (hz : zs.length = m + 1) => qPopN h hz (by omega))
  obtain ⟨n, hn1⟩ : ∃ n, m + 1 = n := ⟨_, rfl⟩
  have e1 : (n : Int) - 1 = (m : Int) := by omega
  have hmn : m < n := by omega
  have hn2 : n ≤ 2000000 := by omega
  have hn' := hn
  rw [hn1] at hn' hml hs HS Q0 POP
  clear S oq
  go_enter Tryz.func142, Tryz.ntmps142
  go_wp2_with fail
  refine (len80 _ _ _ _).mono ?_
  rintro e wz ⟨rfl, hwz⟩; rw [hwz]; clear hwz
  go_wp2_with fail
  refine HS.out.mono ?_
  rintro e w1 ⟨rfl, ho, hg⟩
  have Q1 := hidD (Q0.out.swap hn' 0 m (by omega) (by omega) ho hg)
  clear ho hg HS Q0 hs hml
  have hzl : ((xs.set 0 xs[m]).set m xs[0]).length = n := by simp [hn']
  generalize (xs.set 0 xs[m]).set m xs[0] = zs at *
  have DN := hidD (down114 Q1.out.qu hzl m hmn hn2)
  go_wp2_with fail
  refine DN.out.mono ?_
  rintro e w2 ⟨⟨b, rfl⟩, ys, hQ, _⟩
  have Q2 := hidD hQ
  have hyl : ys.length = n := hQ.pm.length_eq.trans hzl
  have PP := hidD (POP.out w2 ys hQ.qu hyl)
  clear hQ DN POP
  go_wp2_with fail
  refine PP.out.mono ?_
  rintro e w3 ⟨x, rfl, hp, hq, hk⟩
  have HP := hidD hp
  have HQ := hidD hq
  have HK := hidD hk
  clear hp hq hk PP
  go_wp2_with fail
  go_ret
  refine ⟨x, _, rfl, (Q1.out.pm.symm.trans Q2.out.pm.symm).trans HP.out, HQ.out, ?_⟩
  refine (((Kpt.of Q1.out.gr (S := fun b => b = q) (fun b h => by simpa using h)).trans (Kpt.of Q2.out.gr (S := fun b => b = q) (fun b h => by simpa using h))).trans HK.out).mono ?_
  rintro b _ ((h | h) | h)
  · exact .inr h
  · exact .inr h
  · exact .inl h
end Go.Proofs.YtpjjagalekolaaaGreatDoor

/- The planner takes its steps in order: a step lets those go that wait for it. -/
namespace Go.Proofs.YtpjjagalekolaaaGreatDoor
open Go.RowKit
set_option linter.unusedVariables false
set_option linter.unusedSimpArgs false

/-- A step is written. -/
theorem Rst.setSt {w0 u : World} {R g c F0 F1 : Nat} {st : List Value} {rdy : Value} {nr : Nat} {rx : List Value} {opv : Value} {no : Nat} {ops : List Value} {sp : Int} (h : Rst w0 u R g c F0 F1 st rdy nr rx opv no ops sp) (j : Nat) (v : Value) : Rst w0 (u.setCell ⟨g, j, none⟩ v) R g c F0 F1 (st.set j v) rdy nr rx opv no ops sp := by
  have hg := gb_set u g j v
  have G := blk_of_row h.st
  exact ⟨h.bel.grown hg h.bel.size (fun k e => by have := (h.st.lt g rfl).1; simp at e; omega), h.ge, h.r.kept hg (by simpa using h.r.ne G (by decide)), (h.st.stored j v).1, row_row h.rd h.st (by decide) hg, row_row h.op h.st (by decide) hg, h.f0.kept hg (by simpa using h.f0.ne G (by decide)), h.f1.kept hg (by simpa using h.f1.ne G (by decide)), h.nf⟩

set_option maxHeartbeats 4000000 in
theorem release_nil (R : Nat) (w : World) : Calls Tryz.prog 144 #[.pointer (some ⟨R, 0, none⟩), .slice none 0 0] w fun e w' => e = .returned (.tuple #[]) ∧ w' = w := by
  go_enter Tryz.func144, Tryz.ntmps144
  go_wp2
  refine wp_loop_rounds 1 ?_
  rw [rounds_succ]
  go_wp2
  refine bodyPost_end (results_none rfl _ _ _) rfl ?_
  exact ⟨rfl, rfl⟩

set_option maxHeartbeats 4000000 in
set_option maxRecDepth 100000 in
theorem release_0 {w0 u : World} {R g c F0 F1 : Nat} {st : List Value} {rdy : Value} {opv : Value} {no : Nat} {ops : List Value} {sp : Int} (S : Rst w0 u R g c F0 F1 st rdy 0 [] opv no ops sp) (hw : st[15]? = some (.int .i64 1)) (cf : Nat) :
    Calls Tryz.prog 144 #[.pointer (some ⟨R, 0, none⟩), .slice (some ⟨F0, 0, none⟩) 1 cf] u fun e w' => e = .returned (.tuple #[]) ∧ ∃ q cq, Rst w0 w' R g c F0 F1 (st.set 15 (.int .i64 0)) (.slice (some ⟨q, 0, none⟩) 1 cq) 1 [.int .i64 1] opv no ops sp := by
  have G := blk_of_row S.st
  have d0 := S.r.cell 0 rfl
  have cw := G.cell 15 hw
  have fw := G.frozen 15
  have cf0 := S.f0.cell 0 rfl
  have S1 := S.setSt 15 (.int .i64 0)
  have G1 := blk_of_row S1.st
  have e0 := S1.r.cell 0 rfl
  have ew := G1.cell 15 (List.getElem?_set_self (by have := List.getElem?_eq_some_iff.1 hw; exact this.1))
  have HP := hidD (heapPush S1 1)
  clear S S1 G G1
  go_enter Tryz.func144, Tryz.ntmps144
  go_wp2
  refine wp_loop_rounds 2 ?_
  rw [rounds_succ]
  go_wp2_with fail
  refine HP.out.mono ?_
  rintro e w1 ⟨rfl, q, cq, hS⟩
  have S2 := hidD hS
  clear hS HP
  go_wp2_with fail
  rw [rounds_succ]
  go_wp2_with fail
  refine bodyPost_end (results_none rfl _ _ _) rfl ?_
  exact ⟨rfl, q, cq, S2.out⟩

set_option maxHeartbeats 4000000 in
set_option maxRecDepth 100000 in
theorem release_1 {w0 u : World} {R g c F0 F1 : Nat} {st : List Value} {rdy : Value} {opv : Value} {no : Nat} {ops : List Value} {sp : Int} (S : Rst w0 u R g c F0 F1 st rdy 0 [] opv no ops sp) (hw : st[6]? = some (.int .i64 1)) (cf : Nat) :
    Calls Tryz.prog 144 #[.pointer (some ⟨R, 0, none⟩), .slice (some ⟨F1, 0, none⟩) 1 cf] u fun e w' => e = .returned (.tuple #[]) ∧ ∃ q cq, Rst w0 w' R g c F0 F1 (st.set 6 (.int .i64 0)) (.slice (some ⟨q, 0, none⟩) 1 cq) 1 [.int .i64 0] opv no ops sp := by
  have G := blk_of_row S.st
  have d0 := S.r.cell 0 rfl
  have cw := G.cell 6 hw
  have fw := G.frozen 6
  have cf0 := S.f1.cell 0 rfl
  have S1 := S.setSt 6 (.int .i64 0)
  have G1 := blk_of_row S1.st
  have e0 := S1.r.cell 0 rfl
  have ew := G1.cell 6 (List.getElem?_set_self (by have := List.getElem?_eq_some_iff.1 hw; exact this.1))
  have HP := hidD (heapPush S1 0)
  clear S S1 G G1
  go_enter Tryz.func144, Tryz.ntmps144
  go_wp2
  refine wp_loop_rounds 2 ?_
  rw [rounds_succ]
  go_wp2_with fail
  refine HP.out.mono ?_
  rintro e w1 ⟨rfl, q, cq, hS⟩
  have S2 := hidD hS
  clear hS HP
  go_wp2_with fail
  rw [rounds_succ]
  go_wp2_with fail
  refine bodyPost_end (results_none rfl _ _ _) rfl ?_
  exact ⟨rfl, q, cq, S2.out⟩

set_option maxHeartbeats 4000000 in
set_option maxRecDepth 100000 in
theorem free_0 {w0 u : World} {R g c F0 F1 : Nat} {st : List Value} {rdy : Value} {opv : Value} {no : Nat} {ops : List Value} {sp : Int} (S : Rst w0 u R g c F0 F1 st rdy 0 [] opv no ops sp) (hw : st[15]? = some (.int .i64 1)) {cf : Nat} (hf : st[7]? = some (.slice (some ⟨F0, 0, none⟩) 1 cf)) :
    Calls Tryz.prog 143 #[.pointer (some ⟨R, 0, none⟩), .int .i64 0] u fun e w' => e = .returned (.tuple #[]) ∧ ∃ q cq, Rst w0 w' R g c F0 F1 ((st.set 15 (.int .i64 0)).set 7 (.slice none 0 0)) (.slice (some ⟨q, 0, none⟩) 1 cq) 1 [.int .i64 1] opv no ops sp := by
  have d0 := S.r.cell 0 rfl
  have cv := (blk_of_row S.st).cell 7 hf
  have HR := hidD (release_0 S hw cf)
  have e7 : (st.set 15 (.int .i64 0))[7]? = some (.slice (some ⟨F0, 0, none⟩) 1 cf) := by rw [List.getElem?_set_ne (by decide)]; exact hf
  clear S
  go_enter Tryz.func143, Tryz.ntmps143
  go_wp2_with fail
  refine HR.out.mono ?_
  rintro e w1 ⟨rfl, q, cq, hS⟩
  have d0' := hS.r.cell 0 rfl
  have cv' := (blk_of_row hS.st).cell 7 e7
  have fv' := (blk_of_row hS.st).frozen 7
  have S2 := hidD hS
  clear hS HR
  go_wp2_with fail
  refine bodyPost_end (results_none rfl _ _ _) rfl ?_
  exact ⟨rfl, q, cq, S2.out.setSt 7 _⟩

set_option maxHeartbeats 4000000 in
set_option maxRecDepth 100000 in
theorem free_1 {w0 u : World} {R g c F0 F1 : Nat} {st : List Value} {rdy : Value} {opv : Value} {no : Nat} {ops : List Value} {sp : Int} (S : Rst w0 u R g c F0 F1 st rdy 0 [] opv no ops sp) (hw : st[6]? = some (.int .i64 1)) {cf : Nat} (hf : st[16]? = some (.slice (some ⟨F1, 0, none⟩) 1 cf)) :
    Calls Tryz.prog 143 #[.pointer (some ⟨R, 0, none⟩), .int .i64 1] u fun e w' => e = .returned (.tuple #[]) ∧ ∃ q cq, Rst w0 w' R g c F0 F1 ((st.set 6 (.int .i64 0)).set 16 (.slice none 0 0)) (.slice (some ⟨q, 0, none⟩) 1 cq) 1 [.int .i64 0] opv no ops sp := by
  have d0 := S.r.cell 0 rfl
  have cv := (blk_of_row S.st).cell 16 hf
  have HR := hidD (release_1 S hw cf)
  have e7 : (st.set 6 (.int .i64 0))[16]? = some (.slice (some ⟨F1, 0, none⟩) 1 cf) := by rw [List.getElem?_set_ne (by decide)]; exact hf
  clear S
  go_enter Tryz.func143, Tryz.ntmps143
  go_wp2_with fail
  refine HR.out.mono ?_
  rintro e w1 ⟨rfl, q, cq, hS⟩
  have d0' := hS.r.cell 0 rfl
  have cv' := (blk_of_row hS.st).cell 16 e7
  have fv' := (blk_of_row hS.st).frozen 16
  have S2 := hidD hS
  clear hS HR
  go_wp2_with fail
  refine bodyPost_end (results_none rfl _ _ _) rfl ?_
  exact ⟨rfl, q, cq, S2.out.setSt 16 _⟩

set_option maxHeartbeats 4000000 in
set_option maxRecDepth 100000 in
theorem free_nil {w0 u : World} {R g c F0 F1 : Nat} {st : List Value} {rdy : Value} {opv : Value} {nr no : Nat} {rx ops : List Value} {sp : Int} (S : Rst w0 u R g c F0 F1 st rdy nr rx opv no ops sp) (hf : st[7]? = some (.slice none 0 0)) :
    Calls Tryz.prog 143 #[.pointer (some ⟨R, 0, none⟩), .int .i64 0] u fun e w' => e = .returned (.tuple #[]) ∧ Rst w0 w' R g c F0 F1 (st.set 7 (.slice none 0 0)) rdy nr rx opv no ops sp := by
  have d0 := S.r.cell 0 rfl
  have cv := (blk_of_row S.st).cell 7 hf
  have fv := (blk_of_row S.st).frozen 7
  have S1 := hidD S
  clear S
  go_enter Tryz.func143, Tryz.ntmps143
  go_wp2_with fail
  refine (release_nil _ _).mono ?_
  rintro e wz ⟨rfl, hwz⟩; rw [hwz]; clear hwz
  go_wp2_with fail
  refine bodyPost_end (results_none rfl _ _ _) rfl ?_
  exact ⟨rfl, S1.out.setSt 7 _⟩
end Go.Proofs.YtpjjagalekolaaaGreatDoor

/- The planner takes its steps in order: one steps aside; those that are ready are taken. -/
namespace Go.Proofs.YtpjjagalekolaaaGreatDoor
open Go.RowKit
set_option linter.unusedVariables false
set_option linter.unusedSimpArgs false

theorem small0 (w : World) : Calls Tryz.prog 223 #[.int .i64 0] w fun e w' => e = .returned (.string ⟨#[48]⟩) ∧ w' = w := by
  go_enter Tryz.func223, Tryz.ntmps223
  go_wp2
  go_ret
  exact ⟨rfl, rfl⟩
theorem format0 (w : World) : Calls Tryz.prog 208 #[.int .i64 0, .int .i64 10] w fun e w' => e = .returned (.string ⟨#[48]⟩) ∧ w' = w := by
  go_enter Tryz.func208, Tryz.ntmps208
  go_wp2_with fail
  refine (small0 _).mono ?_
  rintro e wz ⟨rfl, hwz⟩; rw [hwz]; clear hwz
  go_wp2_with fail
  go_ret
  exact ⟨rfl, rfl⟩
theorem itoa0 (w : World) : Calls Tryz.prog 146 #[.int .i64 0] w fun e w' => e = .returned (.string ⟨#[48]⟩) ∧ w' = w := by
  go_enter Tryz.func146, Tryz.ntmps146
  go_wp2_with fail
  have h117 : Calls Tryz.prog 186 #[.int .i64 0] w fun e w' => e = .returned (.string ⟨#[48]⟩) ∧ w' = w := by
    go_enter Tryz.func186, Tryz.ntmps186
    go_wp2_with fail
    refine (format0 _).mono ?_
    rintro e wz ⟨rfl, hwz⟩; rw [hwz]; clear hwz
    go_wp2_with fail
    go_ret
    exact ⟨rfl, rfl⟩
  refine h117.mono ?_
  clear h117
  rintro e wz ⟨rfl, hwz⟩; rw [hwz]; clear hwz
  go_wp2_with fail
  go_ret
  exact ⟨rfl, rfl⟩

theorem info59 : (Tryz.prog.info? 59).map (fun i => (i.zero, i.size, i.bytes)) = some (some (.agg #[.int .i64 0, .string ⟨#[]⟩, .string ⟨#[]⟩, .int .i64 0, .int .i64 0, .int .i64 0]), 6, 64) := by kernel_rfl
/-- The operations are others. -/
theorem Rst.added {w0 u u' : World} {R g c F0 F1 : Nat} {st : List Value} {rdy : Value} {nr : Nat} {rx : List Value} {opv opv' : Value} {no no' : Nat} {ops ops' : List Value} {sp : Int} (h : Rst w0 u R g c F0 F1 st rdy nr rx opv no ops sp) (ho : u'.ownsRow w0.heap.size 59 6 opv' no' ops') (hg : u.grownBy u' opv.ownBlock) : Rst w0 (u'.setCell ⟨R, 2, none⟩ opv') R g c F0 F1 st rdy nr rx opv' no' ops' sp := by
  have hr := h.r.kept hg (blk_row h.r h.op (by decide))
  have hbel := h.bel.grown hg h.bel.size (fun k e => (h.op.lt k e).1)
  have f0 := h.f0.kept hg (blk_row h.f0 h.op (by decide))
  have f1 := h.f1.kept hg (blk_row h.f1 h.op (by decide))
  exact ⟨below_set hbel _ _ _ hbel.size h.ge, h.ge, hr.set 2 opv' (by simp), row_blk hr (row_row h.st h.op (by decide) hg) (by decide) (gb_set _ _ _ _), row_blk hr (row_row h.rd h.op (by decide) hg) (by decide) (gb_set _ _ _ _), row_blk hr ho (by decide) (gb_set _ _ _ _), f0.other 2 opv' (f0.ne hr (by decide)), f1.other 2 opv' (f1.ne hr (by decide)), h.nf⟩
theorem Rst.setSp {w0 u : World} {R g c F0 F1 : Nat} {st : List Value} {rdy : Value} {nr : Nat} {rx : List Value} {opv : Value} {no : Nat} {ops : List Value} {sp : Int} (h : Rst w0 u R g c F0 F1 st rdy nr rx opv no ops sp) (sp' : Int) : Rst w0 (u.setCell ⟨R, 3, none⟩ (.int .i64 sp')) R g c F0 F1 st rdy nr rx opv no ops sp' :=
  ⟨below_set h.bel _ _ _ h.bel.size h.ge, h.ge, h.r.set 3 (.int .i64 sp') (by simp), row_blk h.r h.st (by decide) (gb_set _ _ _ _), row_blk h.r h.rd (by decide) (gb_set _ _ _ _), row_blk h.r h.op (by decide) (gb_set _ _ _ _), h.f0.other 3 _ (h.f0.ne h.r (by decide)), h.f1.other 3 _ (h.f1.ne h.r (by decide)), h.nf⟩

/-- An operation that gives another name. -/
def renC (p q : ByteArray) : List Value := [.int .i64 6, .string p, .string q, .int .i64 0, .int .i64 0, .int .i64 0]
theorem renC_one (p q : ByteArray) : ∀ x ∈ renC p q, x.oneCell' = true := by
  intro x hx
  simp only [renC, List.mem_cons, List.not_mem_nil, or_false] at hx
  rcases hx with rfl | rfl | rfl | rfl | rfl | rfl <;> rfl
/-- The steps when the first has stepped aside. -/
def st3 (F1 c1 : Nat) : List Value := [.int .i64 6, .string ⟨#[126, 48]⟩, .string ⟨#[98]⟩, .int .i64 0, .int .i64 0, .int .i64 0, .int .i64 1, .slice none 0 0, .slice none 0 0, .int .i64 6, .string ⟨#[98]⟩, .string ⟨#[97]⟩, .int .i64 0, .int .i64 0, .int .i64 0, .int .i64 0, .slice (some ⟨F1, 0, none⟩) 1 c1, .slice none 0 0]

set_option maxHeartbeats 4000000 in
set_option maxRecDepth 100000 in
theorem stepAside_swap {w0 u : World} {R g c F0 c0 F1 c1 : Nat} {rdy : Value} {opv : Value} {no : Nat} {ops : List Value} (S : Rst w0 u R g c F0 F1 (st2 F0 c0 F1 c1) rdy 0 [] opv no ops 0) (hno : no ≤ 1000) :
    Calls Tryz.prog 96 #[.pointer (some ⟨R, 0, none⟩), .int .i64 0] u fun e w' => e = .returned (.tuple #[]) ∧ ∃ q cq opv', Rst w0 w' R g c F0 F1 (st3 F1 c1) (.slice (some ⟨q, 0, none⟩) 1 cq) 1 [.int .i64 1] opv' (no + 1) (ops ++ renC ⟨#[97]⟩ ⟨#[126, 48]⟩) 1 := by
  obtain ⟨i0, hi, hz0, hz1, hz2⟩ := info_parts info59
  have d3 := S.r.cell 3 rfl
  have f3 := S.r.frozen 3
  have S1 := hidD (S.setSp 1)
  have d0 := S1.out.r.cell 0 rfl
  have d2 := S1.out.r.cell 2 rfl
  have c1' := (blk_of_row S1.out.st).cell 1 rfl
  obtain ⟨sa, sn, sc, hsv⟩ := shape_of S1.out.op
  subst hsv
  clear S
  go_enter Tryz.func96, Tryz.ntmps96
  go_wp2_with fail
  refine (itoa0 _).mono ?_
  rintro e wz ⟨rfl, hwz⟩; rw [hwz]; clear hwz
  have hcat : (⟨#[126]⟩ : ByteArray) ++ (⟨#[48]⟩ : ByteArray) = ⟨#[126, 48]⟩ := by rfl
  go_wp2_with fail
  generalize hU : u.setCell ⟨R, 3, none⟩ (.int .i64 1) = U at *
  have hbU : Below U.heap.size U (U.alloc (.cells (renC ⟨#[97]⟩ ⟨#[126, 48]⟩).toArray 59)).drew := (box_below U (renC ⟨#[97]⟩ ⟨#[126, 48]⟩).toArray 59).trans (Below.mono (below_drewB _) (by simp))
  have S2 := hidD (S1.out.below hbU)
  have d2' : (U.alloc (.cells (renC ⟨#[97]⟩ ⟨#[126, 48]⟩).toArray 59)).cell? ⟨R, 2, none⟩ = some (.slice sa sn sc) := S2.out.r.cell 2 rfl
  have c1'' : (U.alloc (.cells (renC ⟨#[97]⟩ ⟨#[126, 48]⟩).toArray 59)).cell? ⟨g, 1, none⟩ = _ := (blk_of_row S2.out.st).cell 1 rfl
  simp only [renC] at d2' c1''
  have hz2' := S2.out.bel.size
  have D6 := hidD (fun (w6 : World) (hg : (U.alloc (.cells (renC ⟨#[97]⟩ ⟨#[126, 48]⟩).toArray 59)).drew.grownBy w6 (Value.slice sa sn sc).ownBlock) => S2.out.r.kept hg (blk_row S2.out.r S2.out.op (by decide)))
  go_region_law ((refine step_append_lies _ (by rfl) (.tmp 30) (.tmp 37) 33 (by rfl) w0.heap.size 59 i0 _ 6 64 Tryz.underlying33 hi hz0 hz1 hz2 rfl (by decide) (.slice sa sn sc) no ops (by rfl) S2.out.op ⟨U.heap.size, 0, none⟩ 1 1 (renC ⟨#[97]⟩ ⟨#[126, 48]⟩) (by rfl) rfl (new_at U 59 (renC ⟨#[97]⟩ ⟨#[126, 48]⟩)) (renC_one _ _) (by decide) (by unfold maxLen; omega) (by omega) hz2' _ rfl ?_; intro g6 c6 w6 hown6 hg6 hat6 hlt6; have e5 := (D6.out w6 hg6).cell 2 rfl; have f5 := (D6.out w6 hg6).frozen 2))
  all_goals
    have S7 := hidD (S2.out.added hown6 hg6)
    have S8 := S7.out.setSt 1 (.string ⟨#[126, 48]⟩)
    have HF := hidD (free_0 S8 (cf := c0) rfl rfl)
    have z1 := (blk_of_row S7.out.st).cell 1 rfl
    have fz1 := (blk_of_row S7.out.st).frozen 1
    clear S8
    go_wp2_with fail
    refine HF.out.mono ?_
    rintro e w9 ⟨rfl, q, cq, hS⟩
    have S9 := hidD hS
    clear hS HF
    go_wp2_with fail
    refine bodyPost_end (results_none rfl _ _ _) rfl ?_
    exact ⟨rfl, q, cq, _, S9.out⟩
end Go.Proofs.YtpjjagalekolaaaGreatDoor

/- The planner takes its steps in order: those that are ready are taken. -/
namespace Go.Proofs.YtpjjagalekolaaaGreatDoor
open Go.RowKit
set_option linter.unusedVariables false
set_option linter.unusedSimpArgs false

/-- The steps when all is done. -/
def st4 : List Value := [.int .i64 6, .string ⟨#[126, 48]⟩, .string ⟨#[98]⟩, .int .i64 0, .int .i64 0, .int .i64 0, .int .i64 0, .slice none 0 0, .slice none 0 0, .int .i64 6, .string ⟨#[98]⟩, .string ⟨#[97]⟩, .int .i64 0, .int .i64 0, .int .i64 0, .int .i64 0, .slice none 0 0, .slice none 0 0]

theorem row_shape0 {u : World} {B e s n : Nat} {v : Value} {xs : List Value} (h : u.ownsRow B e s v n xs) : ∃ a c, v = .slice a n c := by
  rcases h.2 with ⟨h1, h2⟩ | ⟨g', cap, cur, h1, _⟩
  · subst h2; exact ⟨_, _, h1⟩
  · exact ⟨_, _, h1⟩
set_option maxHeartbeats 4000000 in
set_option maxRecDepth 100000 in
theorem takeReady_none {w0 u : World} {R g c F0 F1 : Nat} {st : List Value} {rdy : Value} {opv : Value} {no : Nat} {ops : List Value} {sp : Int} (S : Rst w0 u R g c F0 F1 st rdy 0 [] opv no ops sp) :
    Calls Tryz.prog 94 #[.pointer (some ⟨R, 0, none⟩)] u fun e w' => e = .returned (.tuple #[]) ∧ w' = u := by
  have d1 := S.r.cell 1 rfl
  obtain ⟨a, c', hsv⟩ := row_shape0 S.rd
  subst hsv
  clear S
  go_enter Tryz.func94, Tryz.ntmps94
  go_wp2_with fail
  refine wp_loop_rounds 1 ?_
  rw [rounds_succ]
  go_wp2_with fail
  refine (len80 _ _ _ _).mono ?_
  rintro e wz ⟨rfl, hwz⟩; rw [hwz]; clear hwz
  go_wp2_with fail
  refine bodyPost_end (results_none rfl _ _ _) rfl ?_
  exact ⟨rfl, rfl⟩

set_option maxHeartbeats 8000000 in
set_option maxRecDepth 100000 in
theorem takeReady_swap {w0 u : World} {R g c F0 F1 c1 q cq : Nat} {opv : Value} {no : Nat} {ops : List Value} {sp : Int} (S : Rst w0 u R g c F0 F1 (st3 F1 c1) (.slice (some ⟨q, 0, none⟩) 1 cq) 1 [.int .i64 1] opv no ops sp) (hno : no ≤ 1000) :
    Calls Tryz.prog 94 #[.pointer (some ⟨R, 0, none⟩)] u fun e w' => e = .returned (.tuple #[]) ∧ ∃ rdy' opv', Rst w0 w' R g c F0 F1 st4 rdy' 0 [] opv' (no + 2) (ops ++ renC ⟨#[98]⟩ ⟨#[97]⟩ ++ renC ⟨#[126, 48]⟩ ⟨#[98]⟩) sp := by
  obtain ⟨i0, hi, hz0, hz1, hz2⟩ := info_parts info59
  have d1 := S.r.cell 1 rfl
  have HP := hidD (heapPop S)
  clear S
  go_enter Tryz.func94, Tryz.ntmps94
  go_wp2_with fail
  refine wp_loop_rounds 3 ?_

  rw [rounds_succ]
  go_wp2_with fail
  refine (len80 _ _ _ _).mono ?_
  rintro e wz ⟨rfl, hwz⟩; rw [hwz]; clear hwz
  go_wp2_with fail
  refine HP.out.mono ?_
  rintro e u1 ⟨rfl, hS⟩
  have hta : ∀ (w : World), (Instr.typeAssert (.iface 3 (.int .i64 1)) 20 3 false).run Tryz.prog w = .ok (.int .i64 1) w := fun w => by kernel_rfl
  have S1 := hidD hS
  clear hS HP d1
  obtain ⟨sa, sn, sc, hsv⟩ := shape_of S1.out.op
  subst hsv
  go_wp2_with fail
  have hbU : Below u1.heap.size u1 (u1.alloc (.cells (renC ⟨#[98]⟩ ⟨#[97]⟩).toArray 59)).drew := (box_below u1 (renC ⟨#[98]⟩ ⟨#[97]⟩).toArray 59).trans (Below.mono (below_drewB _) (by simp))
  have S2 := hidD (S1.out.below hbU)
  have a0 := S1.out.r.cell 0 rfl
  have a2 := S1.out.r.cell 2 rfl
  have b0 := (blk_of_row S1.out.st).cell 9 rfl
  have b1 := (blk_of_row S1.out.st).cell 10 rfl
  have b2 := (blk_of_row S1.out.st).cell 11 rfl
  have b3 := (blk_of_row S1.out.st).cell 12 rfl
  have b4 := (blk_of_row S1.out.st).cell 13 rfl
  have b5 := (blk_of_row S1.out.st).cell 14 rfl
  have d2' : (u1.alloc (.cells (renC ⟨#[98]⟩ ⟨#[97]⟩).toArray 59)).cell? ⟨R, 2, none⟩ = some (.slice sa sn sc) := S2.out.r.cell 2 rfl
  have d0' : (u1.alloc (.cells (renC ⟨#[98]⟩ ⟨#[97]⟩).toArray 59)).cell? ⟨R, 0, none⟩ = some (.slice (some ⟨g, 0, none⟩) 2 c) := S2.out.r.cell 0 rfl
  have t0 : (u1.alloc (.cells (renC ⟨#[98]⟩ ⟨#[97]⟩).toArray 59)).cell? ⟨g, 9, none⟩ = _ := (blk_of_row S2.out.st).cell 9 rfl
  have t1 : (u1.alloc (.cells (renC ⟨#[98]⟩ ⟨#[97]⟩).toArray 59)).cell? ⟨g, 10, none⟩ = _ := (blk_of_row S2.out.st).cell 10 rfl
  have t2 : (u1.alloc (.cells (renC ⟨#[98]⟩ ⟨#[97]⟩).toArray 59)).cell? ⟨g, 11, none⟩ = _ := (blk_of_row S2.out.st).cell 11 rfl
  have t3 : (u1.alloc (.cells (renC ⟨#[98]⟩ ⟨#[97]⟩).toArray 59)).cell? ⟨g, 12, none⟩ = _ := (blk_of_row S2.out.st).cell 12 rfl
  have t4 : (u1.alloc (.cells (renC ⟨#[98]⟩ ⟨#[97]⟩).toArray 59)).cell? ⟨g, 13, none⟩ = _ := (blk_of_row S2.out.st).cell 13 rfl
  have t5 : (u1.alloc (.cells (renC ⟨#[98]⟩ ⟨#[97]⟩).toArray 59)).cell? ⟨g, 14, none⟩ = _ := (blk_of_row S2.out.st).cell 14 rfl
  simp only [renC] at d2' d0' t0 t1 t2 t3 t4 t5
  have hz2' := S2.out.bel.size
  have D6 := hidD (fun (w6 : World) (hg : (u1.alloc (.cells (renC ⟨#[98]⟩ ⟨#[97]⟩).toArray 59)).drew.grownBy w6 (Value.slice sa sn sc).ownBlock) => S2.out.r.kept hg (blk_row S2.out.r S2.out.op (by decide)))
  go_region_law ((refine step_append_lies _ (by rfl) (.tmp 20) (.tmp 29) 33 (by rfl) w0.heap.size 59 i0 _ 6 64 Tryz.underlying33 hi hz0 hz1 hz2 rfl (by decide) (.slice sa sn sc) _ _ (by rfl) S2.out.op ⟨u1.heap.size, 0, none⟩ 1 1 (renC ⟨#[98]⟩ ⟨#[97]⟩) (by rfl) rfl (new_at u1 59 (renC ⟨#[98]⟩ ⟨#[97]⟩)) (renC_one _ _) (by decide) (by unfold maxLen; omega) (by omega) hz2' _ rfl ?_; intro g6 c6 w6 hown6 hg6 hat6 hlt6; have e5 := (D6.out w6 hg6).cell 2 rfl; have f5 := (D6.out w6 hg6).frozen 2; have e50 := (D6.out w6 hg6).cell 0 rfl))
  all_goals
    have S7 := hidD (S2.out.added hown6 hg6)
    generalize w6.setCell ⟨R, 2, none⟩ (.slice (some ⟨g6, 0, none⟩) (no + 1) c6) = v1 at *
    have HF := hidD (free_1 S7.out (cf := c1) rfl rfl)
    clear hown6 hg6 hat6 hlt6 e5 f5 e50 D6 S2 S1 hbU hz2' d2' d0' t0 t1 t2 t3 t4 t5 a0 a2 b0 b1 b2 b3 b4 b5 hta
    go_wp2_with fail
    refine HF.out.mono ?_
    rintro e v2 ⟨rfl, q2, cq2, hS⟩
    have x0 := hS.r.cell 0 rfl
    have x17 := (blk_of_row hS.st).cell 17 rfl
    have d1 := hS.r.cell 1 rfl
    have HP := hidD (heapPop hS)
    clear hS HF S7
    go_wp2_with fail
    refine (release_nil _ _).mono ?_
    rintro e wz ⟨rfl, hwz⟩; rw [hwz]; clear hwz
    go_wp2_with fail

    rw [rounds_succ]
    go_wp2_with fail
    refine (len80 _ _ _ _).mono ?_
    rintro e wz ⟨rfl, hwz⟩; rw [hwz]; clear hwz
    go_wp2_with fail
    refine HP.out.mono ?_
    rintro e u2 ⟨rfl, hS⟩
    have hta : ∀ (w : World), (Instr.typeAssert (.iface 3 (.int .i64 0)) 20 3 false).run Tryz.prog w = .ok (.int .i64 0) w := fun w => by kernel_rfl
    have S1 := hidD hS
    clear hS HP d1
    go_wp2_with fail
    have hbU : Below u2.heap.size u2 (u2.alloc (.cells (renC ⟨#[126, 48]⟩ ⟨#[98]⟩).toArray 59)).drew := (box_below u2 (renC ⟨#[126, 48]⟩ ⟨#[98]⟩).toArray 59).trans (Below.mono (below_drewB _) (by simp))
    have S2 := hidD (S1.out.below hbU)
    have a0 := S1.out.r.cell 0 rfl
    have a2 := S1.out.r.cell 2 rfl
    have b0 := (blk_of_row S1.out.st).cell 0 rfl
    have b1 := (blk_of_row S1.out.st).cell 1 rfl
    have b2 := (blk_of_row S1.out.st).cell 2 rfl
    have b3 := (blk_of_row S1.out.st).cell 3 rfl
    have b4 := (blk_of_row S1.out.st).cell 4 rfl
    have b5 := (blk_of_row S1.out.st).cell 5 rfl
    have d2' : (u2.alloc (.cells (renC ⟨#[126, 48]⟩ ⟨#[98]⟩).toArray 59)).cell? ⟨R, 2, none⟩ = some (.slice (some ⟨g6, 0, none⟩) (no + 1) c6) := S2.out.r.cell 2 rfl
    have d0' : (u2.alloc (.cells (renC ⟨#[126, 48]⟩ ⟨#[98]⟩).toArray 59)).cell? ⟨R, 0, none⟩ = some (.slice (some ⟨g, 0, none⟩) 2 c) := S2.out.r.cell 0 rfl
    have t0 : (u2.alloc (.cells (renC ⟨#[126, 48]⟩ ⟨#[98]⟩).toArray 59)).cell? ⟨g, 0, none⟩ = _ := (blk_of_row S2.out.st).cell 0 rfl
    have t1 : (u2.alloc (.cells (renC ⟨#[126, 48]⟩ ⟨#[98]⟩).toArray 59)).cell? ⟨g, 1, none⟩ = _ := (blk_of_row S2.out.st).cell 1 rfl
    have t2 : (u2.alloc (.cells (renC ⟨#[126, 48]⟩ ⟨#[98]⟩).toArray 59)).cell? ⟨g, 2, none⟩ = _ := (blk_of_row S2.out.st).cell 2 rfl
    have t3 : (u2.alloc (.cells (renC ⟨#[126, 48]⟩ ⟨#[98]⟩).toArray 59)).cell? ⟨g, 3, none⟩ = _ := (blk_of_row S2.out.st).cell 3 rfl
    have t4 : (u2.alloc (.cells (renC ⟨#[126, 48]⟩ ⟨#[98]⟩).toArray 59)).cell? ⟨g, 4, none⟩ = _ := (blk_of_row S2.out.st).cell 4 rfl
    have t5 : (u2.alloc (.cells (renC ⟨#[126, 48]⟩ ⟨#[98]⟩).toArray 59)).cell? ⟨g, 5, none⟩ = _ := (blk_of_row S2.out.st).cell 5 rfl
    simp only [renC] at d2' d0' t0 t1 t2 t3 t4 t5
    have hz2' := S2.out.bel.size
    have D6 := hidD (fun (w6 : World) (hg : (u2.alloc (.cells (renC ⟨#[126, 48]⟩ ⟨#[98]⟩).toArray 59)).drew.grownBy w6 (Value.slice (some ⟨g6, 0, none⟩) (no + 1) c6).ownBlock) => S2.out.r.kept hg (blk_row S2.out.r S2.out.op (by decide)))
    go_region_law ((refine step_append_lies _ (by rfl) (.tmp 20) (.tmp 29) 33 (by rfl) w0.heap.size 59 i0 _ 6 64 Tryz.underlying33 hi hz0 hz1 hz2 rfl (by decide) (.slice (some ⟨g6, 0, none⟩) (no + 1) c6) _ _ (by rfl) S2.out.op ⟨u2.heap.size, 0, none⟩ 1 1 (renC ⟨#[126, 48]⟩ ⟨#[98]⟩) (by rfl) rfl (new_at u2 59 (renC ⟨#[126, 48]⟩ ⟨#[98]⟩)) (renC_one _ _) (by decide) (by unfold maxLen; omega) (by omega) hz2' _ rfl ?_; intro g7 c7 w6 hown6 hg6 hat6 hlt6; have e5 := (D6.out w6 hg6).cell 2 rfl; have f5 := (D6.out w6 hg6).frozen 2; have e50 := (D6.out w6 hg6).cell 0 rfl))
    all_goals
      have S7 := hidD (S2.out.added hown6 hg6)
      generalize w6.setCell ⟨R, 2, none⟩ (.slice (some ⟨g7, 0, none⟩) (no + 1 + 1) c7) = v3 at *
      have HF := hidD (free_nil S7.out rfl)
      clear hown6 hg6 hat6 hlt6 e5 f5 e50 D6 S2 S1 hbU hz2' d2' d0' t0 t1 t2 t3 t4 t5 a0 a2 b0 b1 b2 b3 b4 b5 hta x0 x17
      go_wp2_with fail
      refine HF.out.mono ?_
      rintro e v4 ⟨rfl, hS⟩
      have x0 := hS.r.cell 0 rfl
      have x8 := (blk_of_row hS.st).cell 8 rfl
      have d1 := hS.r.cell 1 rfl
      have S9 := hidD hS
      clear hS HF S7
      go_wp2_with fail
      refine (release_nil _ _).mono ?_
      rintro e wz ⟨rfl, hwz⟩; rw [hwz]; clear hwz
      go_wp2_with fail
      rw [rounds_succ]
      go_wp2_with fail
      refine (len80 _ _ _ _).mono ?_
      rintro e wz ⟨rfl, hwz⟩; rw [hwz]; clear hwz
      go_wp2_with fail
      refine bodyPost_end (results_none rfl _ _ _) rfl ?_
      exact ⟨rfl, _, _, S9.out⟩
end Go.Proofs.YtpjjagalekolaaaGreatDoor

