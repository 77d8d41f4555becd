/- KE, KF, KG, KH, KI, KJ: in one text. -/
import Derived.Test.YtpjjagalekolaaaGreatDoorY09
import Derived.Deep.RegionLaw
import Derived.Deep.AppendLies
import Derived.Laws.AppendOwn
import Derived.Deep.RegionWith
/- The planner at two files that change their names: a draft in memory, and a step put behind the others. -/
namespace Go.Proofs.YtpjjagalekolaaaGreatDoor
open Go.RowKit
set_option linter.unusedVariables false
set_option linter.unusedSimpArgs false

/-- A draft in memory. -/
structure Dst (w0 u : World) (D A B C E bs bt : Nat) (lv cm : List Value) (stv : Value) (n : Nat) (st : List Value) : Prop where
  bel : Below w0.heap.size w0 u
  ge : w0.heap.size ≤ D ∧ w0.heap.size ≤ A ∧ w0.heap.size ≤ B ∧ w0.heap.size ≤ C ∧ w0.heap.size ≤ E
  ne : A ≠ C ∧ A ≠ E ∧ B ≠ C ∧ B ≠ E ∧ C ≠ E
  d : Blk u D 164 [.slice (some ⟨bs, 0, none⟩) 2 2, .slice (some ⟨bt, 0, none⟩) 2 2, .bool false, .slice (some ⟨A, 0, none⟩) 2 2, .slice (some ⟨B, 0, none⟩) 2 2, stv, .slice (some ⟨C, 0, none⟩) 2 2, .slice (some ⟨E, 0, none⟩) 2 2]
  a : Blk u A 3 [.int .i64 1, .int .i64 0]
  b : Blk u B 3 [.int .i64 1, .int .i64 0]
  c : Blk u C 3 lv
  e : Blk u E 3 cm
  i : Inp u bs bt
  st : u.ownsRow w0.heap.size 155 9 stv n st
theorem own_belowK {u u' : World} {B e s n : Nat} {v : Value} {xs : List Value} (hb : Below u.heap.size u u') (h : u.ownsRow B e s v n xs) : u'.ownsRow B e s v n xs := by
  refine h.kept (row := none) ⟨hb.os, hb.tape, hb.output, hb.size, fun k hk _ => hb.block k hk⟩ ?_
  cases hv : v.ownBlock with
  | none => exact .inl rfl
  | some g => exact .inr (by simp)
theorem Dst.below {w0 u u' : World} {D A B C E bs bt : Nat} {lv cm : List Value} {stv : Value} {n : Nat} {st : List Value} (h : Dst w0 u D A B C E bs bt lv cm stv n st) (hb : Below u.heap.size u u') : Dst w0 u' D A B C E bs bt lv cm stv n st :=
  ⟨h.bel.trans (hb.mono h.bel.size), h.ge, h.ne, h.d.below hb, h.a.below hb, h.b.below hb, h.c.below hb, h.e.below hb, h.i.below hb, own_belowK hb h.st⟩
theorem blk_row {u : World} {b B e s n : Nat} {T : TypeId} {xs ys : List Value} {v : Value} (h : Blk u b T xs) (o : u.ownsRow B e s v n ys) (hT : T ≠ e) : some b ≠ v.ownBlock := by
  intro hb
  rcases o.2 with ⟨rfl, _⟩ | ⟨g, cap, cur, rfl, _, hg, _⟩
  · simp [Value.ownBlock] at hb
  · simp [Value.ownBlock] at hb
    subst hb
    obtain ⟨c, h1, _⟩ := h
    rw [h1] at hg
    simp only [Option.some.injEq, Obj.cells.injEq] at hg
    exact hT hg.2.1
theorem row_blk {u u' : World} {b B e s n : Nat} {T : TypeId} {xs ys : List Value} {v : Value} (h : Blk u b T xs) (o : u.ownsRow B e s v n ys) (hT : T ≠ e) (hg : u.grownBy u' (some b)) : u'.ownsRow B e s v n ys := by
  refine o.kept hg ?_
  cases hv : v.ownBlock with
  | none => exact .inl rfl
  | some g => exact .inr (fun e => blk_row h o hT (by rw [hv, ← e]))

theorem Dst.added {w0 u u' : World} {D A B C E bs bt : Nat} {lv cm : List Value} {stv stv' : Value} {n n' : Nat} {st st' : List Value} (h : Dst w0 u D A B C E bs bt lv cm stv n st) (ho : u'.ownsRow w0.heap.size 155 9 stv' n' st') (hg : u.grownBy u' stv.ownBlock) : Dst w0 (u'.setCell ⟨D, 5, none⟩ stv') D A B C E bs bt lv cm stv' n' st' := by
  have hd := h.d.kept hg (blk_row h.d h.st (by decide))
  have ha := h.a.kept hg (blk_row h.a h.st (by decide))
  have hb := h.b.kept hg (blk_row h.b h.st (by decide))
  have hc := h.c.kept hg (blk_row h.c h.st (by decide))
  have he := h.e.kept hg (blk_row h.e h.st (by decide))
  have hi := h.i.kept hg (blk_row h.i.s h.st (by decide)) (blk_row h.i.t h.st (by decide))
  have hbel := h.bel.grown hg h.bel.size (fun k e => (h.st.lt k e).1)
  refine ⟨below_set hbel _ _ _ hbel.size h.ge.1, h.ge, h.ne, hd.set 5 stv' (by simp), ha.other 5 stv' (ha.ne hd (by decide)), hb.other 5 stv' (hb.ne hd (by decide)), hc.other 5 stv' (hc.ne hd (by decide)), he.other 5 stv' (he.ne hd (by decide)), ⟨hi.s.other 5 stv' (hi.s.ne hd (by decide)), hi.t.other 5 stv' (hi.t.ne hd (by decide))⟩, row_blk hd ho (by decide) (gb_set _ _ _ _)⟩
/-- An operation as a step's cells. -/
def stepC (k : Int) (p q : ByteArray) : List Value := [.int .i64 k, .string p, .string q, .int .i64 0, .int .i64 0, .int .i64 0, .int .i64 0, .slice none 0 0, .slice none 0 0]
theorem info155 : (Tryz.prog.info? 155).map (fun i => (i.zero, i.size, i.bytes)) = some (some (.agg #[.int .i64 0, .string ⟨#[]⟩, .string ⟨#[]⟩, .int .i64 0, .int .i64 0, .int .i64 0, .int .i64 0, .slice none 0 0, .slice none 0 0]), 9, 120) := by kernel_rfl

theorem new_at (u : World) (T : TypeId) (xs : List Value) : ∀ (j : Nat) (x : Value), xs[j]? = some x → (u.alloc (.cells xs.toArray T)).cell? ((⟨u.heap.size, 0, none⟩ : Addr).add j) = some x := by
  intro j x hx
  have : (⟨u.heap.size, 0, none⟩ : Addr).add j = ⟨u.heap.size, j, none⟩ := by unfold Addr.add; split <;> simp_all
  rw [this]
  exact (Blk.new u T xs).cell j hx
theorem shape_of {u : World} {B e s n : Nat} {v : Value} {xs : List Value} (h : u.ownsRow B e s v n xs) : ∃ a m c, v = .slice a m c := by
  rcases h.2 with ⟨rfl, _⟩ | ⟨g, cap, cur, rfl, _⟩
  · exact ⟨_, _, _, rfl⟩
  · exact ⟨_, _, _, rfl⟩
theorem stepC_one (k : Int) (p q : ByteArray) : ∀ x ∈ stepC k p q, x.oneCell' = true := by
  intro x hx
  simp only [stepC, List.mem_cons, List.not_mem_nil, or_false] at hx
  rcases hx with rfl | rfl | rfl | rfl | rfl | rfl | rfl | rfl | rfl <;> rfl

set_option maxHeartbeats 4000000 in
set_option maxRecDepth 100000 in
theorem add_any {w0 u : World} {D A B C E bs bt : Nat} {lv cm : List Value} {stv : Value} {n : Nat} {st : List Value} (S : Dst w0 u D A B C E bs bt lv cm stv n st) (hn : n ≤ 1000) (k : Int) (p q : ByteArray) :
    Calls Tryz.prog 150 #[.pointer (some ⟨D, 0, none⟩), .agg #[.int .i64 k, .string p, .string q, .int .i64 0, .int .i64 0, .int .i64 0]] u fun e w' => e = .returned (.int .i64 n) ∧ ∃ stv', Dst w0 w' D A B C E bs bt lv cm stv' (n + 1) (st ++ stepC k p q) ∧ ∀ (b : Nat) (T : TypeId) (xs : List Value), Blk u b T xs → T ≠ 155 → T ≠ 164 → Blk w' b T xs := by
  obtain ⟨i0, hi, hz0, hz1, hz2⟩ := info_parts info155
  have BX := hidD (box_below u #[.int .i64 k, .string p, .string q, .int .i64 0, .int .i64 0, .int .i64 0] 59)
  have X := hidD (Blk.new u 59 [.int .i64 k, .string p, .string q, .int .i64 0, .int .i64 0, .int .i64 0])
  have S1 := hidD (S.below BX.out)
  have d5 := S1.out.d.cell 5 rfl
  have x0 := X.out.cell 0 rfl
  have x1 := X.out.cell 1 rfl
  have x2 := X.out.cell 2 rfl
  have x3 := X.out.cell 3 rfl
  have x4 := X.out.cell 4 rfl
  have x5 := X.out.cell 5 rfl
  have hsz := S1.out.bel.size
  obtain ⟨sa, sn, sc, hsv⟩ := shape_of S1.out.st
  subst hsv
  have HF0 := hidD (fun (b : Nat) (T : TypeId) (xs : List Value) (h : Blk u b T xs) => h.below BX.out)
  clear S
  go_enter Tryz.func150, Tryz.ntmps150
  go_wp2
  generalize hU : u.alloc (.cells #[.int .i64 k, .string p, .string q, .int .i64 0, .int .i64 0, .int .i64 0] 59) = U at *
  have hbU : Below U.heap.size U (U.alloc (.cells (stepC k p q).toArray 155)).drew := (box_below U (stepC k p q).toArray 155).trans (Below.mono (below_drewB _) (by simp))
  have S2 := hidD (S1.out.below hbU)
  have X2 := hidD (X.out.below hbU)
  have d5' : (U.alloc (.cells (stepC k p q).toArray 155)).cell? ⟨D, 5, none⟩ = some (.slice sa sn sc) := S2.out.d.cell 5 rfl
  have y0 : (U.alloc (.cells (stepC k p q).toArray 155)).cell? ⟨u.heap.size, 0, none⟩ = _ := X2.out.cell 0 rfl
  have y1 : (U.alloc (.cells (stepC k p q).toArray 155)).cell? ⟨u.heap.size, 1, none⟩ = _ := X2.out.cell 1 rfl
  have y2 : (U.alloc (.cells (stepC k p q).toArray 155)).cell? ⟨u.heap.size, 2, none⟩ = _ := X2.out.cell 2 rfl
  have y3 : (U.alloc (.cells (stepC k p q).toArray 155)).cell? ⟨u.heap.size, 3, none⟩ = _ := X2.out.cell 3 rfl
  have y4 : (U.alloc (.cells (stepC k p q).toArray 155)).cell? ⟨u.heap.size, 4, none⟩ = _ := X2.out.cell 4 rfl
  have y5 : (U.alloc (.cells (stepC k p q).toArray 155)).cell? ⟨u.heap.size, 5, none⟩ = _ := X2.out.cell 5 rfl
  simp only [stepC] at d5' y0 y1 y2 y3 y4 y5
  have hz2' := S2.out.bel.size
  have D6 := hidD (fun (w6 : World) (hg : (U.alloc (.cells (stepC k p q).toArray 155)).drew.grownBy w6 (Value.slice sa sn sc).ownBlock) => S2.out.d.kept hg (blk_row S2.out.d S2.out.st (by decide)))
  go_region_law ((refine step_append_lies _ (by rfl) (.tmp 9) (.tmp 12) 97 (by rfl) w0.heap.size 155 i0 _ 9 120 Tryz.underlying97 hi hz0 hz1 hz2 rfl (by decide) (.slice sa sn sc) n st (by rfl) S2.out.st ⟨U.heap.size, 0, none⟩ 1 1 (stepC k p q) (by rfl) rfl (new_at U 155 (stepC k p q)) (stepC_one k p q) (by decide) (by unfold maxLen; omega) (by omega) hz2' _ rfl ?_; intro g6 c6 w6 hown6 hg6 hat6 hlt6; have e5 := (D6.out w6 hg6).cell 5 rfl; have f5 := (D6.out w6 hg6).frozen 5))
  all_goals
    have S7 := hidD (S2.out.added hown6 hg6)
    have z5 := S7.out.d.cell 5 rfl
    go_wp2
    go_ret
    refine ⟨by first | rfl | (congr 2; omega) | simp, _, S7.out, fun b T xs h h1 h2 => ?_⟩
    have hb2 := (HF0.out b T xs h).below hbU
    have hb3 := hb2.kept hg6 (blk_row hb2 S2.out.st h1)
    exact hb3.other 5 _ (hb3.ne (D6.out _ hg6) h2)
end Go.Proofs.YtpjjagalekolaaaGreatDoor

/- The planner at two files that change their names: what goes, what is carried over, what is made. -/
namespace Go.Proofs.YtpjjagalekolaaaGreatDoor
open Go.RowKit
set_option linter.unusedVariables false
set_option linter.unusedSimpArgs false

set_option maxHeartbeats 4000000 in
set_option maxRecDepth 100000 in
theorem takeAway_swap {w0 u : World} {D A B C E bs bt : Nat} {lv cm : List Value} {stv : Value} {n : Nat} {st : List Value} (S : Dst w0 u D A B C E bs bt lv cm stv n st) :
    Calls Tryz.prog 99 #[.pointer (some ⟨D, 0, none⟩)] u fun e w' => e = .returned (.tuple #[]) ∧ Dst w0 w' D A B C E bs bt lv cm stv n st := by
  have S0 := hidD S
  have r0 := S.d.cell 0 rfl
  clear S
  have t0 := S0.out.i.s.cell 0 rfl
  have t1 := S0.out.i.s.cell 1 rfl
  have t2 := S0.out.i.s.cell 2 rfl
  have t3 := S0.out.i.s.cell 3 rfl
  have t4 := S0.out.i.s.cell 4 rfl
  have X := hidD (Blk.new u 56 [.string ⟨#[97]⟩, .bool false, .int .i64 1, .int .i64 3, .int .i64 0])
  have BB := hidD (box_below u #[.string ⟨#[97]⟩, .bool false, .int .i64 1, .int .i64 3, .int .i64 0] 56)
  have S1 := hidD (S0.out.below BB.out)
  have q3 := S1.out.d.cell 3 rfl
  have qa := S1.out.a.cell 0 rfl
  go_enter Tryz.func99, Tryz.ntmps99
  go_wp2
  refine wp_loop_rounds 3 ?_
  rw [rounds_succ]
  go_wp2
  generalize hU0 : u.alloc (.cells #[.string ⟨#[97]⟩, .bool false, .int .i64 1, .int .i64 3, .int .i64 0] 56) = u1 at *
  clear X BB t0 t1 t2 t3 t4 q3 qa
  have t0 := S1.out.i.s.cell 5 rfl
  have t1 := S1.out.i.s.cell 6 rfl
  have t2 := S1.out.i.s.cell 7 rfl
  have t3 := S1.out.i.s.cell 8 rfl
  have t4 := S1.out.i.s.cell 9 rfl
  have X := hidD (Blk.new u1 56 [.string ⟨#[98]⟩, .bool false, .int .i64 2, .int .i64 3, .int .i64 0])
  have BB := hidD (box_below u1 #[.string ⟨#[98]⟩, .bool false, .int .i64 2, .int .i64 3, .int .i64 0] 56)
  have S2 := hidD (S1.out.below BB.out)
  have q3 := S2.out.d.cell 3 rfl
  have qa := S2.out.a.cell 1 rfl
  rw [rounds_succ]
  go_wp2
  generalize hU1 : u1.alloc (.cells #[.string ⟨#[98]⟩, .bool false, .int .i64 2, .int .i64 3, .int .i64 0] 56) = u2 at *
  clear X BB t0 t1 t2 t3 t4 q3 qa
  rw [rounds_succ]
  go_wp2
  refine bodyPost_end (results_none rfl _ _ _) rfl ?_
  exact ⟨rfl, S2.out⟩

set_option maxHeartbeats 4000000 in
set_option maxRecDepth 100000 in
theorem makeDirs_swap {w0 u : World} {D A B C E bs bt : Nat} {lv cm : List Value} {stv : Value} {n : Nat} {st : List Value} (S : Dst w0 u D A B C E bs bt lv cm stv n st) :
    Calls Tryz.prog 101 #[.pointer (some ⟨D, 0, none⟩)] u fun e w' => e = .returned (.tuple #[]) ∧ Dst w0 w' D A B C E bs bt lv cm stv n st := by
  have S0 := hidD S
  have r0 := S.d.cell 1 rfl
  clear S
  have t0 := S0.out.i.t.cell 0 rfl
  have t1 := S0.out.i.t.cell 1 rfl
  have t2 := S0.out.i.t.cell 2 rfl
  have t3 := S0.out.i.t.cell 3 rfl
  have t4 := S0.out.i.t.cell 4 rfl
  have X := hidD (Blk.new u 56 [.string ⟨#[97]⟩, .bool false, .int .i64 2, .int .i64 3, .int .i64 0])
  have BB := hidD (box_below u #[.string ⟨#[97]⟩, .bool false, .int .i64 2, .int .i64 3, .int .i64 0] 56)
  have S1 := hidD (S0.out.below BB.out)
  have q1 := X.out.cell 1 rfl
  go_enter Tryz.func101, Tryz.ntmps101
  go_wp2
  refine wp_loop_rounds 3 ?_
  rw [rounds_succ]
  go_wp2
  generalize hU0 : u.alloc (.cells #[.string ⟨#[97]⟩, .bool false, .int .i64 2, .int .i64 3, .int .i64 0] 56) = u1 at *
  clear X BB t0 t1 t2 t3 t4 q1
  have t0 := S1.out.i.t.cell 5 rfl
  have t1 := S1.out.i.t.cell 6 rfl
  have t2 := S1.out.i.t.cell 7 rfl
  have t3 := S1.out.i.t.cell 8 rfl
  have t4 := S1.out.i.t.cell 9 rfl
  have X := hidD (Blk.new u1 56 [.string ⟨#[98]⟩, .bool false, .int .i64 1, .int .i64 3, .int .i64 0])
  have BB := hidD (box_below u1 #[.string ⟨#[98]⟩, .bool false, .int .i64 1, .int .i64 3, .int .i64 0] 56)
  have S2 := hidD (S1.out.below BB.out)
  have q1 := X.out.cell 1 rfl
  rw [rounds_succ]
  go_wp2
  generalize hU1 : u1.alloc (.cells #[.string ⟨#[98]⟩, .bool false, .int .i64 1, .int .i64 3, .int .i64 0] 56) = u2 at *
  clear X BB t0 t1 t2 t3 t4 q1
  rw [rounds_succ]
  go_wp2
  refine bodyPost_end (results_none rfl _ _ _) rfl ?_
  exact ⟨rfl, S2.out⟩

set_option maxHeartbeats 4000000 in
set_option maxRecDepth 100000 in
theorem fillFiles_swap {w0 u : World} {D A B C E bs bt : Nat} {lv cm : List Value} {stv : Value} {n : Nat} {st : List Value} (S : Dst w0 u D A B C E bs bt lv cm stv n st) :
    Calls Tryz.prog 102 #[.pointer (some ⟨D, 0, none⟩)] u fun e w' => e = .returned (.tuple #[]) ∧ Dst w0 w' D A B C E bs bt lv cm stv n st := by
  have S0 := hidD S
  have r0 := S.d.cell 1 rfl
  clear S
  have t0 := S0.out.i.t.cell 0 rfl
  have t1 := S0.out.i.t.cell 1 rfl
  have t2 := S0.out.i.t.cell 2 rfl
  have t3 := S0.out.i.t.cell 3 rfl
  have t4 := S0.out.i.t.cell 4 rfl
  have X := hidD (Blk.new u 56 [.string ⟨#[97]⟩, .bool false, .int .i64 2, .int .i64 3, .int .i64 0])
  have BB := hidD (box_below u #[.string ⟨#[97]⟩, .bool false, .int .i64 2, .int .i64 3, .int .i64 0] 56)
  have S1 := hidD (S0.out.below BB.out)
  have q1 := X.out.cell 1 rfl
  have q4 := S1.out.d.cell 4 rfl
  have qb := S1.out.b.cell 0 rfl
  go_enter Tryz.func102, Tryz.ntmps102
  go_wp2
  refine wp_loop_rounds 3 ?_
  rw [rounds_succ]
  go_wp2
  generalize hU0 : u.alloc (.cells #[.string ⟨#[97]⟩, .bool false, .int .i64 2, .int .i64 3, .int .i64 0] 56) = u1 at *
  clear X BB t0 t1 t2 t3 t4 q1 q4 qb
  have t0 := S1.out.i.t.cell 5 rfl
  have t1 := S1.out.i.t.cell 6 rfl
  have t2 := S1.out.i.t.cell 7 rfl
  have t3 := S1.out.i.t.cell 8 rfl
  have t4 := S1.out.i.t.cell 9 rfl
  have X := hidD (Blk.new u1 56 [.string ⟨#[98]⟩, .bool false, .int .i64 1, .int .i64 3, .int .i64 0])
  have BB := hidD (box_below u1 #[.string ⟨#[98]⟩, .bool false, .int .i64 1, .int .i64 3, .int .i64 0] 56)
  have S2 := hidD (S1.out.below BB.out)
  have q1 := X.out.cell 1 rfl
  have q4 := S2.out.d.cell 4 rfl
  have qb := S2.out.b.cell 1 rfl
  rw [rounds_succ]
  go_wp2
  generalize hU1 : u1.alloc (.cells #[.string ⟨#[98]⟩, .bool false, .int .i64 1, .int .i64 3, .int .i64 0] 56) = u2 at *
  clear X BB t0 t1 t2 t3 t4 q1 q4 qb
  rw [rounds_succ]
  go_wp2
  refine bodyPost_end (results_none rfl _ _ _) rfl ?_
  exact ⟨rfl, S2.out⟩

end Go.Proofs.YtpjjagalekolaaaGreatDoor

/- The planner at two files that change their names: each moves. -/
namespace Go.Proofs.YtpjjagalekolaaaGreatDoor
open Go.RowKit
set_option linter.unusedVariables false
set_option linter.unusedSimpArgs false

set_option maxHeartbeats 4000000 in
set_option maxRecDepth 100000 in
theorem moves_0 {w0 u : World} {D A B C E bs bt : Nat} {lv cm : List Value} {stv : Value} {n : Nat} {st : List Value} (S : Dst w0 u D A B C E bs bt lv cm stv n st) :
    Calls Tryz.prog 151 #[.pointer (some ⟨D, 0, none⟩), .int .i64 0] u fun e w' => e = .returned (.bool true) ∧ ∃ m, w' = u.drewN m := by
  have c0 := S.d.cell 0 rfl
  have c1 := S.d.cell 1 rfl
  have c2 := S.d.cell 2 rfl
  have c3 := S.d.cell 3 rfl
  have ca := S.a.cell 0 rfl
  have cs := S.i.s.cell 0 rfl
  have ct := S.i.t.cell 5 rfl
  have hsm : sameB false (⟨#[97]⟩ : ByteArray).data.toList (⟨#[98]⟩ : ByteArray).data.toList = false := by kernel_rfl
  clear S
  go_enter Tryz.func151, Tryz.ntmps151
  go_wp2
  go_region_held3 (fun v => v.cell? ⟨D, 0, none⟩ = some (.slice (some ⟨bs, 0, none⟩) 2 2) ∧ v.cell? ⟨D, 1, none⟩ = some (.slice (some ⟨bt, 0, none⟩) 2 2) ∧ v.cell? ⟨D, 2, none⟩ = some (.bool false) ∧ v.cell? ⟨bs, 0, none⟩ = some (.string ⟨#[97]⟩) ∧ v.cell? ⟨bt, 5, none⟩ = some (.string ⟨#[98]⟩)) (go_keep) (first | (go_at_call 189; refine (same_any _ _ false _ (by decide) (by decide)).mono ?_; rintro e w1 ⟨rfl, m, rfl⟩; rw [hsm]))
  go_wp2
  go_ret
  exact ⟨rfl, _, rfl⟩

set_option maxHeartbeats 4000000 in
set_option maxRecDepth 100000 in
theorem moves_1 {w0 u : World} {D A B C E bs bt : Nat} {lv cm : List Value} {stv : Value} {n : Nat} {st : List Value} (S : Dst w0 u D A B C E bs bt lv cm stv n st) :
    Calls Tryz.prog 151 #[.pointer (some ⟨D, 0, none⟩), .int .i64 1] u fun e w' => e = .returned (.bool true) ∧ ∃ m, w' = u.drewN m := by
  have c0 := S.d.cell 0 rfl
  have c1 := S.d.cell 1 rfl
  have c2 := S.d.cell 2 rfl
  have c3 := S.d.cell 3 rfl
  have ca := S.a.cell 1 rfl
  have cs := S.i.s.cell 5 rfl
  have ct := S.i.t.cell 0 rfl
  have hsm : sameB false (⟨#[98]⟩ : ByteArray).data.toList (⟨#[97]⟩ : ByteArray).data.toList = false := by kernel_rfl
  clear S
  go_enter Tryz.func151, Tryz.ntmps151
  go_wp2
  go_region_held3 (fun v => v.cell? ⟨D, 0, none⟩ = some (.slice (some ⟨bs, 0, none⟩) 2 2) ∧ v.cell? ⟨D, 1, none⟩ = some (.slice (some ⟨bt, 0, none⟩) 2 2) ∧ v.cell? ⟨D, 2, none⟩ = some (.bool false) ∧ v.cell? ⟨bs, 5, none⟩ = some (.string ⟨#[98]⟩) ∧ v.cell? ⟨bt, 0, none⟩ = some (.string ⟨#[97]⟩)) (go_keep) (first | (go_at_call 189; refine (same_any _ _ false _ (by decide) (by decide)).mono ?_; rintro e w1 ⟨rfl, m, rfl⟩; rw [hsm]))
  go_wp2
  go_ret
  exact ⟨rfl, _, rfl⟩

end Go.Proofs.YtpjjagalekolaaaGreatDoor

/- The planner at two files that change their names: both are carried over. -/
namespace Go.Proofs.YtpjjagalekolaaaGreatDoor
open Go.RowKit
set_option linter.unusedVariables false
set_option linter.unusedSimpArgs false

/-- The lists of steps that bring and take, set anew. -/
theorem Dst.setE {w0 u : World} {D A B C E bs bt : Nat} {lv cm : List Value} {stv : Value} {n : Nat} {st : List Value} (h : Dst w0 u D A B C E bs bt lv cm stv n st) (j : Nat) (v : Value) (hj : j < cm.length) : Dst w0 (u.setCell ⟨E, j, none⟩ v) D A B C E bs bt lv (cm.set j v) stv n st := by
  obtain ⟨n1, n2, n3, n4, n5⟩ := h.ne
  exact ⟨below_set h.bel _ _ _ h.bel.size h.ge.2.2.2.2, h.ge, h.ne, h.d.other j v (h.d.ne h.e (by decide)), h.a.other j v n2, h.b.other j v n4, h.c.other j v n5, h.e.set j v hj, ⟨h.i.s.other j v (h.i.s.ne h.e (by decide)), h.i.t.other j v (h.i.t.ne h.e (by decide))⟩, row_blk h.e h.st (by decide) (gb_set _ _ _ _)⟩
theorem Dst.setC {w0 u : World} {D A B C E bs bt : Nat} {lv cm : List Value} {stv : Value} {n : Nat} {st : List Value} (h : Dst w0 u D A B C E bs bt lv cm stv n st) (j : Nat) (v : Value) (hj : j < lv.length) : Dst w0 (u.setCell ⟨C, j, none⟩ v) D A B C E bs bt (lv.set j v) cm stv n st := by
  obtain ⟨n1, n2, n3, n4, n5⟩ := h.ne
  exact ⟨below_set h.bel _ _ _ h.bel.size h.ge.2.2.2.1, h.ge, h.ne, h.d.other j v (h.d.ne h.c (by decide)), h.a.other j v n1, h.b.other j v n3, h.c.set j v hj, h.e.other j v (fun e => n5 e.symm), ⟨h.i.s.other j v (h.i.s.ne h.c (by decide)), h.i.t.other j v (h.i.t.ne h.c (by decide))⟩, row_blk h.c h.st (by decide) (gb_set _ _ _ _)⟩

set_option maxHeartbeats 4000000 in
set_option maxRecDepth 100000 in
theorem carryOver_swap {w0 u : World} {D A B C E bs bt : Nat} {stv : Value} (S : Dst w0 u D A B C E bs bt [.int .i64 (-1), .int .i64 (-1)] [.int .i64 (-1), .int .i64 (-1)] stv 0 []) :
    Calls Tryz.prog 100 #[.pointer (some ⟨D, 0, none⟩)] u fun e w' => e = .returned (.tuple #[]) ∧ ∃ stv', Dst w0 w' D A B C E bs bt [.int .i64 0, .int .i64 1] [.int .i64 1, .int .i64 0] stv' 2 (stepC 6 ⟨#[97]⟩ ⟨#[98]⟩ ++ stepC 6 ⟨#[98]⟩ ⟨#[97]⟩) := by
  have S0 := hidD S
  have r0 := S.d.cell 0 rfl
  clear S
  have t0 := S0.out.i.s.cell 0 rfl
  have t1 := S0.out.i.s.cell 1 rfl
  have t2 := S0.out.i.s.cell 2 rfl
  have t3 := S0.out.i.s.cell 3 rfl
  have t4 := S0.out.i.s.cell 4 rfl
  have X := hidD (Blk.new u 56 [.string ⟨#[97]⟩, .bool false, .int .i64 1, .int .i64 3, .int .i64 0])
  have BB := hidD (box_below u #[.string ⟨#[97]⟩, .bool false, .int .i64 1, .int .i64 3, .int .i64 0] 56)
  have S1 := hidD (S0.out.below BB.out)
  have q3 := S1.out.d.cell 3 rfl
  have qa := S1.out.a.cell 0 rfl
  have q1 := S1.out.d.cell 1 rfl
  have v0 := S1.out.i.t.cell 5 rfl
  have v1 := S1.out.i.t.cell 6 rfl
  have v2 := S1.out.i.t.cell 7 rfl
  have v3 := S1.out.i.t.cell 8 rfl
  have v4 := S1.out.i.t.cell 9 rfl
  have BY := hidD (box_below (u.alloc (.cells #[.string ⟨#[97]⟩, .bool false, .int .i64 1, .int .i64 3, .int .i64 0] 56)) #[.string ⟨#[98]⟩, .bool false, .int .i64 1, .int .i64 3, .int .i64 0] 56)
  have Y : Hid (Blk ((u.alloc (.cells #[.string ⟨#[97]⟩, .bool false, .int .i64 1, .int .i64 3, .int .i64 0] 56)).alloc (.cells #[.string ⟨#[98]⟩, .bool false, .int .i64 1, .int .i64 3, .int .i64 0] 56)) (u.heap.size + 1) 56 [.string ⟨#[98]⟩, .bool false, .int .i64 1, .int .i64 3, .int .i64 0]) := by
    have := Blk.new (u.alloc (.cells #[.string ⟨#[97]⟩, .bool false, .int .i64 1, .int .i64 3, .int .i64 0] 56)) 56 [.string ⟨#[98]⟩, .bool false, .int .i64 1, .int .i64 3, .int .i64 0]
    rw [World.size_alloc] at this
    exact this
  have X1 := hidD (X.out.below BY.out)
  have S2 := hidD (S1.out.below BY.out)
  go_enter Tryz.func100, Tryz.ntmps100
  go_wp2
  refine wp_loop_rounds 3 ?_
  rw [rounds_succ]
  go_wp2
  generalize hU2 : ((u.alloc (.cells #[.string ⟨#[97]⟩, .bool false, .int .i64 1, .int .i64 3, .int .i64 0] 56)).alloc (.cells #[.string ⟨#[98]⟩, .bool false, .int .i64 1, .int .i64 3, .int .i64 0] 56)) = u2 at *
  clear hU2 q3 qa q1 t0 t1 t2 t3 t4 v0 v1 v2 v3 v4
  have g0 := S2.out.d.cell 0 rfl
  go_quiet (first | (go_at_call 151; exact Calls.quiet_of (moves_0 (S2.out.below (below_drewNB _ _)))))
  have S3 := hidD (S2.out.below (below_drewNB u2 nq))
  have X3 := hidD (X1.out.below (below_drewNB u2 nq))
  have Y3 := hidD (Y.out.below (below_drewNB u2 nq))
  generalize hU3 : u2.drewN nq = u3 at *
  go_wp2
  have h7 := S3.out.d.cell 7 rfl
  have h0 := X3.out.cell 0 rfl
  have k0 := Y3.out.cell 0 rfl
  have nED : E ≠ D := fun e => S3.out.d.ne S3.out.e (by decide) e.symm
  have nDE : D ≠ E := fun e => nED e.symm
  have nXE : ¬ u.heap.size = E := fun e => X3.out.ne S3.out.e (by decide) e
  have nEX : ¬ E = u.heap.size := fun e => nXE e.symm
  have nYE : ¬ u.heap.size + 1 = E := fun e => Y3.out.ne S3.out.e (by decide) e
  have nEY : ¬ E = u.heap.size + 1 := fun e => nYE e.symm
  go_region_held3 (fun v => v.cell? ⟨D, 7, none⟩ = some (.slice (some ⟨E, 0, none⟩) 2 2) ∧ v.cell? ⟨u.heap.size, 0, none⟩ = some (.string ⟨#[97]⟩) ∧ v.cell? ⟨u.heap.size + 1, 0, none⟩ = some (.string ⟨#[98]⟩)) (go_keep) (first | (go_at_call 150; refine (add_any (S3.out.below (below_drewB _)) (by decide) 6 ⟨#[97]⟩ ⟨#[98]⟩).mono ?_; rintro e u4 ⟨rfl, stv4, hS4, hF4⟩; have S4 := hidD hS4; have X4 := hidD (hF4 _ _ _ (X3.out.below (below_drewB _)) (by decide) (by decide)); have Y4 := hidD (hF4 _ _ _ (Y3.out.below (below_drewB _)) (by decide) (by decide)); have l7 := S4.out.d.cell 7 rfl; have l0 := X4.out.cell 0 rfl; have m0 := Y4.out.cell 0 rfl; have le := S4.out.e.cell 1 rfl; have lf := S4.out.e.frozen 1; clear hS4 hF4))
  have S5 := hidD (S4.out.setE 1 (.int .i64 0) (by simp))
  have X5 := hidD (X4.out.other (b' := E) 1 (.int .i64 0) nXE)
  have Y5 := hidD (Y4.out.other (b' := E) 1 (.int .i64 0) nYE)
  go_wp2_with fail
  refine (moves_0 S5.out).mono ?_
  rintro e u6 ⟨rfl, m, hu6⟩
  have hb6 : Below (u4.setCell ⟨E, 1, none⟩ (.int .i64 0)).heap.size (u4.setCell ⟨E, 1, none⟩ (.int .i64 0)) u6 := by rw [hu6]; exact below_drewNB _ _
  have S6 := hidD (S5.out.below hb6)
  have X6 := hidD (X5.out.below hb6)
  have Y6 := hidD (Y5.out.below hb6)
  clear hu6 hb6
  have p6 := S6.out.d.cell 6 rfl
  have p7 := S6.out.d.cell 7 rfl
  have pe := S6.out.e.cell 1 rfl
  have pc := S6.out.c.cell 0 rfl
  have pf := S6.out.c.frozen 0
  have nCD : C ≠ D := fun e => S6.out.d.ne S6.out.c (by decide) e.symm
  have nDC : D ≠ C := fun e => nCD e.symm
  have nCE : C ≠ E := S6.out.ne.2.2.2.2
  have nEC : E ≠ C := fun e => nCE e.symm
  have nXC : ¬ u.heap.size = C := fun e => X6.out.ne S6.out.c (by decide) e
  have nYC : ¬ u.heap.size + 1 = C := fun e => Y6.out.ne S6.out.c (by decide) e
  have S7 := hidD ((S6.out.setC 0 (.int .i64 0) (by simp)).below (below_drewB _))
  have X7 := hidD ((X6.out.other (b' := C) 0 (.int .i64 0) nXC).below (below_drewB _))
  have Y7 := hidD ((Y6.out.other (b' := C) 0 (.int .i64 0) nYC).below (below_drewB _))
  go_wp2
  go_region_held3 (fun v => v.cell? ⟨D, 6, none⟩ = some (.slice (some ⟨C, 0, none⟩) 2 2) ∧ v.cell? ⟨D, 7, none⟩ = some (.slice (some ⟨E, 0, none⟩) 2 2) ∧ v.cell? ⟨E, 1, none⟩ = some (.int .i64 0)) (go_keep) (first | fail)
  generalize hU7 : (u6.setCell ⟨C, 0, none⟩ (.int .i64 0)).drew = u7 at *
  have b4 := X7.out.cell 4 rfl
  have b5 := Y7.out.cell 4 rfl
  go_wp2
  have T0 := S7
  clear S7 S6 S5 S4 S3 S2 S1 S0 X X1 X3 X4 X5 X6 X7 Y Y3 Y4 Y5 Y6 Y7 BB BY hU7 hU3 g0 h7 h0 k0 nED nDE nXE nEX nYE nEY l7 l0 m0 le lf p6 p7 pe pc pf nCD nDC nCE nEC nXC nYC b4 b5 r0
  have t0 := T0.out.i.s.cell 5 rfl
  have t1 := T0.out.i.s.cell 6 rfl
  have t2 := T0.out.i.s.cell 7 rfl
  have t3 := T0.out.i.s.cell 8 rfl
  have t4 := T0.out.i.s.cell 9 rfl
  have X := hidD (Blk.new u7 56 [.string ⟨#[98]⟩, .bool false, .int .i64 2, .int .i64 3, .int .i64 0])
  have BB := hidD (box_below u7 #[.string ⟨#[98]⟩, .bool false, .int .i64 2, .int .i64 3, .int .i64 0] 56)
  have S1 := hidD (T0.out.below BB.out)
  have q3 := S1.out.d.cell 3 rfl
  have qa := S1.out.a.cell 1 rfl
  have q1 := S1.out.d.cell 1 rfl
  have v0 := S1.out.i.t.cell 0 rfl
  have v1 := S1.out.i.t.cell 1 rfl
  have v2 := S1.out.i.t.cell 2 rfl
  have v3 := S1.out.i.t.cell 3 rfl
  have v4 := S1.out.i.t.cell 4 rfl
  have BY := hidD (box_below (u7.alloc (.cells #[.string ⟨#[98]⟩, .bool false, .int .i64 2, .int .i64 3, .int .i64 0] 56)) #[.string ⟨#[97]⟩, .bool false, .int .i64 2, .int .i64 3, .int .i64 0] 56)
  have Y : Hid (Blk ((u7.alloc (.cells #[.string ⟨#[98]⟩, .bool false, .int .i64 2, .int .i64 3, .int .i64 0] 56)).alloc (.cells #[.string ⟨#[97]⟩, .bool false, .int .i64 2, .int .i64 3, .int .i64 0] 56)) (u7.heap.size + 1) 56 [.string ⟨#[97]⟩, .bool false, .int .i64 2, .int .i64 3, .int .i64 0]) := by
    have := Blk.new (u7.alloc (.cells #[.string ⟨#[98]⟩, .bool false, .int .i64 2, .int .i64 3, .int .i64 0] 56)) 56 [.string ⟨#[97]⟩, .bool false, .int .i64 2, .int .i64 3, .int .i64 0]
    rw [World.size_alloc] at this
    exact this
  have X1 := hidD (X.out.below BY.out)
  have S2 := hidD (S1.out.below BY.out)
  rw [rounds_succ]
  go_wp2
  generalize hU2 : ((u7.alloc (.cells #[.string ⟨#[98]⟩, .bool false, .int .i64 2, .int .i64 3, .int .i64 0] 56)).alloc (.cells #[.string ⟨#[97]⟩, .bool false, .int .i64 2, .int .i64 3, .int .i64 0] 56)) = x2 at *
  clear hU2 q3 qa q1 t0 t1 t2 t3 t4 v0 v1 v2 v3 v4
  have g0 := S2.out.d.cell 0 rfl
  go_quiet (first | (go_at_call 151; exact Calls.quiet_of (moves_1 (S2.out.below (below_drewNB _ _)))))
  have S3 := hidD (S2.out.below (below_drewNB x2 nq))
  have X3 := hidD (X1.out.below (below_drewNB x2 nq))
  have Y3 := hidD (Y.out.below (below_drewNB x2 nq))
  generalize hU3 : x2.drewN nq = x3 at *
  go_wp2
  have h7 := S3.out.d.cell 7 rfl
  have h0 := X3.out.cell 0 rfl
  have k0 := Y3.out.cell 0 rfl
  have nED : E ≠ D := fun e => S3.out.d.ne S3.out.e (by decide) e.symm
  have nDE : D ≠ E := fun e => nED e.symm
  have nXE : ¬ u7.heap.size = E := fun e => X3.out.ne S3.out.e (by decide) e
  have nEX : ¬ E = u7.heap.size := fun e => nXE e.symm
  have nYE : ¬ u7.heap.size + 1 = E := fun e => Y3.out.ne S3.out.e (by decide) e
  have nEY : ¬ E = u7.heap.size + 1 := fun e => nYE e.symm
  go_region_held3 (fun v => v.cell? ⟨D, 7, none⟩ = some (.slice (some ⟨E, 0, none⟩) 2 2) ∧ v.cell? ⟨u7.heap.size, 0, none⟩ = some (.string ⟨#[98]⟩) ∧ v.cell? ⟨u7.heap.size + 1, 0, none⟩ = some (.string ⟨#[97]⟩)) (go_keep) (first | (go_at_call 150; refine (add_any (S3.out.below (below_drewB _)) (by decide) 6 ⟨#[98]⟩ ⟨#[97]⟩).mono ?_; rintro e x4 ⟨rfl, stv4, hS4, hF4⟩; have S4 := hidD hS4; have X4 := hidD (hF4 _ _ _ (X3.out.below (below_drewB _)) (by decide) (by decide)); have Y4 := hidD (hF4 _ _ _ (Y3.out.below (below_drewB _)) (by decide) (by decide)); have l7 := S4.out.d.cell 7 rfl; have l0 := X4.out.cell 0 rfl; have m0 := Y4.out.cell 0 rfl; have le := S4.out.e.cell 0 rfl; have lf := S4.out.e.frozen 0; clear hS4 hF4))
  have S5 := hidD (S4.out.setE 0 (.int .i64 1) (by simp))
  have X5 := hidD (X4.out.other (b' := E) 0 (.int .i64 1) nXE)
  have Y5 := hidD (Y4.out.other (b' := E) 0 (.int .i64 1) nYE)
  go_wp2_with fail
  refine (moves_1 S5.out).mono ?_
  rintro e x6 ⟨rfl, m, hx6⟩
  have hb6 : Below (x4.setCell ⟨E, 0, none⟩ (.int .i64 1)).heap.size (x4.setCell ⟨E, 0, none⟩ (.int .i64 1)) x6 := by rw [hx6]; exact below_drewNB _ _
  have S6 := hidD (S5.out.below hb6)
  have X6 := hidD (X5.out.below hb6)
  have Y6 := hidD (Y5.out.below hb6)
  clear hx6 hb6
  have p6 := S6.out.d.cell 6 rfl
  have p7 := S6.out.d.cell 7 rfl
  have pe := S6.out.e.cell 0 rfl
  have pc := S6.out.c.cell 1 rfl
  have pf := S6.out.c.frozen 1
  have nCD : C ≠ D := fun e => S6.out.d.ne S6.out.c (by decide) e.symm
  have nDC : D ≠ C := fun e => nCD e.symm
  have nCE : C ≠ E := S6.out.ne.2.2.2.2
  have nEC : E ≠ C := fun e => nCE e.symm
  have nXC : ¬ u7.heap.size = C := fun e => X6.out.ne S6.out.c (by decide) e
  have nYC : ¬ u7.heap.size + 1 = C := fun e => Y6.out.ne S6.out.c (by decide) e
  have S7 := hidD ((S6.out.setC 1 (.int .i64 1) (by simp)).below (below_drewB _))
  have X7 := hidD ((X6.out.other (b' := C) 1 (.int .i64 1) nXC).below (below_drewB _))
  have Y7 := hidD ((Y6.out.other (b' := C) 1 (.int .i64 1) nYC).below (below_drewB _))
  go_wp2
  go_region_held3 (fun v => v.cell? ⟨D, 6, none⟩ = some (.slice (some ⟨C, 0, none⟩) 2 2) ∧ v.cell? ⟨D, 7, none⟩ = some (.slice (some ⟨E, 0, none⟩) 2 2) ∧ v.cell? ⟨E, 0, none⟩ = some (.int .i64 1)) (go_keep) (first | fail)
  generalize hU7 : (x6.setCell ⟨C, 1, none⟩ (.int .i64 1)).drew = x7 at *
  have b4 := X7.out.cell 4 rfl
  have b5 := Y7.out.cell 4 rfl
  go_wp2
  rw [rounds_succ]
  go_wp2
  refine bodyPost_end (results_none rfl _ _ _) rfl ?_
  exact ⟨rfl, _, S7.out⟩
end Go.Proofs.YtpjjagalekolaaaGreatDoor

/- The planner at two files that change their names: what waits for what. -/
namespace Go.Proofs.YtpjjagalekolaaaGreatDoor
open Go.RowKit
set_option linter.unusedVariables false
set_option linter.unusedSimpArgs false

theorem par_a : parentB (⟨#[97]⟩ : ByteArray) = ⟨#[]⟩ := by kernel_rfl
theorem par_b : parentB (⟨#[98]⟩ : ByteArray) = ⟨#[]⟩ := by kernel_rfl
theorem parent0 (w : World) : Calls Tryz.prog 156 #[.string ⟨#[97]⟩] w fun e w' => e = .returned (.string ⟨#[]⟩) ∧ w' = w := by
  have := parent_any ⟨#[97]⟩ w (by decide) (by decide)
  rwa [par_a] at this
theorem parent1 (w : World) : Calls Tryz.prog 156 #[.string ⟨#[98]⟩] w fun e w' => e = .returned (.string ⟨#[]⟩) ∧ w' = w := by
  have := parent_any ⟨#[98]⟩ w (by decide) (by decide)
  rwa [par_b] at this
theorem find_sE : fstI (fun o => sameB false o.path.data.toList (⟨#[]⟩ : ByteArray).data.toList) sD = -1 := by kernel_rfl
theorem find_tE : fstI (fun o => sameB false o.path.data.toList (⟨#[]⟩ : ByteArray).data.toList) tD = -1 := by kernel_rfl
theorem Inp.findE {u : World} {bs bt : Nat} (h : Inp u bs bt) : Calls Tryz.prog 155 #[.slice (some ⟨bs, 0, none⟩) 2 2, .string ⟨#[]⟩, .bool false] u fun e w' => e = .returned (.int .i64 (-1)) ∧ Below u.heap.size u w' := by
  have := find_any bs 0 2 sD ⟨#[]⟩ false u (by decide) sD_small (by decide) h.s.lt h.es
  rwa [find_sE] at this
theorem Inp.findT {u : World} {bs bt : Nat} (h : Inp u bs bt) : Calls Tryz.prog 155 #[.slice (some ⟨bt, 0, none⟩) 2 2, .string ⟨#[]⟩, .bool false] u fun e w' => e = .returned (.int .i64 (-1)) ∧ Below u.heap.size u w' := by
  have := find_any bt 0 2 tD ⟨#[]⟩ false u (by decide) tD_small (by decide) h.t.lt h.et
  rwa [find_tE] at this

set_option maxHeartbeats 4000000 in
set_option maxRecDepth 100000 in
theorem waitForEmpty_swap {w0 u : World} {D A B C E bs bt : Nat} {lv cm : List Value} {stv : Value} {n : Nat} {st : List Value} (S : Dst w0 u D A B C E bs bt lv cm stv n st) :
    Calls Tryz.prog 103 #[.pointer (some ⟨D, 0, none⟩)] u fun e w' => e = .returned (.tuple #[]) ∧ Dst w0 w' D A B C E bs bt lv cm stv n st := by
  have S0 := hidD S
  have r0 := S.d.cell 0 rfl
  clear S
  have t0 := S0.out.i.s.cell 0 rfl
  have t1 := S0.out.i.s.cell 1 rfl
  have t2 := S0.out.i.s.cell 2 rfl
  have t3 := S0.out.i.s.cell 3 rfl
  have t4 := S0.out.i.s.cell 4 rfl
  have X := hidD (Blk.new u 56 [.string ⟨#[97]⟩, .bool false, .int .i64 1, .int .i64 3, .int .i64 0])
  have BB := hidD (box_below u #[.string ⟨#[97]⟩, .bool false, .int .i64 1, .int .i64 3, .int .i64 0] 56)
  have S1 := hidD (S0.out.below BB.out)
  have q0 := S1.out.d.cell 0 rfl
  have x0 := X.out.cell 0 rfl
  go_enter Tryz.func103, Tryz.ntmps103
  go_wp2
  refine wp_loop_rounds 3 ?_
  rw [rounds_succ]
  go_wp2
  generalize hU : u.alloc (.cells #[.string ⟨#[97]⟩, .bool false, .int .i64 1, .int .i64 3, .int .i64 0] 56) = v0 at *
  go_region_held3 (fun v => v.cell? ⟨D, 0, none⟩ = some (.slice (some ⟨bs, 0, none⟩) 2 2) ∧ v.cell? ⟨u.heap.size, 0, none⟩ = some (.string ⟨#[97]⟩)) (go_keep) (first | (go_at_call 156; refine (parent0 _).mono ?_; rintro e z ⟨rfl, hz⟩; rw [hz]; clear hz z) | (go_at_call 155; refine ((S1.out.below (below_drewB _)).i.findE).mono ?_; rintro e w1 ⟨rfl, hb⟩; have T1 := hidD ((S1.out.below (below_drewB _)).below hb); have X2 := hidD ((X.out.below (below_drewB _)).below hb); have z0 := T1.out.d.cell 0 rfl; have z1 := X2.out.cell 0 rfl; clear hb))
  go_wp2
  clear X X2 BB S1 q0 x0 t0 t1 t2 t3 t4 z0 z1 hU
  have t0 := T1.out.i.s.cell 5 rfl
  have t1 := T1.out.i.s.cell 6 rfl
  have t2 := T1.out.i.s.cell 7 rfl
  have t3 := T1.out.i.s.cell 8 rfl
  have t4 := T1.out.i.s.cell 9 rfl
  have X := hidD (Blk.new w1 56 [.string ⟨#[98]⟩, .bool false, .int .i64 2, .int .i64 3, .int .i64 0])
  have BB := hidD (box_below w1 #[.string ⟨#[98]⟩, .bool false, .int .i64 2, .int .i64 3, .int .i64 0] 56)
  have S1 := hidD (T1.out.below BB.out)
  have q0 := S1.out.d.cell 0 rfl
  have x0 := X.out.cell 0 rfl
  rw [rounds_succ]
  go_wp2
  generalize hU : w1.alloc (.cells #[.string ⟨#[98]⟩, .bool false, .int .i64 2, .int .i64 3, .int .i64 0] 56) = v1 at *
  go_region_held3 (fun v => v.cell? ⟨D, 0, none⟩ = some (.slice (some ⟨bs, 0, none⟩) 2 2) ∧ v.cell? ⟨w1.heap.size, 0, none⟩ = some (.string ⟨#[98]⟩)) (go_keep) (first | (go_at_call 156; refine (parent1 _).mono ?_; rintro e z ⟨rfl, hz⟩; rw [hz]; clear hz z) | (go_at_call 155; refine ((S1.out.below (below_drewB _)).i.findE).mono ?_; rintro e w2 ⟨rfl, hb⟩; have T2 := hidD ((S1.out.below (below_drewB _)).below hb); have X2 := hidD ((X.out.below (below_drewB _)).below hb); have z0 := T2.out.d.cell 0 rfl; have z1 := X2.out.cell 0 rfl; clear hb))
  go_wp2
  clear X X2 BB S1 q0 x0 t0 t1 t2 t3 t4 z0 z1 hU
  rw [rounds_succ]
  go_wp2
  refine bodyPost_end (results_none rfl _ _ _) rfl ?_
  exact ⟨rfl, T2.out⟩

end Go.Proofs.YtpjjagalekolaaaGreatDoor

/- The planner at two files that change their names: a step waits for another. -/
namespace Go.Proofs.YtpjjagalekolaaaGreatDoor
open Go.RowKit
set_option linter.unusedVariables false
set_option linter.unusedSimpArgs false

theorem blk_of_row {u : World} {B e s g n c : Nat} {xs : List Value} (h : u.ownsRow B e s (.slice (some ⟨g, 0, none⟩) n c) n xs) : Blk u g e xs := by
  rcases h.2 with ⟨h', _⟩ | ⟨g', cap, cur, h', hB, hg, hn, hm, hs, hp⟩
  · cases h'
  · cases h'
    refine ⟨cur, hg, fun j v hv => ?_⟩
    have hc := h.cellAt j (by have := h.1; have := (List.getElem?_eq_some_iff.1 hv).1; omega)
    rw [Lib.cell_of_heap hg] at hc
    rw [hc]
    exact hv
theorem Dst.setSt {w0 u : World} {D A B C E bs bt g c : Nat} {lv cm : List Value} {n : Nat} {st : List Value} (h : Dst w0 u D A B C E bs bt lv cm (.slice (some ⟨g, 0, none⟩) n c) n st) (j : Nat) (v : Value) : Dst w0 (u.setCell ⟨g, j, none⟩ v) D A B C E bs bt lv cm (.slice (some ⟨g, 0, none⟩) n c) n (st.set j v) := by
  have G := blk_of_row h.st
  have hg := (h.st.lt g rfl).1
  exact ⟨below_set h.bel _ _ _ h.bel.size hg, h.ge, h.ne, h.d.other j v (h.d.ne G (by decide)), h.a.other j v (h.a.ne G (by decide)), h.b.other j v (h.b.ne G (by decide)), h.c.other j v (h.c.ne G (by decide)), h.e.other j v (h.e.ne G (by decide)), ⟨h.i.s.other j v (h.i.s.ne G (by decide)), h.i.t.other j v (h.i.t.ne G (by decide))⟩, (h.st.stored j v).1⟩
theorem below_of_none {u u' : World} (h : u.grownBy u' none) : Below u.heap.size u u' := ⟨h.os, h.tape, h.output, h.size, fun k hk => h.block k hk (by simp)⟩
theorem info3 : (Tryz.prog.info? 3).map (fun i => (i.zero, i.size, i.bytes)) = some (some (.int .i64 0), 1, 8) := by kernel_rfl

set_option maxHeartbeats 4000000 in
set_option maxRecDepth 100000 in
theorem waitFreed_10 {w0 u : World} {D A B C E bs bt g c : Nat} {lv cm : List Value} {st : List Value} (S : Dst w0 u D A B C E bs bt lv cm (.slice (some ⟨g, 0, none⟩) 2 c) 2 st) (h6 : st[15]? = some (.int .i64 0)) (h7 : st[7]? = some (.slice none 0 0)) :
    Calls Tryz.prog 157 #[.pointer (some ⟨D, 0, none⟩), .int .i64 1, .int .i64 0] u fun e w' => e = .returned (.tuple #[]) ∧ ∃ F cF, Dst w0 w' D A B C E bs bt lv cm (.slice (some ⟨g, 0, none⟩) 2 c) 2 ((st.set 15 (.int .i64 1)).set 7 (.slice (some ⟨F, 0, none⟩) 1 cF)) ∧ Blk w' F 3 [.int .i64 1] ∧ w0.heap.size ≤ F ∧ ∀ (b : Nat) (T : TypeId) (xs : List Value), Blk u b T xs → T ≠ 155 → Blk w' b T xs := by
  obtain ⟨i0, hi, hz0, hz1, hz2⟩ := info_parts info3
  have S0 := hidD S
  have G := blk_of_row S.st
  have d5 := S.d.cell 5 rfl
  have c6 := G.cell 15 h6
  have f6 := G.frozen 15
  have S1 := hidD (S.setSt 15 (.int .i64 1))
  have e7 : (st.set 15 (.int .i64 1))[7]? = some (.slice none 0 0) := by rw [List.getElem?_set_ne (by decide)]; exact h7
  have G1 := blk_of_row S1.out.st
  have d5' := S1.out.d.cell 5 rfl
  have c7 := G1.cell 7 e7
  have HG := hidD (And.intro G G1)
  clear S G G1
  go_enter Tryz.func157, Tryz.ntmps157
  go_wp2
  generalize hU : u.setCell ⟨g, 15, none⟩ (.int .i64 1) = U at *
  have hbU : Below U.heap.size U (U.alloc (.cells #[.int .i64 1] 3)).drew := (box_below U #[.int .i64 1] 3).trans (Below.mono (below_drewB _) (by simp))
  have S2 := hidD (S1.out.below hbU)
  have k5 : (U.alloc (.cells #[.int .i64 1] 3)).cell? ⟨D, 5, none⟩ = some (.slice (some ⟨g, 0, none⟩) 2 c) := S2.out.d.cell 5 rfl
  have k7 : (U.alloc (.cells #[.int .i64 1] 3)).cell? ⟨g, 7, none⟩ = some (.slice none 0 0) := (blk_of_row S2.out.st).cell 7 e7
  have hz2' := S2.out.bel.size
  have HF := hidD (fun (w6 : World) (hg : (U.alloc (.cells #[.int .i64 1] 3)).drew.grownBy w6 none) => S2.out.below (below_of_none hg))
  go_region_law ((refine step_append_lies _ (by rfl) (.tmp 31) (.tmp 33) 23 (by rfl) w0.heap.size 3 i0 _ 1 8 Tryz.underlying23 hi hz0 hz1 hz2 rfl (by decide) (.slice none 0 0) 0 [] (by rfl) (World.ownsRow_nil _ _ _ _) ⟨U.heap.size, 0, none⟩ 1 1 [.int .i64 1] (by rfl) rfl (new_at U 3 [.int .i64 1]) (by intro x hx; rw [List.mem_singleton.1 hx]; rfl) (by decide) (by unfold maxLen; omega) (by omega) hz2' _ rfl ?_; intro g6 c6' w6 hown6 hg6 hat6 hlt6; have S6 := hidD (HF.out w6 hg6); have l5 := S6.out.d.cell 5 rfl; have l7 := (blk_of_row S6.out.st).cell 7 e7; have lf := (blk_of_row S6.out.st).frozen 7))
  all_goals
    refine bodyPost_end (results_none rfl _ _ _) rfl ?_
    have F6 := blk_of_row hown6
    have G6 := blk_of_row S6.out.st
    refine ⟨rfl, g6, c6', S6.out.setSt 7 (.slice (some ⟨g6, 0, none⟩) 1 c6'), F6.other 7 _ (F6.ne G6 (by decide)), (hown6.lt g6 rfl).1, fun b T xs h hT => ?_⟩
    have h1 := h.other (b' := g) 15 (.int .i64 1) (h.ne HG.out.1 hT)
    rw [hU] at h1
    have h2 := (h1.below hbU).below (below_of_none hg6)
    exact h2.other 7 _ (h2.ne G6 hT)

set_option maxHeartbeats 4000000 in
set_option maxRecDepth 100000 in
theorem waitFreed_01 {w0 u : World} {D A B C E bs bt g c : Nat} {lv cm : List Value} {st : List Value} (S : Dst w0 u D A B C E bs bt lv cm (.slice (some ⟨g, 0, none⟩) 2 c) 2 st) (h6 : st[6]? = some (.int .i64 0)) (h7 : st[16]? = some (.slice none 0 0)) :
    Calls Tryz.prog 157 #[.pointer (some ⟨D, 0, none⟩), .int .i64 0, .int .i64 1] u fun e w' => e = .returned (.tuple #[]) ∧ ∃ F cF, Dst w0 w' D A B C E bs bt lv cm (.slice (some ⟨g, 0, none⟩) 2 c) 2 ((st.set 6 (.int .i64 1)).set 16 (.slice (some ⟨F, 0, none⟩) 1 cF)) ∧ Blk w' F 3 [.int .i64 0] ∧ w0.heap.size ≤ F ∧ ∀ (b : Nat) (T : TypeId) (xs : List Value), Blk u b T xs → T ≠ 155 → Blk w' b T xs := by
  obtain ⟨i0, hi, hz0, hz1, hz2⟩ := info_parts info3
  have S0 := hidD S
  have G := blk_of_row S.st
  have d5 := S.d.cell 5 rfl
  have c6 := G.cell 6 h6
  have f6 := G.frozen 6
  have S1 := hidD (S.setSt 6 (.int .i64 1))
  have e7 : (st.set 6 (.int .i64 1))[16]? = some (.slice none 0 0) := by rw [List.getElem?_set_ne (by decide)]; exact h7
  have G1 := blk_of_row S1.out.st
  have d5' := S1.out.d.cell 5 rfl
  have c7 := G1.cell 16 e7
  have HG := hidD (And.intro G G1)
  clear S G G1
  go_enter Tryz.func157, Tryz.ntmps157
  go_wp2
  generalize hU : u.setCell ⟨g, 6, none⟩ (.int .i64 1) = U at *
  have hbU : Below U.heap.size U (U.alloc (.cells #[.int .i64 0] 3)).drew := (box_below U #[.int .i64 0] 3).trans (Below.mono (below_drewB _) (by simp))
  have S2 := hidD (S1.out.below hbU)
  have k5 : (U.alloc (.cells #[.int .i64 0] 3)).cell? ⟨D, 5, none⟩ = some (.slice (some ⟨g, 0, none⟩) 2 c) := S2.out.d.cell 5 rfl
  have k7 : (U.alloc (.cells #[.int .i64 0] 3)).cell? ⟨g, 16, none⟩ = some (.slice none 0 0) := (blk_of_row S2.out.st).cell 16 e7
  have hz2' := S2.out.bel.size
  have HF := hidD (fun (w6 : World) (hg : (U.alloc (.cells #[.int .i64 0] 3)).drew.grownBy w6 none) => S2.out.below (below_of_none hg))
  go_region_law ((refine step_append_lies _ (by rfl) (.tmp 31) (.tmp 33) 23 (by rfl) w0.heap.size 3 i0 _ 1 8 Tryz.underlying23 hi hz0 hz1 hz2 rfl (by decide) (.slice none 0 0) 0 [] (by rfl) (World.ownsRow_nil _ _ _ _) ⟨U.heap.size, 0, none⟩ 1 1 [.int .i64 0] (by rfl) rfl (new_at U 3 [.int .i64 0]) (by intro x hx; rw [List.mem_singleton.1 hx]; rfl) (by decide) (by unfold maxLen; omega) (by omega) hz2' _ rfl ?_; intro g6 c6' w6 hown6 hg6 hat6 hlt6; have S6 := hidD (HF.out w6 hg6); have l5 := S6.out.d.cell 5 rfl; have l7 := (blk_of_row S6.out.st).cell 16 e7; have lf := (blk_of_row S6.out.st).frozen 16))
  all_goals
    refine bodyPost_end (results_none rfl _ _ _) rfl ?_
    have F6 := blk_of_row hown6
    have G6 := blk_of_row S6.out.st
    refine ⟨rfl, g6, c6', S6.out.setSt 16 (.slice (some ⟨g6, 0, none⟩) 1 c6'), F6.other 16 _ (F6.ne G6 (by decide)), (hown6.lt g6 rfl).1, fun b T xs h hT => ?_⟩
    have h1 := h.other (b' := g) 6 (.int .i64 1) (h.ne HG.out.1 hT)
    rw [hU] at h1
    have h2 := (h1.below hbU).below (below_of_none hg6)
    exact h2.other 16 _ (h2.ne G6 hT)

end Go.Proofs.YtpjjagalekolaaaGreatDoor

