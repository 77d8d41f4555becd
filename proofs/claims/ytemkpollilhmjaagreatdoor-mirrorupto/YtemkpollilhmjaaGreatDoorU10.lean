/- KE, KF, KG, KH, KI, KJ, KK, KL, KM, KN, KO, KP, KQ: in one text. -/
import Derived.Test.YtemkpollilhmjaaGreatDoorU09
import Derived.Deep.RegionLaw
import Derived.Deep.AppendLies
import Derived.Laws.AppendOwn
import Derived.Deep.RegionWith
/- The planner at two files that change their names: a draft in memory, and a step put behind the others. -/
namespace Go.Proofs.YtemkpollilhmjaaGreatDoor
open Go.RowKit
set_option linter.unusedVariables false
set_option linter.unusedSimpArgs false

/-- A draft in memory. -/
structure Dst (w0 u : World) (D A B C E bs bt : Nat) (lv cm : List Value) (stv : Value) (n : Nat) (st : List Value) : Prop where
  bel : Below w0.heap.size w0 u
  ge : w0.heap.size ≤ D ∧ w0.heap.size ≤ A ∧ w0.heap.size ≤ B ∧ w0.heap.size ≤ C ∧ w0.heap.size ≤ E
  ne : A ≠ C ∧ A ≠ E ∧ B ≠ C ∧ B ≠ E ∧ C ≠ E
  d : Blk u D 113 [.slice (some ⟨bs, 0, none⟩) 2 2, .slice (some ⟨bt, 0, none⟩) 2 2, .bool false, .slice (some ⟨A, 0, none⟩) 2 2, .slice (some ⟨B, 0, none⟩) 2 2, stv, .slice (some ⟨C, 0, none⟩) 2 2, .slice (some ⟨E, 0, none⟩) 2 2]
  a : Blk u A 3 [.int .i64 1, .int .i64 0]
  b : Blk u B 3 [.int .i64 1, .int .i64 0]
  c : Blk u C 3 lv
  e : Blk u E 3 cm
  i : Inp u bs bt
  st : u.ownsRow w0.heap.size 103 9 stv n st
theorem own_belowK {u u' : World} {B e s n : Nat} {v : Value} {xs : List Value} (hb : Below u.heap.size u u') (h : u.ownsRow B e s v n xs) : u'.ownsRow B e s v n xs := by
  refine h.kept (row := none) ⟨hb.os, hb.tape, hb.output, hb.size, fun k hk _ => hb.block k hk⟩ ?_
  cases hv : v.ownBlock with
  | none => exact .inl rfl
  | some g => exact .inr (by simp)
theorem Dst.below {w0 u u' : World} {D A B C E bs bt : Nat} {lv cm : List Value} {stv : Value} {n : Nat} {st : List Value} (h : Dst w0 u D A B C E bs bt lv cm stv n st) (hb : Below u.heap.size u u') : Dst w0 u' D A B C E bs bt lv cm stv n st :=
  ⟨h.bel.trans (hb.mono h.bel.size), h.ge, h.ne, h.d.below hb, h.a.below hb, h.b.below hb, h.c.below hb, h.e.below hb, h.i.below hb, own_belowK hb h.st⟩
theorem blk_row {u : World} {b B e s n : Nat} {T : TypeId} {xs ys : List Value} {v : Value} (h : Blk u b T xs) (o : u.ownsRow B e s v n ys) (hT : T ≠ e) : some b ≠ v.ownBlock := by
  intro hb
  rcases o.2 with ⟨rfl, _⟩ | ⟨g, cap, cur, rfl, _, hg, _⟩
  · simp [Value.ownBlock] at hb
  · simp [Value.ownBlock] at hb
    subst hb
    obtain ⟨c, h1, _⟩ := h
    rw [h1] at hg
    simp only [Option.some.injEq, Obj.cells.injEq] at hg
    exact hT hg.2.1
theorem row_blk {u u' : World} {b B e s n : Nat} {T : TypeId} {xs ys : List Value} {v : Value} (h : Blk u b T xs) (o : u.ownsRow B e s v n ys) (hT : T ≠ e) (hg : u.grownBy u' (some b)) : u'.ownsRow B e s v n ys := by
  refine o.kept hg ?_
  cases hv : v.ownBlock with
  | none => exact .inl rfl
  | some g => exact .inr (fun e => blk_row h o hT (by rw [hv, ← e]))

theorem Dst.added {w0 u u' : World} {D A B C E bs bt : Nat} {lv cm : List Value} {stv stv' : Value} {n n' : Nat} {st st' : List Value} (h : Dst w0 u D A B C E bs bt lv cm stv n st) (ho : u'.ownsRow w0.heap.size 103 9 stv' n' st') (hg : u.grownBy u' stv.ownBlock) : Dst w0 (u'.setCell ⟨D, 5, none⟩ stv') D A B C E bs bt lv cm stv' n' st' := by
  have hd := h.d.kept hg (blk_row h.d h.st (by decide))
  have ha := h.a.kept hg (blk_row h.a h.st (by decide))
  have hb := h.b.kept hg (blk_row h.b h.st (by decide))
  have hc := h.c.kept hg (blk_row h.c h.st (by decide))
  have he := h.e.kept hg (blk_row h.e h.st (by decide))
  have hi := h.i.kept hg (blk_row h.i.s h.st (by decide)) (blk_row h.i.t h.st (by decide))
  have hbel := h.bel.grown hg h.bel.size (fun k e => (h.st.lt k e).1)
  refine ⟨below_set hbel _ _ _ hbel.size h.ge.1, h.ge, h.ne, hd.set 5 stv' (by simp), ha.other 5 stv' (ha.ne hd (by decide)), hb.other 5 stv' (hb.ne hd (by decide)), hc.other 5 stv' (hc.ne hd (by decide)), he.other 5 stv' (he.ne hd (by decide)), ⟨hi.s.other 5 stv' (hi.s.ne hd (by decide)), hi.t.other 5 stv' (hi.t.ne hd (by decide))⟩, row_blk hd ho (by decide) (gb_set _ _ _ _)⟩
/-- An operation as a step's cells. -/
def stepC (k : Int) (p q : ByteArray) : List Value := [.int .i64 k, .string p, .string q, .int .i64 0, .int .i64 0, .int .i64 0, .int .i64 0, .slice none 0 0, .slice none 0 0]
theorem info103 : (Tryz.prog.info? 103).map (fun i => (i.zero, i.size, i.bytes)) = some (some (.agg #[.int .i64 0, .string ⟨#[]⟩, .string ⟨#[]⟩, .int .i64 0, .int .i64 0, .int .i64 0, .int .i64 0, .slice none 0 0, .slice none 0 0]), 9, 120) := by kernel_rfl

theorem new_at (u : World) (T : TypeId) (xs : List Value) : ∀ (j : Nat) (x : Value), xs[j]? = some x → (u.alloc (.cells xs.toArray T)).cell? ((⟨u.heap.size, 0, none⟩ : Addr).add j) = some x := by
  intro j x hx
  have : (⟨u.heap.size, 0, none⟩ : Addr).add j = ⟨u.heap.size, j, none⟩ := by unfold Addr.add; split <;> simp_all
  rw [this]
  exact (Blk.new u T xs).cell j hx
theorem shape_of {u : World} {B e s n : Nat} {v : Value} {xs : List Value} (h : u.ownsRow B e s v n xs) : ∃ a m c, v = .slice a m c := by
  rcases h.2 with ⟨rfl, _⟩ | ⟨g, cap, cur, rfl, _⟩
  · exact ⟨_, _, _, rfl⟩
  · exact ⟨_, _, _, rfl⟩
theorem stepC_one (k : Int) (p q : ByteArray) : ∀ x ∈ stepC k p q, x.oneCell' = true := by
  intro x hx
  simp only [stepC, List.mem_cons, List.not_mem_nil, or_false] at hx
  rcases hx with rfl | rfl | rfl | rfl | rfl | rfl | rfl | rfl | rfl <;> rfl

set_option maxHeartbeats 4000000 in
set_option maxRecDepth 100000 in
theorem add_any {w0 u : World} {D A B C E bs bt : Nat} {lv cm : List Value} {stv : Value} {n : Nat} {st : List Value} (S : Dst w0 u D A B C E bs bt lv cm stv n st) (hn : n ≤ 1000) (k : Int) (p q : ByteArray) :
    Calls Tryz.prog 89 #[.pointer (some ⟨D, 0, none⟩), .agg #[.int .i64 k, .string p, .string q, .int .i64 0, .int .i64 0, .int .i64 0]] u fun e w' => e = .returned (.int .i64 n) ∧ ∃ stv', Dst w0 w' D A B C E bs bt lv cm stv' (n + 1) (st ++ stepC k p q) ∧ ∀ (b : Nat) (T : TypeId) (xs : List Value), Blk u b T xs → T ≠ 103 → T ≠ 113 → Blk w' b T xs := by
  obtain ⟨i0, hi, hz0, hz1, hz2⟩ := info_parts info103
  have BX := hidD (box_below u #[.int .i64 k, .string p, .string q, .int .i64 0, .int .i64 0, .int .i64 0] 82)
  have X := hidD (Blk.new u 82 [.int .i64 k, .string p, .string q, .int .i64 0, .int .i64 0, .int .i64 0])
  have S1 := hidD (S.below BX.out)
  have d5 := S1.out.d.cell 5 rfl
  have x0 := X.out.cell 0 rfl
  have x1 := X.out.cell 1 rfl
  have x2 := X.out.cell 2 rfl
  have x3 := X.out.cell 3 rfl
  have x4 := X.out.cell 4 rfl
  have x5 := X.out.cell 5 rfl
  have hsz := S1.out.bel.size
  obtain ⟨sa, sn, sc, hsv⟩ := shape_of S1.out.st
  subst hsv
  have HF0 := hidD (fun (b : Nat) (T : TypeId) (xs : List Value) (h : Blk u b T xs) => h.below BX.out)
  clear S
  go_enter Tryz.func89, Tryz.ntmps89
  go_wp2
  generalize hU : u.alloc (.cells #[.int .i64 k, .string p, .string q, .int .i64 0, .int .i64 0, .int .i64 0] 82) = U at *
  have hbU : Below U.heap.size U (U.alloc (.cells (stepC k p q).toArray 103)).drew := (box_below U (stepC k p q).toArray 103).trans (Below.mono (below_drewB _) (by simp))
  have S2 := hidD (S1.out.below hbU)
  have X2 := hidD (X.out.below hbU)
  have d5' : (U.alloc (.cells (stepC k p q).toArray 103)).cell? ⟨D, 5, none⟩ = some (.slice sa sn sc) := S2.out.d.cell 5 rfl
  have y0 : (U.alloc (.cells (stepC k p q).toArray 103)).cell? ⟨u.heap.size, 0, none⟩ = _ := X2.out.cell 0 rfl
  have y1 : (U.alloc (.cells (stepC k p q).toArray 103)).cell? ⟨u.heap.size, 1, none⟩ = _ := X2.out.cell 1 rfl
  have y2 : (U.alloc (.cells (stepC k p q).toArray 103)).cell? ⟨u.heap.size, 2, none⟩ = _ := X2.out.cell 2 rfl
  have y3 : (U.alloc (.cells (stepC k p q).toArray 103)).cell? ⟨u.heap.size, 3, none⟩ = _ := X2.out.cell 3 rfl
  have y4 : (U.alloc (.cells (stepC k p q).toArray 103)).cell? ⟨u.heap.size, 4, none⟩ = _ := X2.out.cell 4 rfl
  have y5 : (U.alloc (.cells (stepC k p q).toArray 103)).cell? ⟨u.heap.size, 5, none⟩ = _ := X2.out.cell 5 rfl
  simp only [stepC] at d5' y0 y1 y2 y3 y4 y5
  have hz2' := S2.out.bel.size
  have D6 := hidD (fun (w6 : World) (hg : (U.alloc (.cells (stepC k p q).toArray 103)).drew.grownBy w6 (Value.slice sa sn sc).ownBlock) => S2.out.d.kept hg (blk_row S2.out.d S2.out.st (by decide)))
  go_region_law ((refine step_append_lies _ (by rfl) (.tmp 9) (.tmp 12) 85 (by rfl) w0.heap.size 103 i0 _ 9 120 Tryz.underlying85 hi hz0 hz1 hz2 rfl (by decide) (.slice sa sn sc) n st (by rfl) S2.out.st ⟨U.heap.size, 0, none⟩ 1 1 (stepC k p q) (by rfl) rfl (new_at U 103 (stepC k p q)) (stepC_one k p q) (by decide) (by unfold maxLen; omega) (by omega) hz2' _ rfl ?_; intro g6 c6 w6 hown6 hg6 hat6 hlt6; have e5 := (D6.out w6 hg6).cell 5 rfl; have f5 := (D6.out w6 hg6).frozen 5))
  all_goals
    have S7 := hidD (S2.out.added hown6 hg6)
    have z5 := S7.out.d.cell 5 rfl
    go_wp2
    go_ret
    refine ⟨by first | rfl | (congr 2; omega) | simp, _, S7.out, fun b T xs h h1 h2 => ?_⟩
    have hb2 := (HF0.out b T xs h).below hbU
    have hb3 := hb2.kept hg6 (blk_row hb2 S2.out.st h1)
    exact hb3.other 5 _ (hb3.ne (D6.out _ hg6) h2)
end Go.Proofs.YtemkpollilhmjaaGreatDoor

/- The planner at two files that change their names: what goes, what is carried over, what is made. -/
namespace Go.Proofs.YtemkpollilhmjaaGreatDoor
open Go.RowKit
set_option linter.unusedVariables false
set_option linter.unusedSimpArgs false

set_option maxHeartbeats 4000000 in
set_option maxRecDepth 100000 in
theorem takeAway_swap {w0 u : World} {D A B C E bs bt : Nat} {lv cm : List Value} {stv : Value} {n : Nat} {st : List Value} (S : Dst w0 u D A B C E bs bt lv cm stv n st) :
    Calls Tryz.prog 64 #[.pointer (some ⟨D, 0, none⟩)] u fun e w' => e = .returned (.tuple #[]) ∧ Dst w0 w' D A B C E bs bt lv cm stv n st := by
  have S0 := hidD S
  have r0 := S.d.cell 0 rfl
  clear S
  have t0 := S0.out.i.s.cell 0 rfl
  have t1 := S0.out.i.s.cell 1 rfl
  have t2 := S0.out.i.s.cell 2 rfl
  have t3 := S0.out.i.s.cell 3 rfl
  have t4 := S0.out.i.s.cell 4 rfl
  have X := hidD (Blk.new u 54 [.string ⟨#[97]⟩, .bool false, .int .i64 1, .int .i64 3, .int .i64 0])
  have BB := hidD (box_below u #[.string ⟨#[97]⟩, .bool false, .int .i64 1, .int .i64 3, .int .i64 0] 54)
  have S1 := hidD (S0.out.below BB.out)
  have q3 := S1.out.d.cell 3 rfl
  have qa := S1.out.a.cell 0 rfl
  go_enter Tryz.func64, Tryz.ntmps64
  go_wp2
  refine wp_loop_rounds 3 ?_
  rw [rounds_succ]
  go_wp2
  generalize hU0 : u.alloc (.cells #[.string ⟨#[97]⟩, .bool false, .int .i64 1, .int .i64 3, .int .i64 0] 54) = u1 at *
  clear X BB t0 t1 t2 t3 t4 q3 qa
  have t0 := S1.out.i.s.cell 5 rfl
  have t1 := S1.out.i.s.cell 6 rfl
  have t2 := S1.out.i.s.cell 7 rfl
  have t3 := S1.out.i.s.cell 8 rfl
  have t4 := S1.out.i.s.cell 9 rfl
  have X := hidD (Blk.new u1 54 [.string ⟨#[98]⟩, .bool false, .int .i64 2, .int .i64 3, .int .i64 0])
  have BB := hidD (box_below u1 #[.string ⟨#[98]⟩, .bool false, .int .i64 2, .int .i64 3, .int .i64 0] 54)
  have S2 := hidD (S1.out.below BB.out)
  have q3 := S2.out.d.cell 3 rfl
  have qa := S2.out.a.cell 1 rfl
  rw [rounds_succ]
  go_wp2
  generalize hU1 : u1.alloc (.cells #[.string ⟨#[98]⟩, .bool false, .int .i64 2, .int .i64 3, .int .i64 0] 54) = u2 at *
  clear X BB t0 t1 t2 t3 t4 q3 qa
  rw [rounds_succ]
  go_wp2
  refine bodyPost_end (results_none rfl _ _ _) rfl ?_
  exact ⟨rfl, S2.out⟩

set_option maxHeartbeats 4000000 in
set_option maxRecDepth 100000 in
theorem makeDirs_swap {w0 u : World} {D A B C E bs bt : Nat} {lv cm : List Value} {stv : Value} {n : Nat} {st : List Value} (S : Dst w0 u D A B C E bs bt lv cm stv n st) :
    Calls Tryz.prog 66 #[.pointer (some ⟨D, 0, none⟩)] u fun e w' => e = .returned (.tuple #[]) ∧ Dst w0 w' D A B C E bs bt lv cm stv n st := by
  have S0 := hidD S
  have r0 := S.d.cell 1 rfl
  clear S
  have t0 := S0.out.i.t.cell 0 rfl
  have t1 := S0.out.i.t.cell 1 rfl
  have t2 := S0.out.i.t.cell 2 rfl
  have t3 := S0.out.i.t.cell 3 rfl
  have t4 := S0.out.i.t.cell 4 rfl
  have X := hidD (Blk.new u 54 [.string ⟨#[97]⟩, .bool false, .int .i64 2, .int .i64 3, .int .i64 0])
  have BB := hidD (box_below u #[.string ⟨#[97]⟩, .bool false, .int .i64 2, .int .i64 3, .int .i64 0] 54)
  have S1 := hidD (S0.out.below BB.out)
  have q1 := X.out.cell 1 rfl
  go_enter Tryz.func66, Tryz.ntmps66
  go_wp2
  refine wp_loop_rounds 3 ?_
  rw [rounds_succ]
  go_wp2
  generalize hU0 : u.alloc (.cells #[.string ⟨#[97]⟩, .bool false, .int .i64 2, .int .i64 3, .int .i64 0] 54) = u1 at *
  clear X BB t0 t1 t2 t3 t4 q1
  have t0 := S1.out.i.t.cell 5 rfl
  have t1 := S1.out.i.t.cell 6 rfl
  have t2 := S1.out.i.t.cell 7 rfl
  have t3 := S1.out.i.t.cell 8 rfl
  have t4 := S1.out.i.t.cell 9 rfl
  have X := hidD (Blk.new u1 54 [.string ⟨#[98]⟩, .bool false, .int .i64 1, .int .i64 3, .int .i64 0])
  have BB := hidD (box_below u1 #[.string ⟨#[98]⟩, .bool false, .int .i64 1, .int .i64 3, .int .i64 0] 54)
  have S2 := hidD (S1.out.below BB.out)
  have q1 := X.out.cell 1 rfl
  rw [rounds_succ]
  go_wp2
  generalize hU1 : u1.alloc (.cells #[.string ⟨#[98]⟩, .bool false, .int .i64 1, .int .i64 3, .int .i64 0] 54) = u2 at *
  clear X BB t0 t1 t2 t3 t4 q1
  rw [rounds_succ]
  go_wp2
  refine bodyPost_end (results_none rfl _ _ _) rfl ?_
  exact ⟨rfl, S2.out⟩

set_option maxHeartbeats 4000000 in
set_option maxRecDepth 100000 in
theorem fillFiles_swap {w0 u : World} {D A B C E bs bt : Nat} {lv cm : List Value} {stv : Value} {n : Nat} {st : List Value} (S : Dst w0 u D A B C E bs bt lv cm stv n st) :
    Calls Tryz.prog 67 #[.pointer (some ⟨D, 0, none⟩)] u fun e w' => e = .returned (.tuple #[]) ∧ Dst w0 w' D A B C E bs bt lv cm stv n st := by
  have S0 := hidD S
  have r0 := S.d.cell 1 rfl
  clear S
  have t0 := S0.out.i.t.cell 0 rfl
  have t1 := S0.out.i.t.cell 1 rfl
  have t2 := S0.out.i.t.cell 2 rfl
  have t3 := S0.out.i.t.cell 3 rfl
  have t4 := S0.out.i.t.cell 4 rfl
  have X := hidD (Blk.new u 54 [.string ⟨#[97]⟩, .bool false, .int .i64 2, .int .i64 3, .int .i64 0])
  have BB := hidD (box_below u #[.string ⟨#[97]⟩, .bool false, .int .i64 2, .int .i64 3, .int .i64 0] 54)
  have S1 := hidD (S0.out.below BB.out)
  have q1 := X.out.cell 1 rfl
  have q4 := S1.out.d.cell 4 rfl
  have qb := S1.out.b.cell 0 rfl
  go_enter Tryz.func67, Tryz.ntmps67
  go_wp2
  refine wp_loop_rounds 3 ?_
  rw [rounds_succ]
  go_wp2
  generalize hU0 : u.alloc (.cells #[.string ⟨#[97]⟩, .bool false, .int .i64 2, .int .i64 3, .int .i64 0] 54) = u1 at *
  clear X BB t0 t1 t2 t3 t4 q1 q4 qb
  have t0 := S1.out.i.t.cell 5 rfl
  have t1 := S1.out.i.t.cell 6 rfl
  have t2 := S1.out.i.t.cell 7 rfl
  have t3 := S1.out.i.t.cell 8 rfl
  have t4 := S1.out.i.t.cell 9 rfl
  have X := hidD (Blk.new u1 54 [.string ⟨#[98]⟩, .bool false, .int .i64 1, .int .i64 3, .int .i64 0])
  have BB := hidD (box_below u1 #[.string ⟨#[98]⟩, .bool false, .int .i64 1, .int .i64 3, .int .i64 0] 54)
  have S2 := hidD (S1.out.below BB.out)
  have q1 := X.out.cell 1 rfl
  have q4 := S2.out.d.cell 4 rfl
  have qb := S2.out.b.cell 1 rfl
  rw [rounds_succ]
  go_wp2
  generalize hU1 : u1.alloc (.cells #[.string ⟨#[98]⟩, .bool false, .int .i64 1, .int .i64 3, .int .i64 0] 54) = u2 at *
  clear X BB t0 t1 t2 t3 t4 q1 q4 qb
  rw [rounds_succ]
  go_wp2
  refine bodyPost_end (results_none rfl _ _ _) rfl ?_
  exact ⟨rfl, S2.out⟩

end Go.Proofs.YtemkpollilhmjaaGreatDoor

/- The planner at two files that change their names: each moves. -/
namespace Go.Proofs.YtemkpollilhmjaaGreatDoor
open Go.RowKit
set_option linter.unusedVariables false
set_option linter.unusedSimpArgs false

set_option maxHeartbeats 4000000 in
set_option maxRecDepth 100000 in
theorem moves_0 {w0 u : World} {D A B C E bs bt : Nat} {lv cm : List Value} {stv : Value} {n : Nat} {st : List Value} (S : Dst w0 u D A B C E bs bt lv cm stv n st) :
    Calls Tryz.prog 90 #[.pointer (some ⟨D, 0, none⟩), .int .i64 0] u fun e w' => e = .returned (.bool true) ∧ ∃ m, w' = u.drewN m := by
  have c0 := S.d.cell 0 rfl
  have c1 := S.d.cell 1 rfl
  have c2 := S.d.cell 2 rfl
  have c3 := S.d.cell 3 rfl
  have ca := S.a.cell 0 rfl
  have cs := S.i.s.cell 0 rfl
  have ct := S.i.t.cell 5 rfl
  have hsm : sameB false (⟨#[97]⟩ : ByteArray).data.toList (⟨#[98]⟩ : ByteArray).data.toList = false := by kernel_rfl
  clear S
  go_enter Tryz.func90, Tryz.ntmps90
  go_wp2
  go_region_held3 (fun v => v.cell? ⟨D, 0, none⟩ = some (.slice (some ⟨bs, 0, none⟩) 2 2) ∧ v.cell? ⟨D, 1, none⟩ = some (.slice (some ⟨bt, 0, none⟩) 2 2) ∧ v.cell? ⟨D, 2, none⟩ = some (.bool false) ∧ v.cell? ⟨bs, 0, none⟩ = some (.string ⟨#[97]⟩) ∧ v.cell? ⟨bt, 5, none⟩ = some (.string ⟨#[98]⟩)) (go_keep) (first | (go_at_call 120; refine (same_any _ _ false _ (by decide) (by decide)).mono ?_; rintro e w1 ⟨rfl, m, rfl⟩; rw [hsm]))
  go_wp2
  go_ret
  exact ⟨rfl, _, rfl⟩

set_option maxHeartbeats 4000000 in
set_option maxRecDepth 100000 in
theorem moves_1 {w0 u : World} {D A B C E bs bt : Nat} {lv cm : List Value} {stv : Value} {n : Nat} {st : List Value} (S : Dst w0 u D A B C E bs bt lv cm stv n st) :
    Calls Tryz.prog 90 #[.pointer (some ⟨D, 0, none⟩), .int .i64 1] u fun e w' => e = .returned (.bool true) ∧ ∃ m, w' = u.drewN m := by
  have c0 := S.d.cell 0 rfl
  have c1 := S.d.cell 1 rfl
  have c2 := S.d.cell 2 rfl
  have c3 := S.d.cell 3 rfl
  have ca := S.a.cell 1 rfl
  have cs := S.i.s.cell 5 rfl
  have ct := S.i.t.cell 0 rfl
  have hsm : sameB false (⟨#[98]⟩ : ByteArray).data.toList (⟨#[97]⟩ : ByteArray).data.toList = false := by kernel_rfl
  clear S
  go_enter Tryz.func90, Tryz.ntmps90
  go_wp2
  go_region_held3 (fun v => v.cell? ⟨D, 0, none⟩ = some (.slice (some ⟨bs, 0, none⟩) 2 2) ∧ v.cell? ⟨D, 1, none⟩ = some (.slice (some ⟨bt, 0, none⟩) 2 2) ∧ v.cell? ⟨D, 2, none⟩ = some (.bool false) ∧ v.cell? ⟨bs, 5, none⟩ = some (.string ⟨#[98]⟩) ∧ v.cell? ⟨bt, 0, none⟩ = some (.string ⟨#[97]⟩)) (go_keep) (first | (go_at_call 120; refine (same_any _ _ false _ (by decide) (by decide)).mono ?_; rintro e w1 ⟨rfl, m, rfl⟩; rw [hsm]))
  go_wp2
  go_ret
  exact ⟨rfl, _, rfl⟩

end Go.Proofs.YtemkpollilhmjaaGreatDoor

/- The planner at two files that change their names: both are carried over. -/
namespace Go.Proofs.YtemkpollilhmjaaGreatDoor
open Go.RowKit
set_option linter.unusedVariables false
set_option linter.unusedSimpArgs false

/-- The lists of steps that bring and take, set anew. -/
theorem Dst.setE {w0 u : World} {D A B C E bs bt : Nat} {lv cm : List Value} {stv : Value} {n : Nat} {st : List Value} (h : Dst w0 u D A B C E bs bt lv cm stv n st) (j : Nat) (v : Value) (hj : j < cm.length) : Dst w0 (u.setCell ⟨E, j, none⟩ v) D A B C E bs bt lv (cm.set j v) stv n st := by
  obtain ⟨n1, n2, n3, n4, n5⟩ := h.ne
  exact ⟨below_set h.bel _ _ _ h.bel.size h.ge.2.2.2.2, h.ge, h.ne, h.d.other j v (h.d.ne h.e (by decide)), h.a.other j v n2, h.b.other j v n4, h.c.other j v n5, h.e.set j v hj, ⟨h.i.s.other j v (h.i.s.ne h.e (by decide)), h.i.t.other j v (h.i.t.ne h.e (by decide))⟩, row_blk h.e h.st (by decide) (gb_set _ _ _ _)⟩
theorem Dst.setC {w0 u : World} {D A B C E bs bt : Nat} {lv cm : List Value} {stv : Value} {n : Nat} {st : List Value} (h : Dst w0 u D A B C E bs bt lv cm stv n st) (j : Nat) (v : Value) (hj : j < lv.length) : Dst w0 (u.setCell ⟨C, j, none⟩ v) D A B C E bs bt (lv.set j v) cm stv n st := by
  obtain ⟨n1, n2, n3, n4, n5⟩ := h.ne
  exact ⟨below_set h.bel _ _ _ h.bel.size h.ge.2.2.2.1, h.ge, h.ne, h.d.other j v (h.d.ne h.c (by decide)), h.a.other j v n1, h.b.other j v n3, h.c.set j v hj, h.e.other j v (fun e => n5 e.symm), ⟨h.i.s.other j v (h.i.s.ne h.c (by decide)), h.i.t.other j v (h.i.t.ne h.c (by decide))⟩, row_blk h.c h.st (by decide) (gb_set _ _ _ _)⟩

set_option maxHeartbeats 4000000 in
set_option maxRecDepth 100000 in
theorem carryOver_swap {w0 u : World} {D A B C E bs bt : Nat} {stv : Value} (S : Dst w0 u D A B C E bs bt [.int .i64 (-1), .int .i64 (-1)] [.int .i64 (-1), .int .i64 (-1)] stv 0 []) :
    Calls Tryz.prog 65 #[.pointer (some ⟨D, 0, none⟩)] u fun e w' => e = .returned (.tuple #[]) ∧ ∃ stv', Dst w0 w' D A B C E bs bt [.int .i64 0, .int .i64 1] [.int .i64 1, .int .i64 0] stv' 2 (stepC 6 ⟨#[97]⟩ ⟨#[98]⟩ ++ stepC 6 ⟨#[98]⟩ ⟨#[97]⟩) := by
  have S0 := hidD S
  have r0 := S.d.cell 0 rfl
  clear S
  have t0 := S0.out.i.s.cell 0 rfl
  have t1 := S0.out.i.s.cell 1 rfl
  have t2 := S0.out.i.s.cell 2 rfl
  have t3 := S0.out.i.s.cell 3 rfl
  have t4 := S0.out.i.s.cell 4 rfl
  have X := hidD (Blk.new u 54 [.string ⟨#[97]⟩, .bool false, .int .i64 1, .int .i64 3, .int .i64 0])
  have BB := hidD (box_below u #[.string ⟨#[97]⟩, .bool false, .int .i64 1, .int .i64 3, .int .i64 0] 54)
  have S1 := hidD (S0.out.below BB.out)
  have q3 := S1.out.d.cell 3 rfl
  have qa := S1.out.a.cell 0 rfl
  have q1 := S1.out.d.cell 1 rfl
  have v0 := S1.out.i.t.cell 5 rfl
  have v1 := S1.out.i.t.cell 6 rfl
  have v2 := S1.out.i.t.cell 7 rfl
  have v3 := S1.out.i.t.cell 8 rfl
  have v4 := S1.out.i.t.cell 9 rfl
  have BY := hidD (box_below (u.alloc (.cells #[.string ⟨#[97]⟩, .bool false, .int .i64 1, .int .i64 3, .int .i64 0] 54)) #[.string ⟨#[98]⟩, .bool false, .int .i64 1, .int .i64 3, .int .i64 0] 54)
  have Y : Hid (Blk ((u.alloc (.cells #[.string ⟨#[97]⟩, .bool false, .int .i64 1, .int .i64 3, .int .i64 0] 54)).alloc (.cells #[.string ⟨#[98]⟩, .bool false, .int .i64 1, .int .i64 3, .int .i64 0] 54)) (u.heap.size + 1) 54 [.string ⟨#[98]⟩, .bool false, .int .i64 1, .int .i64 3, .int .i64 0]) := by
    have := Blk.new (u.alloc (.cells #[.string ⟨#[97]⟩, .bool false, .int .i64 1, .int .i64 3, .int .i64 0] 54)) 54 [.string ⟨#[98]⟩, .bool false, .int .i64 1, .int .i64 3, .int .i64 0]
    rw [World.size_alloc] at this
    exact this
  have X1 := hidD (X.out.below BY.out)
  have S2 := hidD (S1.out.below BY.out)
  go_enter Tryz.func65, Tryz.ntmps65
  go_wp2
  refine wp_loop_rounds 3 ?_
  rw [rounds_succ]
  go_wp2
  generalize hU2 : ((u.alloc (.cells #[.string ⟨#[97]⟩, .bool false, .int .i64 1, .int .i64 3, .int .i64 0] 54)).alloc (.cells #[.string ⟨#[98]⟩, .bool false, .int .i64 1, .int .i64 3, .int .i64 0] 54)) = u2 at *
  clear hU2 q3 qa q1 t0 t1 t2 t3 t4 v0 v1 v2 v3 v4
  have g0 := S2.out.d.cell 0 rfl
  go_quiet (first | (go_at_call 90; exact Calls.quiet_of (moves_0 (S2.out.below (below_drewNB _ _)))))
  have S3 := hidD (S2.out.below (below_drewNB u2 nq))
  have X3 := hidD (X1.out.below (below_drewNB u2 nq))
  have Y3 := hidD (Y.out.below (below_drewNB u2 nq))
  generalize hU3 : u2.drewN nq = u3 at *
  go_wp2
  have h7 := S3.out.d.cell 7 rfl
  have h0 := X3.out.cell 0 rfl
  have k0 := Y3.out.cell 0 rfl
  have nED : E ≠ D := fun e => S3.out.d.ne S3.out.e (by decide) e.symm
  have nDE : D ≠ E := fun e => nED e.symm
  have nXE : ¬ u.heap.size = E := fun e => X3.out.ne S3.out.e (by decide) e
  have nEX : ¬ E = u.heap.size := fun e => nXE e.symm
  have nYE : ¬ u.heap.size + 1 = E := fun e => Y3.out.ne S3.out.e (by decide) e
  have nEY : ¬ E = u.heap.size + 1 := fun e => nYE e.symm
  go_region_held3 (fun v => v.cell? ⟨D, 7, none⟩ = some (.slice (some ⟨E, 0, none⟩) 2 2) ∧ v.cell? ⟨u.heap.size, 0, none⟩ = some (.string ⟨#[97]⟩) ∧ v.cell? ⟨u.heap.size + 1, 0, none⟩ = some (.string ⟨#[98]⟩)) (go_keep) (first | (go_at_call 89; refine (add_any (S3.out.below (below_drewB _)) (by decide) 6 ⟨#[97]⟩ ⟨#[98]⟩).mono ?_; rintro e u4 ⟨rfl, stv4, hS4, hF4⟩; have S4 := hidD hS4; have X4 := hidD (hF4 _ _ _ (X3.out.below (below_drewB _)) (by decide) (by decide)); have Y4 := hidD (hF4 _ _ _ (Y3.out.below (below_drewB _)) (by decide) (by decide)); have l7 := S4.out.d.cell 7 rfl; have l0 := X4.out.cell 0 rfl; have m0 := Y4.out.cell 0 rfl; have le := S4.out.e.cell 1 rfl; have lf := S4.out.e.frozen 1; clear hS4 hF4))
  have S5 := hidD (S4.out.setE 1 (.int .i64 0) (by simp))
  have X5 := hidD (X4.out.other (b' := E) 1 (.int .i64 0) nXE)
  have Y5 := hidD (Y4.out.other (b' := E) 1 (.int .i64 0) nYE)
  go_wp2_with fail
  refine (moves_0 S5.out).mono ?_
  rintro e u6 ⟨rfl, m, hu6⟩
  have hb6 : Below (u4.setCell ⟨E, 1, none⟩ (.int .i64 0)).heap.size (u4.setCell ⟨E, 1, none⟩ (.int .i64 0)) u6 := by rw [hu6]; exact below_drewNB _ _
  have S6 := hidD (S5.out.below hb6)
  have X6 := hidD (X5.out.below hb6)
  have Y6 := hidD (Y5.out.below hb6)
  clear hu6 hb6
  have p6 := S6.out.d.cell 6 rfl
  have p7 := S6.out.d.cell 7 rfl
  have pe := S6.out.e.cell 1 rfl
  have pc := S6.out.c.cell 0 rfl
  have pf := S6.out.c.frozen 0
  have nCD : C ≠ D := fun e => S6.out.d.ne S6.out.c (by decide) e.symm
  have nDC : D ≠ C := fun e => nCD e.symm
  have nCE : C ≠ E := S6.out.ne.2.2.2.2
  have nEC : E ≠ C := fun e => nCE e.symm
  have nXC : ¬ u.heap.size = C := fun e => X6.out.ne S6.out.c (by decide) e
  have nYC : ¬ u.heap.size + 1 = C := fun e => Y6.out.ne S6.out.c (by decide) e
  have S7 := hidD ((S6.out.setC 0 (.int .i64 0) (by simp)).below (below_drewB _))
  have X7 := hidD ((X6.out.other (b' := C) 0 (.int .i64 0) nXC).below (below_drewB _))
  have Y7 := hidD ((Y6.out.other (b' := C) 0 (.int .i64 0) nYC).below (below_drewB _))
  go_wp2
  go_region_held3 (fun v => v.cell? ⟨D, 6, none⟩ = some (.slice (some ⟨C, 0, none⟩) 2 2) ∧ v.cell? ⟨D, 7, none⟩ = some (.slice (some ⟨E, 0, none⟩) 2 2) ∧ v.cell? ⟨E, 1, none⟩ = some (.int .i64 0)) (go_keep) (first | fail)
  generalize hU7 : (u6.setCell ⟨C, 0, none⟩ (.int .i64 0)).drew = u7 at *
  have b4 := X7.out.cell 4 rfl
  have b5 := Y7.out.cell 4 rfl
  go_wp2
  have T0 := S7
  clear S7 S6 S5 S4 S3 S2 S1 S0 X X1 X3 X4 X5 X6 X7 Y Y3 Y4 Y5 Y6 Y7 BB BY hU7 hU3 g0 h7 h0 k0 nED nDE nXE nEX nYE nEY l7 l0 m0 le lf p6 p7 pe pc pf nCD nDC nCE nEC nXC nYC b4 b5 r0
  have t0 := T0.out.i.s.cell 5 rfl
  have t1 := T0.out.i.s.cell 6 rfl
  have t2 := T0.out.i.s.cell 7 rfl
  have t3 := T0.out.i.s.cell 8 rfl
  have t4 := T0.out.i.s.cell 9 rfl
  have X := hidD (Blk.new u7 54 [.string ⟨#[98]⟩, .bool false, .int .i64 2, .int .i64 3, .int .i64 0])
  have BB := hidD (box_below u7 #[.string ⟨#[98]⟩, .bool false, .int .i64 2, .int .i64 3, .int .i64 0] 54)
  have S1 := hidD (T0.out.below BB.out)
  have q3 := S1.out.d.cell 3 rfl
  have qa := S1.out.a.cell 1 rfl
  have q1 := S1.out.d.cell 1 rfl
  have v0 := S1.out.i.t.cell 0 rfl
  have v1 := S1.out.i.t.cell 1 rfl
  have v2 := S1.out.i.t.cell 2 rfl
  have v3 := S1.out.i.t.cell 3 rfl
  have v4 := S1.out.i.t.cell 4 rfl
  have BY := hidD (box_below (u7.alloc (.cells #[.string ⟨#[98]⟩, .bool false, .int .i64 2, .int .i64 3, .int .i64 0] 54)) #[.string ⟨#[97]⟩, .bool false, .int .i64 2, .int .i64 3, .int .i64 0] 54)
  have Y : Hid (Blk ((u7.alloc (.cells #[.string ⟨#[98]⟩, .bool false, .int .i64 2, .int .i64 3, .int .i64 0] 54)).alloc (.cells #[.string ⟨#[97]⟩, .bool false, .int .i64 2, .int .i64 3, .int .i64 0] 54)) (u7.heap.size + 1) 54 [.string ⟨#[97]⟩, .bool false, .int .i64 2, .int .i64 3, .int .i64 0]) := by
    have := Blk.new (u7.alloc (.cells #[.string ⟨#[98]⟩, .bool false, .int .i64 2, .int .i64 3, .int .i64 0] 54)) 54 [.string ⟨#[97]⟩, .bool false, .int .i64 2, .int .i64 3, .int .i64 0]
    rw [World.size_alloc] at this
    exact this
  have X1 := hidD (X.out.below BY.out)
  have S2 := hidD (S1.out.below BY.out)
  rw [rounds_succ]
  go_wp2
  generalize hU2 : ((u7.alloc (.cells #[.string ⟨#[98]⟩, .bool false, .int .i64 2, .int .i64 3, .int .i64 0] 54)).alloc (.cells #[.string ⟨#[97]⟩, .bool false, .int .i64 2, .int .i64 3, .int .i64 0] 54)) = x2 at *
  clear hU2 q3 qa q1 t0 t1 t2 t3 t4 v0 v1 v2 v3 v4
  have g0 := S2.out.d.cell 0 rfl
  go_quiet (first | (go_at_call 90; exact Calls.quiet_of (moves_1 (S2.out.below (below_drewNB _ _)))))
  have S3 := hidD (S2.out.below (below_drewNB x2 nq))
  have X3 := hidD (X1.out.below (below_drewNB x2 nq))
  have Y3 := hidD (Y.out.below (below_drewNB x2 nq))
  generalize hU3 : x2.drewN nq = x3 at *
  go_wp2
  have h7 := S3.out.d.cell 7 rfl
  have h0 := X3.out.cell 0 rfl
  have k0 := Y3.out.cell 0 rfl
  have nED : E ≠ D := fun e => S3.out.d.ne S3.out.e (by decide) e.symm
  have nDE : D ≠ E := fun e => nED e.symm
  have nXE : ¬ u7.heap.size = E := fun e => X3.out.ne S3.out.e (by decide) e
  have nEX : ¬ E = u7.heap.size := fun e => nXE e.symm
  have nYE : ¬ u7.heap.size + 1 = E := fun e => Y3.out.ne S3.out.e (by decide) e
  have nEY : ¬ E = u7.heap.size + 1 := fun e => nYE e.symm
  go_region_held3 (fun v => v.cell? ⟨D, 7, none⟩ = some (.slice (some ⟨E, 0, none⟩) 2 2) ∧ v.cell? ⟨u7.heap.size, 0, none⟩ = some (.string ⟨#[98]⟩) ∧ v.cell? ⟨u7.heap.size + 1, 0, none⟩ = some (.string ⟨#[97]⟩)) (go_keep) (first | (go_at_call 89; refine (add_any (S3.out.below (below_drewB _)) (by decide) 6 ⟨#[98]⟩ ⟨#[97]⟩).mono ?_; rintro e x4 ⟨rfl, stv4, hS4, hF4⟩; have S4 := hidD hS4; have X4 := hidD (hF4 _ _ _ (X3.out.below (below_drewB _)) (by decide) (by decide)); have Y4 := hidD (hF4 _ _ _ (Y3.out.below (below_drewB _)) (by decide) (by decide)); have l7 := S4.out.d.cell 7 rfl; have l0 := X4.out.cell 0 rfl; have m0 := Y4.out.cell 0 rfl; have le := S4.out.e.cell 0 rfl; have lf := S4.out.e.frozen 0; clear hS4 hF4))
  have S5 := hidD (S4.out.setE 0 (.int .i64 1) (by simp))
  have X5 := hidD (X4.out.other (b' := E) 0 (.int .i64 1) nXE)
  have Y5 := hidD (Y4.out.other (b' := E) 0 (.int .i64 1) nYE)
  go_wp2_with fail
  refine (moves_1 S5.out).mono ?_
  rintro e x6 ⟨rfl, m, hx6⟩
  have hb6 : Below (x4.setCell ⟨E, 0, none⟩ (.int .i64 1)).heap.size (x4.setCell ⟨E, 0, none⟩ (.int .i64 1)) x6 := by rw [hx6]; exact below_drewNB _ _
  have S6 := hidD (S5.out.below hb6)
  have X6 := hidD (X5.out.below hb6)
  have Y6 := hidD (Y5.out.below hb6)
  clear hx6 hb6
  have p6 := S6.out.d.cell 6 rfl
  have p7 := S6.out.d.cell 7 rfl
  have pe := S6.out.e.cell 0 rfl
  have pc := S6.out.c.cell 1 rfl
  have pf := S6.out.c.frozen 1
  have nCD : C ≠ D := fun e => S6.out.d.ne S6.out.c (by decide) e.symm
  have nDC : D ≠ C := fun e => nCD e.symm
  have nCE : C ≠ E := S6.out.ne.2.2.2.2
  have nEC : E ≠ C := fun e => nCE e.symm
  have nXC : ¬ u7.heap.size = C := fun e => X6.out.ne S6.out.c (by decide) e
  have nYC : ¬ u7.heap.size + 1 = C := fun e => Y6.out.ne S6.out.c (by decide) e
  have S7 := hidD ((S6.out.setC 1 (.int .i64 1) (by simp)).below (below_drewB _))
  have X7 := hidD ((X6.out.other (b' := C) 1 (.int .i64 1) nXC).below (below_drewB _))
  have Y7 := hidD ((Y6.out.other (b' := C) 1 (.int .i64 1) nYC).below (below_drewB _))
  go_wp2
  go_region_held3 (fun v => v.cell? ⟨D, 6, none⟩ = some (.slice (some ⟨C, 0, none⟩) 2 2) ∧ v.cell? ⟨D, 7, none⟩ = some (.slice (some ⟨E, 0, none⟩) 2 2) ∧ v.cell? ⟨E, 0, none⟩ = some (.int .i64 1)) (go_keep) (first | fail)
  generalize hU7 : (x6.setCell ⟨C, 1, none⟩ (.int .i64 1)).drew = x7 at *
  have b4 := X7.out.cell 4 rfl
  have b5 := Y7.out.cell 4 rfl
  go_wp2
  rw [rounds_succ]
  go_wp2
  refine bodyPost_end (results_none rfl _ _ _) rfl ?_
  exact ⟨rfl, _, S7.out⟩
end Go.Proofs.YtemkpollilhmjaaGreatDoor

/- The planner at two files that change their names: what waits for what. -/
namespace Go.Proofs.YtemkpollilhmjaaGreatDoor
open Go.RowKit
set_option linter.unusedVariables false
set_option linter.unusedSimpArgs false

theorem par_a : parentB (⟨#[97]⟩ : ByteArray) = ⟨#[]⟩ := by kernel_rfl
theorem par_b : parentB (⟨#[98]⟩ : ByteArray) = ⟨#[]⟩ := by kernel_rfl
theorem parent0 (w : World) : Calls Tryz.prog 95 #[.string ⟨#[97]⟩] w fun e w' => e = .returned (.string ⟨#[]⟩) ∧ w' = w := by
  have := parent_any ⟨#[97]⟩ w (by decide) (by decide)
  rwa [par_a] at this
theorem parent1 (w : World) : Calls Tryz.prog 95 #[.string ⟨#[98]⟩] w fun e w' => e = .returned (.string ⟨#[]⟩) ∧ w' = w := by
  have := parent_any ⟨#[98]⟩ w (by decide) (by decide)
  rwa [par_b] at this
theorem find_sE : fstI (fun o => sameB false o.path.data.toList (⟨#[]⟩ : ByteArray).data.toList) sD = -1 := by kernel_rfl
theorem find_tE : fstI (fun o => sameB false o.path.data.toList (⟨#[]⟩ : ByteArray).data.toList) tD = -1 := by kernel_rfl
theorem Inp.findE {u : World} {bs bt : Nat} (h : Inp u bs bt) : Calls Tryz.prog 94 #[.slice (some ⟨bs, 0, none⟩) 2 2, .string ⟨#[]⟩, .bool false] u fun e w' => e = .returned (.int .i64 (-1)) ∧ Below u.heap.size u w' := by
  have := find_any bs 0 2 sD ⟨#[]⟩ false u (by decide) sD_small (by decide) h.s.lt h.es
  rwa [find_sE] at this
theorem Inp.findT {u : World} {bs bt : Nat} (h : Inp u bs bt) : Calls Tryz.prog 94 #[.slice (some ⟨bt, 0, none⟩) 2 2, .string ⟨#[]⟩, .bool false] u fun e w' => e = .returned (.int .i64 (-1)) ∧ Below u.heap.size u w' := by
  have := find_any bt 0 2 tD ⟨#[]⟩ false u (by decide) tD_small (by decide) h.t.lt h.et
  rwa [find_tE] at this

set_option maxHeartbeats 4000000 in
set_option maxRecDepth 100000 in
theorem waitForEmpty_swap {w0 u : World} {D A B C E bs bt : Nat} {lv cm : List Value} {stv : Value} {n : Nat} {st : List Value} (S : Dst w0 u D A B C E bs bt lv cm stv n st) :
    Calls Tryz.prog 68 #[.pointer (some ⟨D, 0, none⟩)] u fun e w' => e = .returned (.tuple #[]) ∧ Dst w0 w' D A B C E bs bt lv cm stv n st := by
  have S0 := hidD S
  have r0 := S.d.cell 0 rfl
  clear S
  have t0 := S0.out.i.s.cell 0 rfl
  have t1 := S0.out.i.s.cell 1 rfl
  have t2 := S0.out.i.s.cell 2 rfl
  have t3 := S0.out.i.s.cell 3 rfl
  have t4 := S0.out.i.s.cell 4 rfl
  have X := hidD (Blk.new u 54 [.string ⟨#[97]⟩, .bool false, .int .i64 1, .int .i64 3, .int .i64 0])
  have BB := hidD (box_below u #[.string ⟨#[97]⟩, .bool false, .int .i64 1, .int .i64 3, .int .i64 0] 54)
  have S1 := hidD (S0.out.below BB.out)
  have q0 := S1.out.d.cell 0 rfl
  have x0 := X.out.cell 0 rfl
  go_enter Tryz.func68, Tryz.ntmps68
  go_wp2
  refine wp_loop_rounds 3 ?_
  rw [rounds_succ]
  go_wp2
  generalize hU : u.alloc (.cells #[.string ⟨#[97]⟩, .bool false, .int .i64 1, .int .i64 3, .int .i64 0] 54) = v0 at *
  go_region_held3 (fun v => v.cell? ⟨D, 0, none⟩ = some (.slice (some ⟨bs, 0, none⟩) 2 2) ∧ v.cell? ⟨u.heap.size, 0, none⟩ = some (.string ⟨#[97]⟩)) (go_keep) (first | (go_at_call 95; refine (parent0 _).mono ?_; rintro e z ⟨rfl, hz⟩; rw [hz]; clear hz z) | (go_at_call 94; refine ((S1.out.below (below_drewB _)).i.findE).mono ?_; rintro e w1 ⟨rfl, hb⟩; have T1 := hidD ((S1.out.below (below_drewB _)).below hb); have X2 := hidD ((X.out.below (below_drewB _)).below hb); have z0 := T1.out.d.cell 0 rfl; have z1 := X2.out.cell 0 rfl; clear hb))
  go_wp2
  clear X X2 BB S1 q0 x0 t0 t1 t2 t3 t4 z0 z1 hU
  have t0 := T1.out.i.s.cell 5 rfl
  have t1 := T1.out.i.s.cell 6 rfl
  have t2 := T1.out.i.s.cell 7 rfl
  have t3 := T1.out.i.s.cell 8 rfl
  have t4 := T1.out.i.s.cell 9 rfl
  have X := hidD (Blk.new w1 54 [.string ⟨#[98]⟩, .bool false, .int .i64 2, .int .i64 3, .int .i64 0])
  have BB := hidD (box_below w1 #[.string ⟨#[98]⟩, .bool false, .int .i64 2, .int .i64 3, .int .i64 0] 54)
  have S1 := hidD (T1.out.below BB.out)
  have q0 := S1.out.d.cell 0 rfl
  have x0 := X.out.cell 0 rfl
  rw [rounds_succ]
  go_wp2
  generalize hU : w1.alloc (.cells #[.string ⟨#[98]⟩, .bool false, .int .i64 2, .int .i64 3, .int .i64 0] 54) = v1 at *
  go_region_held3 (fun v => v.cell? ⟨D, 0, none⟩ = some (.slice (some ⟨bs, 0, none⟩) 2 2) ∧ v.cell? ⟨w1.heap.size, 0, none⟩ = some (.string ⟨#[98]⟩)) (go_keep) (first | (go_at_call 95; refine (parent1 _).mono ?_; rintro e z ⟨rfl, hz⟩; rw [hz]; clear hz z) | (go_at_call 94; refine ((S1.out.below (below_drewB _)).i.findE).mono ?_; rintro e w2 ⟨rfl, hb⟩; have T2 := hidD ((S1.out.below (below_drewB _)).below hb); have X2 := hidD ((X.out.below (below_drewB _)).below hb); have z0 := T2.out.d.cell 0 rfl; have z1 := X2.out.cell 0 rfl; clear hb))
  go_wp2
  clear X X2 BB S1 q0 x0 t0 t1 t2 t3 t4 z0 z1 hU
  rw [rounds_succ]
  go_wp2
  refine bodyPost_end (results_none rfl _ _ _) rfl ?_
  exact ⟨rfl, T2.out⟩

end Go.Proofs.YtemkpollilhmjaaGreatDoor

/- The planner at two files that change their names: a step waits for another. -/
namespace Go.Proofs.YtemkpollilhmjaaGreatDoor
open Go.RowKit
set_option linter.unusedVariables false
set_option linter.unusedSimpArgs false

theorem blk_of_row {u : World} {B e s g n c : Nat} {xs : List Value} (h : u.ownsRow B e s (.slice (some ⟨g, 0, none⟩) n c) n xs) : Blk u g e xs := by
  rcases h.2 with ⟨h', _⟩ | ⟨g', cap, cur, h', hB, hg, hn, hm, hs, hp⟩
  · cases h'
  · cases h'
    refine ⟨cur, hg, fun j v hv => ?_⟩
    have hc := h.cellAt j (by have := h.1; have := (List.getElem?_eq_some_iff.1 hv).1; omega)
    rw [Lib.cell_of_heap hg] at hc
    rw [hc]
    exact hv
theorem Dst.setSt {w0 u : World} {D A B C E bs bt g c : Nat} {lv cm : List Value} {n : Nat} {st : List Value} (h : Dst w0 u D A B C E bs bt lv cm (.slice (some ⟨g, 0, none⟩) n c) n st) (j : Nat) (v : Value) : Dst w0 (u.setCell ⟨g, j, none⟩ v) D A B C E bs bt lv cm (.slice (some ⟨g, 0, none⟩) n c) n (st.set j v) := by
  have G := blk_of_row h.st
  have hg := (h.st.lt g rfl).1
  exact ⟨below_set h.bel _ _ _ h.bel.size hg, h.ge, h.ne, h.d.other j v (h.d.ne G (by decide)), h.a.other j v (h.a.ne G (by decide)), h.b.other j v (h.b.ne G (by decide)), h.c.other j v (h.c.ne G (by decide)), h.e.other j v (h.e.ne G (by decide)), ⟨h.i.s.other j v (h.i.s.ne G (by decide)), h.i.t.other j v (h.i.t.ne G (by decide))⟩, (h.st.stored j v).1⟩
theorem below_of_none {u u' : World} (h : u.grownBy u' none) : Below u.heap.size u u' := ⟨h.os, h.tape, h.output, h.size, fun k hk => h.block k hk (by simp)⟩
theorem info3 : (Tryz.prog.info? 3).map (fun i => (i.zero, i.size, i.bytes)) = some (some (.int .i64 0), 1, 8) := by kernel_rfl

set_option maxHeartbeats 4000000 in
set_option maxRecDepth 100000 in
theorem waitFreed_10 {w0 u : World} {D A B C E bs bt g c : Nat} {lv cm : List Value} {st : List Value} (S : Dst w0 u D A B C E bs bt lv cm (.slice (some ⟨g, 0, none⟩) 2 c) 2 st) (h6 : st[15]? = some (.int .i64 0)) (h7 : st[7]? = some (.slice none 0 0)) :
    Calls Tryz.prog 96 #[.pointer (some ⟨D, 0, none⟩), .int .i64 1, .int .i64 0] u fun e w' => e = .returned (.tuple #[]) ∧ ∃ F cF, Dst w0 w' D A B C E bs bt lv cm (.slice (some ⟨g, 0, none⟩) 2 c) 2 ((st.set 15 (.int .i64 1)).set 7 (.slice (some ⟨F, 0, none⟩) 1 cF)) ∧ Blk w' F 3 [.int .i64 1] ∧ w0.heap.size ≤ F ∧ ∀ (b : Nat) (T : TypeId) (xs : List Value), Blk u b T xs → T ≠ 103 → Blk w' b T xs := by
  obtain ⟨i0, hi, hz0, hz1, hz2⟩ := info_parts info3
  have S0 := hidD S
  have G := blk_of_row S.st
  have d5 := S.d.cell 5 rfl
  have c6 := G.cell 15 h6
  have f6 := G.frozen 15
  have S1 := hidD (S.setSt 15 (.int .i64 1))
  have e7 : (st.set 15 (.int .i64 1))[7]? = some (.slice none 0 0) := by rw [List.getElem?_set_ne (by decide)]; exact h7
  have G1 := blk_of_row S1.out.st
  have d5' := S1.out.d.cell 5 rfl
  have c7 := G1.cell 7 e7
  have HG := hidD (And.intro G G1)
  clear S G G1
  go_enter Tryz.func96, Tryz.ntmps96
  go_wp2
  generalize hU : u.setCell ⟨g, 15, none⟩ (.int .i64 1) = U at *
  have hbU : Below U.heap.size U (U.alloc (.cells #[.int .i64 1] 3)).drew := (box_below U #[.int .i64 1] 3).trans (Below.mono (below_drewB _) (by simp))
  have S2 := hidD (S1.out.below hbU)
  have k5 : (U.alloc (.cells #[.int .i64 1] 3)).cell? ⟨D, 5, none⟩ = some (.slice (some ⟨g, 0, none⟩) 2 c) := S2.out.d.cell 5 rfl
  have k7 : (U.alloc (.cells #[.int .i64 1] 3)).cell? ⟨g, 7, none⟩ = some (.slice none 0 0) := (blk_of_row S2.out.st).cell 7 e7
  have hz2' := S2.out.bel.size
  have HF := hidD (fun (w6 : World) (hg : (U.alloc (.cells #[.int .i64 1] 3)).drew.grownBy w6 none) => S2.out.below (below_of_none hg))
  go_region_law ((refine step_append_lies _ (by rfl) (.tmp 31) (.tmp 33) 24 (by rfl) w0.heap.size 3 i0 _ 1 8 Tryz.underlying24 hi hz0 hz1 hz2 rfl (by decide) (.slice none 0 0) 0 [] (by rfl) (World.ownsRow_nil _ _ _ _) ⟨U.heap.size, 0, none⟩ 1 1 [.int .i64 1] (by rfl) rfl (new_at U 3 [.int .i64 1]) (by intro x hx; rw [List.mem_singleton.1 hx]; rfl) (by decide) (by unfold maxLen; omega) (by omega) hz2' _ rfl ?_; intro g6 c6' w6 hown6 hg6 hat6 hlt6; have S6 := hidD (HF.out w6 hg6); have l5 := S6.out.d.cell 5 rfl; have l7 := (blk_of_row S6.out.st).cell 7 e7; have lf := (blk_of_row S6.out.st).frozen 7))
  all_goals
    refine bodyPost_end (results_none rfl _ _ _) rfl ?_
    have F6 := blk_of_row hown6
    have G6 := blk_of_row S6.out.st
    refine ⟨rfl, g6, c6', S6.out.setSt 7 (.slice (some ⟨g6, 0, none⟩) 1 c6'), F6.other 7 _ (F6.ne G6 (by decide)), (hown6.lt g6 rfl).1, fun b T xs h hT => ?_⟩
    have h1 := h.other (b' := g) 15 (.int .i64 1) (h.ne HG.out.1 hT)
    rw [hU] at h1
    have h2 := (h1.below hbU).below (below_of_none hg6)
    exact h2.other 7 _ (h2.ne G6 hT)

set_option maxHeartbeats 4000000 in
set_option maxRecDepth 100000 in
theorem waitFreed_01 {w0 u : World} {D A B C E bs bt g c : Nat} {lv cm : List Value} {st : List Value} (S : Dst w0 u D A B C E bs bt lv cm (.slice (some ⟨g, 0, none⟩) 2 c) 2 st) (h6 : st[6]? = some (.int .i64 0)) (h7 : st[16]? = some (.slice none 0 0)) :
    Calls Tryz.prog 96 #[.pointer (some ⟨D, 0, none⟩), .int .i64 0, .int .i64 1] u fun e w' => e = .returned (.tuple #[]) ∧ ∃ F cF, Dst w0 w' D A B C E bs bt lv cm (.slice (some ⟨g, 0, none⟩) 2 c) 2 ((st.set 6 (.int .i64 1)).set 16 (.slice (some ⟨F, 0, none⟩) 1 cF)) ∧ Blk w' F 3 [.int .i64 0] ∧ w0.heap.size ≤ F ∧ ∀ (b : Nat) (T : TypeId) (xs : List Value), Blk u b T xs → T ≠ 103 → Blk w' b T xs := by
  obtain ⟨i0, hi, hz0, hz1, hz2⟩ := info_parts info3
  have S0 := hidD S
  have G := blk_of_row S.st
  have d5 := S.d.cell 5 rfl
  have c6 := G.cell 6 h6
  have f6 := G.frozen 6
  have S1 := hidD (S.setSt 6 (.int .i64 1))
  have e7 : (st.set 6 (.int .i64 1))[16]? = some (.slice none 0 0) := by rw [List.getElem?_set_ne (by decide)]; exact h7
  have G1 := blk_of_row S1.out.st
  have d5' := S1.out.d.cell 5 rfl
  have c7 := G1.cell 16 e7
  have HG := hidD (And.intro G G1)
  clear S G G1
  go_enter Tryz.func96, Tryz.ntmps96
  go_wp2
  generalize hU : u.setCell ⟨g, 6, none⟩ (.int .i64 1) = U at *
  have hbU : Below U.heap.size U (U.alloc (.cells #[.int .i64 0] 3)).drew := (box_below U #[.int .i64 0] 3).trans (Below.mono (below_drewB _) (by simp))
  have S2 := hidD (S1.out.below hbU)
  have k5 : (U.alloc (.cells #[.int .i64 0] 3)).cell? ⟨D, 5, none⟩ = some (.slice (some ⟨g, 0, none⟩) 2 c) := S2.out.d.cell 5 rfl
  have k7 : (U.alloc (.cells #[.int .i64 0] 3)).cell? ⟨g, 16, none⟩ = some (.slice none 0 0) := (blk_of_row S2.out.st).cell 16 e7
  have hz2' := S2.out.bel.size
  have HF := hidD (fun (w6 : World) (hg : (U.alloc (.cells #[.int .i64 0] 3)).drew.grownBy w6 none) => S2.out.below (below_of_none hg))
  go_region_law ((refine step_append_lies _ (by rfl) (.tmp 31) (.tmp 33) 24 (by rfl) w0.heap.size 3 i0 _ 1 8 Tryz.underlying24 hi hz0 hz1 hz2 rfl (by decide) (.slice none 0 0) 0 [] (by rfl) (World.ownsRow_nil _ _ _ _) ⟨U.heap.size, 0, none⟩ 1 1 [.int .i64 0] (by rfl) rfl (new_at U 3 [.int .i64 0]) (by intro x hx; rw [List.mem_singleton.1 hx]; rfl) (by decide) (by unfold maxLen; omega) (by omega) hz2' _ rfl ?_; intro g6 c6' w6 hown6 hg6 hat6 hlt6; have S6 := hidD (HF.out w6 hg6); have l5 := S6.out.d.cell 5 rfl; have l7 := (blk_of_row S6.out.st).cell 16 e7; have lf := (blk_of_row S6.out.st).frozen 16))
  all_goals
    refine bodyPost_end (results_none rfl _ _ _) rfl ?_
    have F6 := blk_of_row hown6
    have G6 := blk_of_row S6.out.st
    refine ⟨rfl, g6, c6', S6.out.setSt 16 (.slice (some ⟨g6, 0, none⟩) 1 c6'), F6.other 16 _ (F6.ne G6 (by decide)), (hown6.lt g6 rfl).1, fun b T xs h hT => ?_⟩
    have h1 := h.other (b' := g) 6 (.int .i64 1) (h.ne HG.out.1 hT)
    rw [hU] at h1
    have h2 := (h1.below hbU).below (below_of_none hg6)
    exact h2.other 16 _ (h2.ne G6 hT)

end Go.Proofs.YtemkpollilhmjaaGreatDoor

/- The planner at two files that change their names: each waits for the other. -/
namespace Go.Proofs.YtemkpollilhmjaaGreatDoor
open Go.RowKit
set_option linter.unusedVariables false
set_option linter.unusedSimpArgs false

def st0 : List Value := stepC 6 ⟨#[97]⟩ ⟨#[98]⟩ ++ stepC 6 ⟨#[98]⟩ ⟨#[97]⟩
/-- The two steps, each waiting for the other. -/
def st2 (F0 c0 F1 c1 : Nat) : List Value := [.int .i64 6, .string ⟨#[97]⟩, .string ⟨#[98]⟩, .int .i64 0, .int .i64 0, .int .i64 0, .int .i64 1, .slice (some ⟨F0, 0, none⟩) 1 c0, .slice none 0 0, .int .i64 6, .string ⟨#[98]⟩, .string ⟨#[97]⟩, .int .i64 0, .int .i64 0, .int .i64 0, .int .i64 1, .slice (some ⟨F1, 0, none⟩) 1 c1, .slice none 0 0]

set_option maxHeartbeats 4000000 in
set_option maxRecDepth 100000 in
theorem waitForPlace_swap {w0 u : World} {D A B C E bs bt g c : Nat} (S : Dst w0 u D A B C E bs bt [.int .i64 0, .int .i64 1] [.int .i64 1, .int .i64 0] (.slice (some ⟨g, 0, none⟩) 2 c) 2 st0) :
    Calls Tryz.prog 69 #[.pointer (some ⟨D, 0, none⟩)] u fun e w' => e = .returned (.tuple #[]) ∧ ∃ F0 c0 F1 c1, Dst w0 w' D A B C E bs bt [.int .i64 0, .int .i64 1] [.int .i64 1, .int .i64 0] (.slice (some ⟨g, 0, none⟩) 2 c) 2 (st2 F0 c0 F1 c1) ∧ Blk w' F0 3 [.int .i64 1] ∧ Blk w' F1 3 [.int .i64 0] ∧ F0 ≠ F1 ∧ w0.heap.size ≤ F0 ∧ w0.heap.size ≤ F1 := by
  have S0 := hidD S
  have r1 := S.d.cell 1 rfl
  clear S
  have t0 := S0.out.i.t.cell 0 rfl
  have t1 := S0.out.i.t.cell 1 rfl
  have t2 := S0.out.i.t.cell 2 rfl
  have t3 := S0.out.i.t.cell 3 rfl
  have t4 := S0.out.i.t.cell 4 rfl
  have X := hidD (Blk.new u 54 [.string ⟨#[97]⟩, .bool false, .int .i64 2, .int .i64 3, .int .i64 0])
  have BB := hidD (box_below u #[.string ⟨#[97]⟩, .bool false, .int .i64 2, .int .i64 3, .int .i64 0] 54)
  have S1 := hidD (S0.out.below BB.out)
  have q7 := S1.out.d.cell 7 rfl
  have qe := S1.out.e.cell 0 rfl
  have q0 := S1.out.d.cell 0 rfl
  have q2 := S1.out.d.cell 2 rfl
  have x0 := X.out.cell 0 rfl
  go_enter Tryz.func69, Tryz.ntmps69
  go_wp2
  refine wp_loop_rounds 3 ?_
  rw [rounds_succ]
  go_wp2
  generalize hU : u.alloc (.cells #[.string ⟨#[97]⟩, .bool false, .int .i64 2, .int .i64 3, .int .i64 0] 54) = v0 at *
  go_region_held3 (fun v => v.cell? ⟨D, 0, none⟩ = some (.slice (some ⟨bs, 0, none⟩) 2 2) ∧ v.cell? ⟨u.heap.size, 0, none⟩ = some (.string ⟨#[97]⟩) ∧ v.cell? ⟨D, 2, none⟩ = some (.bool false)) (go_keep) (first | (go_at_call 94; refine ((S1.out.below (below_drewB _)).i.find0).mono ?_; rintro e y0 ⟨rfl, hb⟩; have hby : Below v0.heap.size v0 y0 := (below_drewB _).trans hb; have S2 := hidD (S1.out.below hby); have X2 := hidD (X.out.below hby); have z0 := S2.out.d.cell 0 rfl; have z1 := X2.out.cell 0 rfl; have z2 := S2.out.d.cell 2 rfl; clear hb hby))
  have a7 := S2.out.d.cell 7 rfl
  have ae := S2.out.e.cell 0 rfl
  have a6 := S2.out.d.cell 6 rfl
  have ac := S2.out.c.cell 0 rfl
  clear q7 qe q0 q2 x0 z0 z1 z2
  go_wp2
  go_region_held3 (fun v => v.cell? ⟨D, 7, none⟩ = some (.slice (some ⟨E, 0, none⟩) 2 2) ∧ v.cell? ⟨E, 0, none⟩ = some (.int .i64 1) ∧ v.cell? ⟨D, 6, none⟩ = some (.slice (some ⟨C, 0, none⟩) 2 2) ∧ v.cell? ⟨C, 0, none⟩ = some (.int .i64 0)) (go_keep) (first | (go_at_call 96; refine (waitFreed_10 (S2.out.below (below_drewB _)) rfl rfl).mono ?_; rintro e x0 ⟨rfl, F0, cF0, hS3, hF3, hge0, hfr⟩; have S3 := hidD hS3; have X3 := hidD (hfr _ _ _ (X2.out.below (below_drewB _)) (by decide)); have NF0 := hidD hF3; have b7 := S3.out.d.cell 7 rfl; have be := S3.out.e.cell 0 rfl; have b6 := S3.out.d.cell 6 rfl; have bc := S3.out.c.cell 0 rfl; clear hS3 hF3 hfr))
  have p1 := S3.out.d.cell 1 rfl
  have p0 := X3.out.cell 0 rfl
  go_wp2
  go_region_held3 (fun v => v.cell? ⟨D, 1, none⟩ = some (.slice (some ⟨bt, 0, none⟩) 2 2) ∧ v.cell? ⟨u.heap.size, 0, none⟩ = some (.string ⟨#[97]⟩)) (go_keep) (first | (go_at_call 95; refine (parent0 _).mono ?_; rintro e z ⟨rfl, hz⟩; rw [hz]; clear hz z) | (go_at_call 94; refine ((S3.out.below (below_drewB _)).i.findT).mono ?_; rintro e w0 ⟨rfl, hb⟩; have hby : Below x0.heap.size x0 w0 := (below_drewB _).trans hb; have T0 := hidD (S3.out.below hby); have X4 := hidD (X3.out.below hby); have HF0 := hidD (NF0.out.below hby); have z0 := T0.out.d.cell 1 rfl; have z1 := X4.out.cell 0 rfl; clear hb hby))
  go_wp2
  have FB0 := HF0
  clear S1 S2 S3 X X2 X3 X4 BB a7 ae a6 ac b7 be b6 bc p1 p0 z0 z1 t0 t1 t2 t3 t4 hU NF0
  have t0 := T0.out.i.t.cell 5 rfl
  have t1 := T0.out.i.t.cell 6 rfl
  have t2 := T0.out.i.t.cell 7 rfl
  have t3 := T0.out.i.t.cell 8 rfl
  have t4 := T0.out.i.t.cell 9 rfl
  have X := hidD (Blk.new w0 54 [.string ⟨#[98]⟩, .bool false, .int .i64 1, .int .i64 3, .int .i64 0])
  have BB := hidD (box_below w0 #[.string ⟨#[98]⟩, .bool false, .int .i64 1, .int .i64 3, .int .i64 0] 54)
  have S1 := hidD (T0.out.below BB.out)
  have FB1 := hidD (FB0.out.below BB.out)
  have q7 := S1.out.d.cell 7 rfl
  have qe := S1.out.e.cell 1 rfl
  have q0 := S1.out.d.cell 0 rfl
  have q2 := S1.out.d.cell 2 rfl
  have x0 := X.out.cell 0 rfl
  rw [rounds_succ]
  go_wp2
  generalize hU : w0.alloc (.cells #[.string ⟨#[98]⟩, .bool false, .int .i64 1, .int .i64 3, .int .i64 0] 54) = v1 at *
  go_region_held3 (fun v => v.cell? ⟨D, 0, none⟩ = some (.slice (some ⟨bs, 0, none⟩) 2 2) ∧ v.cell? ⟨w0.heap.size, 0, none⟩ = some (.string ⟨#[98]⟩) ∧ v.cell? ⟨D, 2, none⟩ = some (.bool false)) (go_keep) (first | (go_at_call 94; refine ((S1.out.below (below_drewB _)).i.find1).mono ?_; rintro e y1 ⟨rfl, hb⟩; have hby : Below v1.heap.size v1 y1 := (below_drewB _).trans hb; have S2 := hidD (S1.out.below hby); have X2 := hidD (X.out.below hby); have FB2 := hidD (FB1.out.below hby); have z0 := S2.out.d.cell 0 rfl; have z1 := X2.out.cell 0 rfl; have z2 := S2.out.d.cell 2 rfl; clear hb hby))
  have a7 := S2.out.d.cell 7 rfl
  have ae := S2.out.e.cell 1 rfl
  have a6 := S2.out.d.cell 6 rfl
  have ac := S2.out.c.cell 1 rfl
  clear q7 qe q0 q2 x0 z0 z1 z2
  go_wp2
  go_region_held3 (fun v => v.cell? ⟨D, 7, none⟩ = some (.slice (some ⟨E, 0, none⟩) 2 2) ∧ v.cell? ⟨E, 1, none⟩ = some (.int .i64 0) ∧ v.cell? ⟨D, 6, none⟩ = some (.slice (some ⟨C, 0, none⟩) 2 2) ∧ v.cell? ⟨C, 1, none⟩ = some (.int .i64 1)) (go_keep) (first | (go_at_call 96; refine (waitFreed_01 (S2.out.below (below_drewB _)) rfl rfl).mono ?_; rintro e x1 ⟨rfl, F1, cF1, hS3, hF3, hge1, hfr⟩; have S3 := hidD hS3; have X3 := hidD (hfr _ _ _ (X2.out.below (below_drewB _)) (by decide)); have NF1 := hidD hF3; have FB3 := hidD (hfr _ _ _ (FB2.out.below (below_drewB _)) (by decide)); have nF := hidD (hfr _ _ _ (FB2.out.below (below_drewB _)) (by decide)); have b7 := S3.out.d.cell 7 rfl; have be := S3.out.e.cell 1 rfl; have b6 := S3.out.d.cell 6 rfl; have bc := S3.out.c.cell 1 rfl; clear hS3 hF3 hfr))
  have p1 := S3.out.d.cell 1 rfl
  have p0 := X3.out.cell 0 rfl
  go_wp2
  go_region_held3 (fun v => v.cell? ⟨D, 1, none⟩ = some (.slice (some ⟨bt, 0, none⟩) 2 2) ∧ v.cell? ⟨w0.heap.size, 0, none⟩ = some (.string ⟨#[98]⟩)) (go_keep) (first | (go_at_call 95; refine (parent1 _).mono ?_; rintro e z ⟨rfl, hz⟩; rw [hz]; clear hz z) | (go_at_call 94; refine ((S3.out.below (below_drewB _)).i.findT).mono ?_; rintro e w1 ⟨rfl, hb⟩; have hby : Below x1.heap.size x1 w1 := (below_drewB _).trans hb; have T1 := hidD (S3.out.below hby); have X4 := hidD (X3.out.below hby); have HF1 := hidD (NF1.out.below hby); have FB4 := hidD (FB3.out.below hby); have z0 := T1.out.d.cell 1 rfl; have z1 := X4.out.cell 0 rfl; clear hb hby))
  go_wp2
  rw [rounds_succ]
  go_wp2
  refine bodyPost_end (results_none rfl _ _ _) rfl ?_
  refine ⟨rfl, F0, cF0, F1, cF1, T1.out, FB4.out, HF1.out, fun e => ?_, hge0, hge1⟩
  subst e
  have q1 := FB4.out.cell 0 rfl
  have q2 := HF1.out.cell 0 rfl
  rw [q1] at q2
  simp at q2
end Go.Proofs.YtemkpollilhmjaaGreatDoor

/- The planner at two files that change their names: all its steps. -/
namespace Go.Proofs.YtemkpollilhmjaaGreatDoor
open Go.RowKit
set_option linter.unusedVariables false
set_option linter.unusedSimpArgs false

theorem row_form {u : World} {B e s n : Nat} {v : Value} {xs : List Value} (h : u.ownsRow B e s v n xs) (hn : 0 < n) : ∃ g c, v = .slice (some ⟨g, 0, none⟩) n c := by
  rcases h.2 with ⟨_, h0⟩ | ⟨g, cap, cur, rfl, _⟩
  · omega
  · exact ⟨_, _, rfl⟩

set_option maxHeartbeats 4000000 in
set_option maxRecDepth 100000 in
theorem steps_swap {w : World} {bs bt : Nat} (I : Inp w bs bt) :
    Calls Tryz.prog 45 #[.slice (some ⟨bs, 0, none⟩) 2 2, .slice (some ⟨bt, 0, none⟩) 2 2, .bool false] w fun e w' => ∃ g c F0 c0 F1 c1, e = .returned (.slice (some ⟨g, 0, none⟩) 2 c) ∧ w'.ownsRow w.heap.size 103 9 (.slice (some ⟨g, 0, none⟩) 2 c) 2 (st2 F0 c0 F1 c1) ∧ Blk w' F0 3 [.int .i64 1] ∧ Blk w' F1 3 [.int .i64 0] ∧ F0 ≠ F1 ∧ w.heap.size ≤ F0 ∧ w.heap.size ≤ F1 ∧ Below w.heap.size w w' := by
  have HI := hidD I
  clear I
  go_enter Tryz.func45, Tryz.ntmps45
  go_wp2_with fail
  refine (newMatch_swap HI.out).mono ?_
  rintro e w1 ⟨A, B, rfl, hAB, hA, hB, bA, bB, hb1⟩
  have BA := hidD bA
  have BB := hidD bB
  have HB1 := hidD hb1
  have ltA := bA.lt
  have ltB := bB.lt
  clear bA bB hb1
  go_wp2_with fail
  refine (numbers2 _).mono ?_
  rintro e w2 ⟨C, rfl, hC, rC, hb2⟩
  have BA2 := hidD (BA.out.below hb2)
  have BB2 := hidD (BB.out.below hb2)
  have BC2 := hidD (Blk.of rC)
  have HB2 := hidD (HB1.out.trans (hb2.mono HB1.out.size))
  have ltC := (Blk.of rC).lt
  have hz12 := hb2.size
  clear rC hb2 BA BB
  go_wp2_with fail
  refine (numbers2 _).mono ?_
  rintro e w3 ⟨E, rfl, hE, rE, hb3⟩
  have BA3 := hidD (BA2.out.below hb3)
  have BB3 := hidD (BB2.out.below hb3)
  have BC3 := hidD (BC2.out.below hb3)
  have BE3 := hidD (Blk.of rE)
  have HB3 := hidD (HB2.out.trans (hb3.mono HB2.out.size))
  have hz23 := hb3.size
  have hw1 := HB1.out.size
  have hw3 := HB3.out.size
  clear rE hb3 BA2 BB2 BC2 HB2
  have BD := hidD (box_below w3 #[.slice (some ⟨bs, 0, none⟩) 2 2, .slice (some ⟨bt, 0, none⟩) 2 2, .bool false, .slice (some ⟨A, 0, none⟩) 2 2, .slice (some ⟨B, 0, none⟩) 2 2, .slice none 0 0, .slice (some ⟨C, 0, none⟩) 2 2, .slice (some ⟨E, 0, none⟩) 2 2] 113)
  have XD := hidD (Blk.new w3 113 [.slice (some ⟨bs, 0, none⟩) 2 2, .slice (some ⟨bt, 0, none⟩) 2 2, .bool false, .slice (some ⟨A, 0, none⟩) 2 2, .slice (some ⟨B, 0, none⟩) 2 2, .slice none 0 0, .slice (some ⟨C, 0, none⟩) 2 2, .slice (some ⟨E, 0, none⟩) 2 2])
  have HB4 := hidD (HB3.out.trans (BD.out.mono HB3.out.size))
  have S4 : Hid (Dst w (w3.alloc (.cells #[.slice (some ⟨bs, 0, none⟩) 2 2, .slice (some ⟨bt, 0, none⟩) 2 2, .bool false, .slice (some ⟨A, 0, none⟩) 2 2, .slice (some ⟨B, 0, none⟩) 2 2, .slice none 0 0, .slice (some ⟨C, 0, none⟩) 2 2, .slice (some ⟨E, 0, none⟩) 2 2] 113)) w3.heap.size A B C E bs bt [.int .i64 (-1), .int .i64 (-1)] [.int .i64 (-1), .int .i64 (-1)] (.slice none 0 0) 0 []) := ⟨HB4.out, ⟨hw3, hA, hB, by omega, by omega⟩, ⟨by omega, by omega, by omega, by omega, by omega⟩, XD.out, BA3.out.below BD.out, BB3.out.below BD.out, BC3.out.below BD.out, BE3.out.below BD.out, HI.out.below HB4.out, World.ownsRow_nil _ _ _ _⟩
  clear BA3 BB3 BC3 BE3 XD BD HB4 HB3 HB1
  generalize hD : w3.heap.size = D at *
  go_wp2_with fail
  refine (takeAway_swap S4.out).mono ?_
  rintro e w5 ⟨rfl, hS⟩
  have S5 := hidD hS
  clear hS S4
  go_wp2_with fail
  refine (carryOver_swap S5.out).mono ?_
  rintro e w6 ⟨rfl, stv, hS⟩
  obtain ⟨g, c, hst⟩ := row_form hS.st (by decide)
  subst hst
  have S6 := hidD hS
  clear hS S5
  go_wp2_with fail
  refine (makeDirs_swap S6.out).mono ?_
  rintro e w7 ⟨rfl, hS⟩
  have S7 := hidD hS
  clear hS S6
  go_wp2_with fail
  refine (fillFiles_swap S7.out).mono ?_
  rintro e w8 ⟨rfl, hS⟩
  have S8 := hidD hS
  clear hS S7
  go_wp2_with fail
  refine (waitForEmpty_swap S8.out).mono ?_
  rintro e w9 ⟨rfl, hS⟩
  have S9 := hidD hS
  clear hS S8
  go_wp2_with fail
  refine (waitForPlace_swap S9.out).mono ?_
  rintro e w10 ⟨rfl, F0, c0, F1, c1, hS, b0, b1, hne, h0, h1⟩
  have S10 := hidD hS
  have d5 := hS.d.cell 5 rfl
  clear hS S9
  go_wp2
  go_ret
  exact ⟨g, c, F0, c0, F1, c1, rfl, S10.out.st, b0, b1, hne, h0, h1, S10.out.bel⟩
end Go.Proofs.YtemkpollilhmjaaGreatDoor

/- The planner takes its steps in order: what it holds meanwhile; a number is put into the heap. -/
namespace Go.Proofs.YtemkpollilhmjaaGreatDoor
open Go.RowKit
set_option linter.unusedVariables false
set_option linter.unusedSimpArgs false

/-- A run of steps in memory. -/
structure Rst (w0 u : World) (R g c F0 F1 : Nat) (st : List Value) (rdy : Value) (nr : Nat) (rx : List Value) (opv : Value) (no : Nat) (ops : List Value) (sp : Int) : Prop where
  bel : Below w0.heap.size w0 u
  ge : w0.heap.size ≤ R
  r : Blk u R 101 [.slice (some ⟨g, 0, none⟩) 2 c, rdy, opv, .int .i64 sp]
  st : u.ownsRow w0.heap.size 103 9 (.slice (some ⟨g, 0, none⟩) 2 c) 2 st
  rd : u.ownsRow w0.heap.size 3 1 rdy nr rx
  op : u.ownsRow w0.heap.size 82 6 opv no ops
  f0 : Blk u F0 3 [.int .i64 1]
  f1 : Blk u F1 3 [.int .i64 0]
  nf : some F0 ≠ rdy.ownBlock ∧ some F1 ≠ rdy.ownBlock
theorem Rst.below {w0 u u' : World} {R g c F0 F1 : Nat} {st : List Value} {rdy : Value} {nr : Nat} {rx : List Value} {opv : Value} {no : Nat} {ops : List Value} {sp : Int} (h : Rst w0 u R g c F0 F1 st rdy nr rx opv no ops sp) (hb : Below u.heap.size u u') : Rst w0 u' R g c F0 F1 st rdy nr rx opv no ops sp :=
  ⟨h.bel.trans (hb.mono h.bel.size), h.ge, h.r.below hb, own_belowK hb h.st, own_belowK hb h.rd, own_belowK hb h.op, h.f0.below hb, h.f1.below hb, h.nf⟩
theorem row_row {u u' : World} {B1 e1 s1 n1 B2 e2 s2 n2 : Nat} {v1 v2 : Value} {x1 x2 : List Value} (h : u.ownsRow B1 e1 s1 v1 n1 x1) (o : u.ownsRow B2 e2 s2 v2 n2 x2) (hT : e1 ≠ e2) (hg : u.grownBy u' v2.ownBlock) : u'.ownsRow B1 e1 s1 v1 n1 x1 := by
  refine h.kept hg ?_
  cases hv : v1.ownBlock with
  | none => exact .inl rfl
  | some g =>
    refine .inr (fun e => ?_)
    rcases h.2 with ⟨rfl, _⟩ | ⟨g', cap, cur, rfl, _, hg1, _⟩
    · simp [Value.ownBlock] at hv
    · have hgg : g' = g := by simpa [Value.ownBlock] using hv
      subst hgg
      have hb : Blk u g' e1 [] := ⟨cur, hg1, fun j v hv => by simp at hv⟩
      exact blk_row hb o hT e
/-- The queue is another. -/
theorem Rst.queue {w0 u u' : World} {R g c F0 F1 : Nat} {st : List Value} {rdy rdy' : Value} {nr nr' : Nat} {rx rx' : List Value} {opv : Value} {no : Nat} {ops : List Value} {sp : Int} (h : Rst w0 u R g c F0 F1 st rdy nr rx opv no ops sp) (ho : u'.ownsRow w0.heap.size 3 1 rdy' nr' rx') (hg : u.grownBy u' rdy.ownBlock) (hn : some F0 ≠ rdy'.ownBlock ∧ some F1 ≠ rdy'.ownBlock) : Rst w0 (u'.setCell ⟨R, 1, none⟩ rdy') R g c F0 F1 st rdy' nr' rx' opv no ops sp := by
  have hr := h.r.kept hg (blk_row h.r h.rd (by decide))
  have hbel := h.bel.grown hg h.bel.size (fun k e => (h.rd.lt k e).1)
  have f0 := h.f0.kept hg h.nf.1
  have f1 := h.f1.kept hg h.nf.2
  exact ⟨below_set hbel _ _ _ hbel.size h.ge, h.ge, hr.set 1 rdy' (by simp), row_blk hr (row_row h.st h.rd (by decide) hg) (by decide) (gb_set _ _ _ _), row_blk hr ho (by decide) (gb_set _ _ _ _), row_blk hr (row_row h.op h.rd (by decide) hg) (by decide) (gb_set _ _ _ _), f0.other 1 rdy' (f0.ne hr (by decide)), f1.other 1 rdy' (f1.ne hr (by decide)), hn⟩

set_option maxHeartbeats 4000000 in
set_option maxRecDepth 100000 in
theorem qPush {w0 u : World} {R g c F0 F1 : Nat} {st : List Value} {rdy : Value} {nr : Nat} {rx : List Value} {opv : Value} {no : Nat} {ops : List Value} {sp : Int} (S : Rst w0 u R g c F0 F1 st rdy nr rx opv no ops sp) (hn : nr ≤ 1000) (k : Int) :
    Calls Tryz.prog 206 #[.pointer (some ⟨R, 1, none⟩), .iface 3 (.int .i64 k)] u fun e w' => e = .returned (.tuple #[]) ∧ ∃ q cq, Rst w0 w' R g c F0 F1 st (.slice (some ⟨q, 0, none⟩) (nr + 1) cq) (nr + 1) (rx ++ [.int .i64 k]) opv no ops sp := by
  obtain ⟨i0, hi, hz0, hz1, hz2⟩ := info_parts info3
  have S1 := hidD S
  have d5 := S.r.cell 1 rfl
  obtain ⟨sa, sn, sc, hsv⟩ := shape_of S.rd
  subst hsv
  have hbU : Below u.heap.size u (u.alloc (.cells #[.int .i64 k] 3)).drew := (box_below u #[.int .i64 k] 3).trans (Below.mono (below_drewB _) (by simp))
  have S2 := hidD (S.below hbU)
  have d5' : (u.alloc (.cells #[.int .i64 k] 3)).cell? ⟨R, 1, none⟩ = some (.slice sa sn sc) := S2.out.r.cell 1 rfl
  have hz2' := S2.out.bel.size
  have D6 := hidD (fun (w6 : World) (hg : (u.alloc (.cells #[.int .i64 k] 3)).drew.grownBy w6 (Value.slice sa sn sc).ownBlock) => S2.out.r.kept hg (blk_row S2.out.r S2.out.rd (by decide)))
  have lt0 := S.f0.lt
  have lt1 := S.f1.lt
  have hta : ∀ (w : World), (Instr.typeAssert (.iface 3 (.int .i64 k)) 20 3 false).run Tryz.prog w = .ok (.int .i64 k) w := fun w => by kernel_rfl
  clear S
  go_enter Tryz.func206, Tryz.ntmps206
  go_wp2
  go_region_law ((refine step_append_lies _ (by rfl) (.tmp 8) (.tmp 11) 97 (by rfl) w0.heap.size 3 i0 _ 1 8 Tryz.underlying97 hi hz0 hz1 hz2 rfl (by decide) (.slice sa sn sc) nr rx (by rfl) S2.out.rd ⟨u.heap.size, 0, none⟩ 1 1 [.int .i64 k] (by rfl) rfl (new_at u 3 [.int .i64 k]) (by intro x hx; rw [List.mem_singleton.1 hx]; rfl) (by decide) (by unfold maxLen; omega) (by omega) hz2' _ rfl ?_; intro g6 c6 w6 hown6 hg6 hat6 hlt6; have e5 := (D6.out w6 hg6).cell 1 rfl; have f5 := (D6.out w6 hg6).frozen 1))
  all_goals
    refine bodyPost_end (results_none rfl _ _ _) rfl ?_
    have hz : (u.alloc (.cells #[.int .i64 k] 3)).drew.heap.size = u.heap.size + 1 := by show (u.alloc (.cells #[.int .i64 k] 3)).heap.size = _; simp
    refine ⟨rfl, g6, c6, S2.out.queue hown6 hg6 ⟨fun e => ?_, fun e => ?_⟩⟩
    · have e' : F0 = g6 := by simpa [Value.ownBlock] using e
      rcases hat6 with h | h
      · exact S2.out.nf.1 (by rw [h, e'])
      · omega
    · have e' : F1 = g6 := by simpa [Value.ownBlock] using e
      rcases hat6 with h | h
      · exact S2.out.nf.2 (by rw [h, e'])
      · omega
theorem len80 (a : Option Addr) (n c : Nat) (w : World) : Calls Tryz.prog 80 #[.slice a n c] w fun e w' => e = .returned (.int .i64 n) ∧ w' = w := by
  go_enter Tryz.func80, Tryz.ntmps80
  go_wp2
  go_ret
  exact ⟨rfl, rfl⟩
set_option maxRecDepth 100000 in
theorem meth_len (R : Nat) (w : World) : (method 335 105 (.pointer (some ⟨R, 1, none⟩)) "Len").run Tryz.prog w = (do let v ← load ⟨R, 1, none⟩; pure (80, v) : Sem _).run Tryz.prog w := by
  kernel_rfl
set_option maxRecDepth 100000 in
theorem meth_swap (R : Nat) (w : World) : (method 335 105 (.pointer (some ⟨R, 1, none⟩)) "Swap").run Tryz.prog w = (do let v ← load ⟨R, 1, none⟩; pure (204, v) : Sem _).run Tryz.prog w := by
  kernel_rfl
theorem mlen {R : Nat} {w : World} {v : Value} (h : w.cell? ⟨R, 1, none⟩ = some v) : (method 335 105 (.pointer (some ⟨R, 1, none⟩)) "Len").run Tryz.prog w = .ok (80, v) w := by
  rw [meth_len]
  simp [go_sem, h]
theorem mswap {R : Nat} {w : World} {v : Value} (h : w.cell? ⟨R, 1, none⟩ = some v) : (method 335 105 (.pointer (some ⟨R, 1, none⟩)) "Swap").run Tryz.prog w = .ok (204, v) w := by
  rw [meth_swap]
  simp [go_sem, h]
theorem up0 (v : Value) (w : World) : Calls Tryz.prog 79 #[v, .int .i64 0] w fun e w' => e = .returned (.tuple #[]) ∧ w' = w := by
  go_enter Tryz.func79, Tryz.ntmps79
  go_wp2
  refine wp_loop_rounds 1 ?_
  rw [rounds_succ]
  go_wp2
  refine bodyPost_end (results_none rfl _ _ _) rfl ?_
  exact ⟨rfl, rfl⟩

set_option maxHeartbeats 4000000 in
set_option maxRecDepth 100000 in
theorem heapPush {w0 u : World} {R g c F0 F1 : Nat} {st : List Value} {rdy : Value} {opv : Value} {no : Nat} {ops : List Value} {sp : Int} (S : Rst w0 u R g c F0 F1 st rdy 0 [] opv no ops sp) (k : Int) :
    Calls Tryz.prog 58 #[.iface 105 (.pointer (some ⟨R, 1, none⟩)), .iface 3 (.int .i64 k)] u fun e w' => e = .returned (.tuple #[]) ∧ ∃ q cq, Rst w0 w' R g c F0 F1 st (.slice (some ⟨q, 0, none⟩) 1 cq) 1 [.int .i64 k] opv no ops sp := by
  have HP := hidD (qPush S (by decide) k)
  clear S
  go_enter Tryz.func58, Tryz.ntmps58
  go_wp2_with fail
  refine HP.out.mono ?_
  rintro e w1 ⟨rfl, q, cq, hS⟩
  have S1 := hidD hS
  have hm := mlen (hS.r.cell 1 rfl)
  clear hS
  go_wp2_with fail
  refine (len80 _ _ _ _).mono ?_
  rintro e wz ⟨rfl, hwz⟩; rw [hwz]; clear hwz
  go_wp2_with fail
  refine (up0 _ _).mono ?_
  rintro e wz ⟨rfl, hwz⟩; rw [hwz]; clear hwz
  go_wp2_with fail
  trace_state
  refine bodyPost_end (results_none rfl _ _ _) rfl ?_
  exact ⟨rfl, q, cq, S1.out⟩
end Go.Proofs.YtemkpollilhmjaaGreatDoor

/- The planner takes its steps in order: a number is taken out of the heap, where it is the only one. -/
namespace Go.Proofs.YtemkpollilhmjaaGreatDoor
open Go.RowKit
set_option linter.unusedVariables false
set_option linter.unusedSimpArgs false

/-- The queue's own row is written. -/
theorem Rst.setQ {w0 u : World} {R g c F0 F1 q cq : Nat} {st : List Value} {nr : Nat} {rx : List Value} {opv : Value} {no : Nat} {ops : List Value} {sp : Int} (h : Rst w0 u R g c F0 F1 st (.slice (some ⟨q, 0, none⟩) nr cq) nr rx opv no ops sp) (j : Nat) (v : Value) : Rst w0 (u.setCell ⟨q, j, none⟩ v) R g c F0 F1 st (.slice (some ⟨q, 0, none⟩) nr cq) nr (rx.set j v) opv no ops sp := by
  have hg : u.grownBy (u.setCell ⟨q, j, none⟩ v) (Value.slice (some ⟨q, 0, none⟩) nr cq).ownBlock := gb_set u q j v
  exact ⟨h.bel.grown hg h.bel.size (fun k e => (h.rd.lt k e).1), h.ge, h.r.kept hg (blk_row h.r h.rd (by decide)), row_row h.st h.rd (by decide) hg, (h.rd.stored j v).1, row_row h.op h.rd (by decide) hg, h.f0.kept hg h.nf.1, h.f1.kept hg h.nf.2, h.nf⟩
theorem row_empty {u : World} {B e s n q cq : Nat} {xs : List Value} (h : u.ownsRow B e s (.slice (some ⟨q, 0, none⟩) n cq) n xs) : u.ownsRow B e s (.slice (some ⟨q, 0, none⟩) 0 cq) 0 [] := by
  refine ⟨by simp, ?_⟩
  rcases h.2 with ⟨h1, _⟩ | ⟨g', cap, cur, h1, h2, h3, h4, h5, h6, h7⟩
  · simp at h1
  · have e1 : q = g' ∧ cq = cap := by simpa using h1
    obtain ⟨rfl, rfl⟩ := e1
    exact .inr ⟨q, cq, cur, rfl, h2, h3, Nat.zero_le _, h5, h6, by simp⟩
theorem row_cap {u : World} {B e s n q cq : Nat} {xs : List Value} (h : u.ownsRow B e s (.slice (some ⟨q, 0, none⟩) n cq) n xs) : n ≤ cq ∧ cq ≤ maxLen := by
  rcases h.2 with ⟨h1, _⟩ | ⟨g', cap, cur, h1, h2, h3, h4, h5, h6, h7⟩
  · simp at h1
  · have e1 : q = g' ∧ cq = cap := by simpa using h1
    obtain ⟨rfl, rfl⟩ := e1
    exact ⟨h4, h5⟩

set_option maxHeartbeats 4000000 in
set_option maxRecDepth 100000 in
theorem swap00 {w0 u : World} {R g c F0 F1 q cq : Nat} {st : List Value} {opv : Value} {no : Nat} {ops : List Value} {sp : Int} {k : Int} (S : Rst w0 u R g c F0 F1 st (.slice (some ⟨q, 0, none⟩) 1 cq) 1 [.int .i64 k] opv no ops sp) :
    Calls Tryz.prog 204 #[.slice (some ⟨q, 0, none⟩) 1 cq, .int .i64 0, .int .i64 0] u fun e w' => e = .returned (.tuple #[]) ∧ Rst w0 w' R g c F0 F1 st (.slice (some ⟨q, 0, none⟩) 1 cq) 1 [.int .i64 k] opv no ops sp := by
  have d0 := (blk_of_row S.rd).cell 0 rfl
  have f0 := (blk_of_row S.rd).frozen 0
  have S1 := hidD S
  clear S
  go_enter Tryz.func204, Tryz.ntmps204
  go_region
  all_goals
    refine bodyPost_end (results_none rfl _ _ _) rfl ?_
    exact ⟨rfl, (((S1.out.below (below_drewB _)).setQ 0 (.int .i64 k)).setQ 0 (.int .i64 k))⟩
theorem down00 (v : Value) (w : World) : Calls Tryz.prog 114 #[v, .int .i64 0, .int .i64 0] w fun e w' => e = .returned (.bool false) ∧ w' = w := by
  go_enter Tryz.func114, Tryz.ntmps114
  go_wp2
  refine wp_loop_rounds 1 ?_
  rw [rounds_succ]
  go_wp2
  go_ret
  exact ⟨rfl, rfl⟩

set_option maxHeartbeats 4000000 in
set_option maxRecDepth 100000 in
theorem qPop {w0 u : World} {R g c F0 F1 q cq : Nat} {st : List Value} {opv : Value} {no : Nat} {ops : List Value} {sp : Int} {k : Int} (S : Rst w0 u R g c F0 F1 st (.slice (some ⟨q, 0, none⟩) 1 cq) 1 [.int .i64 k] opv no ops sp) :
    Calls Tryz.prog 205 #[.pointer (some ⟨R, 1, none⟩)] u fun e w' => e = .returned (.iface 3 (.int .i64 k)) ∧ Rst w0 w' R g c F0 F1 st (.slice (some ⟨q, 0, none⟩) 0 cq) 0 [] opv no ops sp := by
  have d0 := (blk_of_row S.rd).cell 0 rfl
  have d1 := S.r.cell 1 rfl
  have f1 := S.r.frozen 1
  obtain ⟨hc1, hc2⟩ := row_cap S.rd
  have hc0 : ¬ cq = 0 := by omega
  have S1 := hidD S
  clear S
  go_enter Tryz.func205, Tryz.ntmps205
  go_wp2_with fail
  refine (len80 _ _ _ _).mono ?_
  rintro e wz ⟨rfl, hwz⟩; rw [hwz]; clear hwz
  go_wp2_with fail
  go_ret
  exact ⟨rfl, S1.out.queue (row_empty S1.out.rd) (World.grownBy.refl _ _) S1.out.nf⟩

set_option maxHeartbeats 4000000 in
set_option maxRecDepth 100000 in
theorem heapPop {w0 u : World} {R g c F0 F1 q cq : Nat} {st : List Value} {opv : Value} {no : Nat} {ops : List Value} {sp : Int} {k : Int} (S : Rst w0 u R g c F0 F1 st (.slice (some ⟨q, 0, none⟩) 1 cq) 1 [.int .i64 k] opv no ops sp) :
    Calls Tryz.prog 81 #[.iface 105 (.pointer (some ⟨R, 1, none⟩))] u fun e w' => e = .returned (.iface 3 (.int .i64 k)) ∧ Rst w0 w' R g c F0 F1 st (.slice (some ⟨q, 0, none⟩) 0 cq) 0 [] opv no ops sp := by
  have hm := mlen (S.r.cell 1 rfl)
  have hs := mswap (S.r.cell 1 rfl)
  have HS := hidD (swap00 S)
  clear S
  go_enter Tryz.func81, Tryz.ntmps81
  go_wp2_with fail
  refine (len80 _ _ _ _).mono ?_
  rintro e wz ⟨rfl, hwz⟩; rw [hwz]; clear hwz
  go_wp2_with fail
  refine HS.out.mono ?_
  rintro e w1 ⟨rfl, hS⟩
  have HP := hidD (qPop hS)
  clear hS
  go_wp2_with fail
  refine (down00 _ _).mono ?_
  rintro e wz ⟨rfl, hwz⟩; rw [hwz]; clear hwz
  go_wp2_with fail
  refine HP.out.mono ?_
  rintro e w2 ⟨rfl, hS⟩
  have S2 := hidD hS
  clear hS
  go_wp2_with fail
  go_ret
  exact ⟨rfl, S2.out⟩
end Go.Proofs.YtemkpollilhmjaaGreatDoor

/- The planner takes its steps in order: a step lets those go that wait for it. -/
namespace Go.Proofs.YtemkpollilhmjaaGreatDoor
open Go.RowKit
set_option linter.unusedVariables false
set_option linter.unusedSimpArgs false

/-- A step is written. -/
theorem Rst.setSt {w0 u : World} {R g c F0 F1 : Nat} {st : List Value} {rdy : Value} {nr : Nat} {rx : List Value} {opv : Value} {no : Nat} {ops : List Value} {sp : Int} (h : Rst w0 u R g c F0 F1 st rdy nr rx opv no ops sp) (j : Nat) (v : Value) : Rst w0 (u.setCell ⟨g, j, none⟩ v) R g c F0 F1 (st.set j v) rdy nr rx opv no ops sp := by
  have hg := gb_set u g j v
  have G := blk_of_row h.st
  exact ⟨h.bel.grown hg h.bel.size (fun k e => by have := (h.st.lt g rfl).1; simp at e; omega), h.ge, h.r.kept hg (by simpa using h.r.ne G (by decide)), (h.st.stored j v).1, row_row h.rd h.st (by decide) hg, row_row h.op h.st (by decide) hg, h.f0.kept hg (by simpa using h.f0.ne G (by decide)), h.f1.kept hg (by simpa using h.f1.ne G (by decide)), h.nf⟩

set_option maxHeartbeats 4000000 in
theorem release_nil (R : Nat) (w : World) : Calls Tryz.prog 83 #[.pointer (some ⟨R, 0, none⟩), .slice none 0 0] w fun e w' => e = .returned (.tuple #[]) ∧ w' = w := by
  go_enter Tryz.func83, Tryz.ntmps83
  go_wp2
  refine wp_loop_rounds 1 ?_
  rw [rounds_succ]
  go_wp2
  refine bodyPost_end (results_none rfl _ _ _) rfl ?_
  exact ⟨rfl, rfl⟩

set_option maxHeartbeats 4000000 in
set_option maxRecDepth 100000 in
theorem release_0 {w0 u : World} {R g c F0 F1 : Nat} {st : List Value} {rdy : Value} {opv : Value} {no : Nat} {ops : List Value} {sp : Int} (S : Rst w0 u R g c F0 F1 st rdy 0 [] opv no ops sp) (hw : st[15]? = some (.int .i64 1)) (cf : Nat) :
    Calls Tryz.prog 83 #[.pointer (some ⟨R, 0, none⟩), .slice (some ⟨F0, 0, none⟩) 1 cf] u fun e w' => e = .returned (.tuple #[]) ∧ ∃ q cq, Rst w0 w' R g c F0 F1 (st.set 15 (.int .i64 0)) (.slice (some ⟨q, 0, none⟩) 1 cq) 1 [.int .i64 1] opv no ops sp := by
  have G := blk_of_row S.st
  have d0 := S.r.cell 0 rfl
  have cw := G.cell 15 hw
  have fw := G.frozen 15
  have cf0 := S.f0.cell 0 rfl
  have S1 := S.setSt 15 (.int .i64 0)
  have G1 := blk_of_row S1.st
  have e0 := S1.r.cell 0 rfl
  have ew := G1.cell 15 (List.getElem?_set_self (by have := List.getElem?_eq_some_iff.1 hw; exact this.1))
  have HP := hidD (heapPush S1 1)
  clear S S1 G G1
  go_enter Tryz.func83, Tryz.ntmps83
  go_wp2
  refine wp_loop_rounds 2 ?_
  rw [rounds_succ]
  go_wp2_with fail
  refine HP.out.mono ?_
  rintro e w1 ⟨rfl, q, cq, hS⟩
  have S2 := hidD hS
  clear hS HP
  go_wp2_with fail
  rw [rounds_succ]
  go_wp2_with fail
  refine bodyPost_end (results_none rfl _ _ _) rfl ?_
  exact ⟨rfl, q, cq, S2.out⟩

set_option maxHeartbeats 4000000 in
set_option maxRecDepth 100000 in
theorem release_1 {w0 u : World} {R g c F0 F1 : Nat} {st : List Value} {rdy : Value} {opv : Value} {no : Nat} {ops : List Value} {sp : Int} (S : Rst w0 u R g c F0 F1 st rdy 0 [] opv no ops sp) (hw : st[6]? = some (.int .i64 1)) (cf : Nat) :
    Calls Tryz.prog 83 #[.pointer (some ⟨R, 0, none⟩), .slice (some ⟨F1, 0, none⟩) 1 cf] u fun e w' => e = .returned (.tuple #[]) ∧ ∃ q cq, Rst w0 w' R g c F0 F1 (st.set 6 (.int .i64 0)) (.slice (some ⟨q, 0, none⟩) 1 cq) 1 [.int .i64 0] opv no ops sp := by
  have G := blk_of_row S.st
  have d0 := S.r.cell 0 rfl
  have cw := G.cell 6 hw
  have fw := G.frozen 6
  have cf0 := S.f1.cell 0 rfl
  have S1 := S.setSt 6 (.int .i64 0)
  have G1 := blk_of_row S1.st
  have e0 := S1.r.cell 0 rfl
  have ew := G1.cell 6 (List.getElem?_set_self (by have := List.getElem?_eq_some_iff.1 hw; exact this.1))
  have HP := hidD (heapPush S1 0)
  clear S S1 G G1
  go_enter Tryz.func83, Tryz.ntmps83
  go_wp2
  refine wp_loop_rounds 2 ?_
  rw [rounds_succ]
  go_wp2_with fail
  refine HP.out.mono ?_
  rintro e w1 ⟨rfl, q, cq, hS⟩
  have S2 := hidD hS
  clear hS HP
  go_wp2_with fail
  rw [rounds_succ]
  go_wp2_with fail
  refine bodyPost_end (results_none rfl _ _ _) rfl ?_
  exact ⟨rfl, q, cq, S2.out⟩

set_option maxHeartbeats 4000000 in
set_option maxRecDepth 100000 in
theorem free_0 {w0 u : World} {R g c F0 F1 : Nat} {st : List Value} {rdy : Value} {opv : Value} {no : Nat} {ops : List Value} {sp : Int} (S : Rst w0 u R g c F0 F1 st rdy 0 [] opv no ops sp) (hw : st[15]? = some (.int .i64 1)) {cf : Nat} (hf : st[7]? = some (.slice (some ⟨F0, 0, none⟩) 1 cf)) :
    Calls Tryz.prog 82 #[.pointer (some ⟨R, 0, none⟩), .int .i64 0] u fun e w' => e = .returned (.tuple #[]) ∧ ∃ q cq, Rst w0 w' R g c F0 F1 ((st.set 15 (.int .i64 0)).set 7 (.slice none 0 0)) (.slice (some ⟨q, 0, none⟩) 1 cq) 1 [.int .i64 1] opv no ops sp := by
  have d0 := S.r.cell 0 rfl
  have cv := (blk_of_row S.st).cell 7 hf
  have HR := hidD (release_0 S hw cf)
  have e7 : (st.set 15 (.int .i64 0))[7]? = some (.slice (some ⟨F0, 0, none⟩) 1 cf) := by rw [List.getElem?_set_ne (by decide)]; exact hf
  clear S
  go_enter Tryz.func82, Tryz.ntmps82
  go_wp2_with fail
  refine HR.out.mono ?_
  rintro e w1 ⟨rfl, q, cq, hS⟩
  have d0' := hS.r.cell 0 rfl
  have cv' := (blk_of_row hS.st).cell 7 e7
  have fv' := (blk_of_row hS.st).frozen 7
  have S2 := hidD hS
  clear hS HR
  go_wp2_with fail
  refine bodyPost_end (results_none rfl _ _ _) rfl ?_
  exact ⟨rfl, q, cq, S2.out.setSt 7 _⟩

set_option maxHeartbeats 4000000 in
set_option maxRecDepth 100000 in
theorem free_1 {w0 u : World} {R g c F0 F1 : Nat} {st : List Value} {rdy : Value} {opv : Value} {no : Nat} {ops : List Value} {sp : Int} (S : Rst w0 u R g c F0 F1 st rdy 0 [] opv no ops sp) (hw : st[6]? = some (.int .i64 1)) {cf : Nat} (hf : st[16]? = some (.slice (some ⟨F1, 0, none⟩) 1 cf)) :
    Calls Tryz.prog 82 #[.pointer (some ⟨R, 0, none⟩), .int .i64 1] u fun e w' => e = .returned (.tuple #[]) ∧ ∃ q cq, Rst w0 w' R g c F0 F1 ((st.set 6 (.int .i64 0)).set 16 (.slice none 0 0)) (.slice (some ⟨q, 0, none⟩) 1 cq) 1 [.int .i64 0] opv no ops sp := by
  have d0 := S.r.cell 0 rfl
  have cv := (blk_of_row S.st).cell 16 hf
  have HR := hidD (release_1 S hw cf)
  have e7 : (st.set 6 (.int .i64 0))[16]? = some (.slice (some ⟨F1, 0, none⟩) 1 cf) := by rw [List.getElem?_set_ne (by decide)]; exact hf
  clear S
  go_enter Tryz.func82, Tryz.ntmps82
  go_wp2_with fail
  refine HR.out.mono ?_
  rintro e w1 ⟨rfl, q, cq, hS⟩
  have d0' := hS.r.cell 0 rfl
  have cv' := (blk_of_row hS.st).cell 16 e7
  have fv' := (blk_of_row hS.st).frozen 16
  have S2 := hidD hS
  clear hS HR
  go_wp2_with fail
  refine bodyPost_end (results_none rfl _ _ _) rfl ?_
  exact ⟨rfl, q, cq, S2.out.setSt 16 _⟩

set_option maxHeartbeats 4000000 in
set_option maxRecDepth 100000 in
theorem free_nil {w0 u : World} {R g c F0 F1 : Nat} {st : List Value} {rdy : Value} {opv : Value} {nr no : Nat} {rx ops : List Value} {sp : Int} (S : Rst w0 u R g c F0 F1 st rdy nr rx opv no ops sp) (hf : st[7]? = some (.slice none 0 0)) :
    Calls Tryz.prog 82 #[.pointer (some ⟨R, 0, none⟩), .int .i64 0] u fun e w' => e = .returned (.tuple #[]) ∧ Rst w0 w' R g c F0 F1 (st.set 7 (.slice none 0 0)) rdy nr rx opv no ops sp := by
  have d0 := S.r.cell 0 rfl
  have cv := (blk_of_row S.st).cell 7 hf
  have fv := (blk_of_row S.st).frozen 7
  have S1 := hidD S
  clear S
  go_enter Tryz.func82, Tryz.ntmps82
  go_wp2_with fail
  refine (release_nil _ _).mono ?_
  rintro e wz ⟨rfl, hwz⟩; rw [hwz]; clear hwz
  go_wp2_with fail
  refine bodyPost_end (results_none rfl _ _ _) rfl ?_
  exact ⟨rfl, S1.out.setSt 7 _⟩
end Go.Proofs.YtemkpollilhmjaaGreatDoor

/- The planner takes its steps in order: one steps aside; those that are ready are taken. -/
namespace Go.Proofs.YtemkpollilhmjaaGreatDoor
open Go.RowKit
set_option linter.unusedVariables false
set_option linter.unusedSimpArgs false

theorem small0 (w : World) : Calls Tryz.prog 146 #[.int .i64 0] w fun e w' => e = .returned (.string ⟨#[48]⟩) ∧ w' = w := by
  go_enter Tryz.func146, Tryz.ntmps146
  go_wp2
  go_ret
  exact ⟨rfl, rfl⟩
theorem format0 (w : World) : Calls Tryz.prog 135 #[.int .i64 0, .int .i64 10] w fun e w' => e = .returned (.string ⟨#[48]⟩) ∧ w' = w := by
  go_enter Tryz.func135, Tryz.ntmps135
  go_wp2_with fail
  refine (small0 _).mono ?_
  rintro e wz ⟨rfl, hwz⟩; rw [hwz]; clear hwz
  go_wp2_with fail
  go_ret
  exact ⟨rfl, rfl⟩
theorem itoa0 (w : World) : Calls Tryz.prog 85 #[.int .i64 0] w fun e w' => e = .returned (.string ⟨#[48]⟩) ∧ w' = w := by
  go_enter Tryz.func85, Tryz.ntmps85
  go_wp2_with fail
  have h117 : Calls Tryz.prog 117 #[.int .i64 0] w fun e w' => e = .returned (.string ⟨#[48]⟩) ∧ w' = w := by
    go_enter Tryz.func117, Tryz.ntmps117
    go_wp2_with fail
    refine (format0 _).mono ?_
    rintro e wz ⟨rfl, hwz⟩; rw [hwz]; clear hwz
    go_wp2_with fail
    go_ret
    exact ⟨rfl, rfl⟩
  refine h117.mono ?_
  clear h117
  rintro e wz ⟨rfl, hwz⟩; rw [hwz]; clear hwz
  go_wp2_with fail
  go_ret
  exact ⟨rfl, rfl⟩

theorem info82 : (Tryz.prog.info? 82).map (fun i => (i.zero, i.size, i.bytes)) = some (some (.agg #[.int .i64 0, .string ⟨#[]⟩, .string ⟨#[]⟩, .int .i64 0, .int .i64 0, .int .i64 0]), 6, 64) := by kernel_rfl
/-- The operations are others. -/
theorem Rst.added {w0 u u' : World} {R g c F0 F1 : Nat} {st : List Value} {rdy : Value} {nr : Nat} {rx : List Value} {opv opv' : Value} {no no' : Nat} {ops ops' : List Value} {sp : Int} (h : Rst w0 u R g c F0 F1 st rdy nr rx opv no ops sp) (ho : u'.ownsRow w0.heap.size 82 6 opv' no' ops') (hg : u.grownBy u' opv.ownBlock) : Rst w0 (u'.setCell ⟨R, 2, none⟩ opv') R g c F0 F1 st rdy nr rx opv' no' ops' sp := by
  have hr := h.r.kept hg (blk_row h.r h.op (by decide))
  have hbel := h.bel.grown hg h.bel.size (fun k e => (h.op.lt k e).1)
  have f0 := h.f0.kept hg (blk_row h.f0 h.op (by decide))
  have f1 := h.f1.kept hg (blk_row h.f1 h.op (by decide))
  exact ⟨below_set hbel _ _ _ hbel.size h.ge, h.ge, hr.set 2 opv' (by simp), row_blk hr (row_row h.st h.op (by decide) hg) (by decide) (gb_set _ _ _ _), row_blk hr (row_row h.rd h.op (by decide) hg) (by decide) (gb_set _ _ _ _), row_blk hr ho (by decide) (gb_set _ _ _ _), f0.other 2 opv' (f0.ne hr (by decide)), f1.other 2 opv' (f1.ne hr (by decide)), h.nf⟩
theorem Rst.setSp {w0 u : World} {R g c F0 F1 : Nat} {st : List Value} {rdy : Value} {nr : Nat} {rx : List Value} {opv : Value} {no : Nat} {ops : List Value} {sp : Int} (h : Rst w0 u R g c F0 F1 st rdy nr rx opv no ops sp) (sp' : Int) : Rst w0 (u.setCell ⟨R, 3, none⟩ (.int .i64 sp')) R g c F0 F1 st rdy nr rx opv no ops sp' :=
  ⟨below_set h.bel _ _ _ h.bel.size h.ge, h.ge, h.r.set 3 (.int .i64 sp') (by simp), row_blk h.r h.st (by decide) (gb_set _ _ _ _), row_blk h.r h.rd (by decide) (gb_set _ _ _ _), row_blk h.r h.op (by decide) (gb_set _ _ _ _), h.f0.other 3 _ (h.f0.ne h.r (by decide)), h.f1.other 3 _ (h.f1.ne h.r (by decide)), h.nf⟩

/-- An operation that gives another name. -/
def renC (p q : ByteArray) : List Value := [.int .i64 6, .string p, .string q, .int .i64 0, .int .i64 0, .int .i64 0]
theorem renC_one (p q : ByteArray) : ∀ x ∈ renC p q, x.oneCell' = true := by
  intro x hx
  simp only [renC, List.mem_cons, List.not_mem_nil, or_false] at hx
  rcases hx with rfl | rfl | rfl | rfl | rfl | rfl <;> rfl
/-- The steps when the first has stepped aside. -/
def st3 (F1 c1 : Nat) : List Value := [.int .i64 6, .string ⟨#[126, 48]⟩, .string ⟨#[98]⟩, .int .i64 0, .int .i64 0, .int .i64 0, .int .i64 1, .slice none 0 0, .slice none 0 0, .int .i64 6, .string ⟨#[98]⟩, .string ⟨#[97]⟩, .int .i64 0, .int .i64 0, .int .i64 0, .int .i64 0, .slice (some ⟨F1, 0, none⟩) 1 c1, .slice none 0 0]

set_option maxHeartbeats 4000000 in
set_option maxRecDepth 100000 in
theorem stepAside_swap {w0 u : World} {R g c F0 c0 F1 c1 : Nat} {rdy : Value} {opv : Value} {no : Nat} {ops : List Value} (S : Rst w0 u R g c F0 F1 (st2 F0 c0 F1 c1) rdy 0 [] opv no ops 0) (hno : no ≤ 1000) :
    Calls Tryz.prog 61 #[.pointer (some ⟨R, 0, none⟩), .int .i64 0] u fun e w' => e = .returned (.tuple #[]) ∧ ∃ q cq opv', Rst w0 w' R g c F0 F1 (st3 F1 c1) (.slice (some ⟨q, 0, none⟩) 1 cq) 1 [.int .i64 1] opv' (no + 1) (ops ++ renC ⟨#[97]⟩ ⟨#[126, 48]⟩) 1 := by
  obtain ⟨i0, hi, hz0, hz1, hz2⟩ := info_parts info82
  have d3 := S.r.cell 3 rfl
  have f3 := S.r.frozen 3
  have S1 := hidD (S.setSp 1)
  have d0 := S1.out.r.cell 0 rfl
  have d2 := S1.out.r.cell 2 rfl
  have c1' := (blk_of_row S1.out.st).cell 1 rfl
  obtain ⟨sa, sn, sc, hsv⟩ := shape_of S1.out.op
  subst hsv
  clear S
  go_enter Tryz.func61, Tryz.ntmps61
  go_wp2_with fail
  refine (itoa0 _).mono ?_
  rintro e wz ⟨rfl, hwz⟩; rw [hwz]; clear hwz
  have hcat : (⟨#[126]⟩ : ByteArray) ++ (⟨#[48]⟩ : ByteArray) = ⟨#[126, 48]⟩ := by rfl
  go_wp2_with fail
  generalize hU : u.setCell ⟨R, 3, none⟩ (.int .i64 1) = U at *
  have hbU : Below U.heap.size U (U.alloc (.cells (renC ⟨#[97]⟩ ⟨#[126, 48]⟩).toArray 82)).drew := (box_below U (renC ⟨#[97]⟩ ⟨#[126, 48]⟩).toArray 82).trans (Below.mono (below_drewB _) (by simp))
  have S2 := hidD (S1.out.below hbU)
  have d2' : (U.alloc (.cells (renC ⟨#[97]⟩ ⟨#[126, 48]⟩).toArray 82)).cell? ⟨R, 2, none⟩ = some (.slice sa sn sc) := S2.out.r.cell 2 rfl
  have c1'' : (U.alloc (.cells (renC ⟨#[97]⟩ ⟨#[126, 48]⟩).toArray 82)).cell? ⟨g, 1, none⟩ = _ := (blk_of_row S2.out.st).cell 1 rfl
  simp only [renC] at d2' c1''
  have hz2' := S2.out.bel.size
  have D6 := hidD (fun (w6 : World) (hg : (U.alloc (.cells (renC ⟨#[97]⟩ ⟨#[126, 48]⟩).toArray 82)).drew.grownBy w6 (Value.slice sa sn sc).ownBlock) => S2.out.r.kept hg (blk_row S2.out.r S2.out.op (by decide)))
  go_region_law ((refine step_append_lies _ (by rfl) (.tmp 30) (.tmp 37) 23 (by rfl) w0.heap.size 82 i0 _ 6 64 Tryz.underlying23 hi hz0 hz1 hz2 rfl (by decide) (.slice sa sn sc) no ops (by rfl) S2.out.op ⟨U.heap.size, 0, none⟩ 1 1 (renC ⟨#[97]⟩ ⟨#[126, 48]⟩) (by rfl) rfl (new_at U 82 (renC ⟨#[97]⟩ ⟨#[126, 48]⟩)) (renC_one _ _) (by decide) (by unfold maxLen; omega) (by omega) hz2' _ rfl ?_; intro g6 c6 w6 hown6 hg6 hat6 hlt6; have e5 := (D6.out w6 hg6).cell 2 rfl; have f5 := (D6.out w6 hg6).frozen 2))
  all_goals
    have S7 := hidD (S2.out.added hown6 hg6)
    have S8 := S7.out.setSt 1 (.string ⟨#[126, 48]⟩)
    have HF := hidD (free_0 S8 (cf := c0) rfl rfl)
    have z1 := (blk_of_row S7.out.st).cell 1 rfl
    have fz1 := (blk_of_row S7.out.st).frozen 1
    clear S8
    go_wp2_with fail
    refine HF.out.mono ?_
    rintro e w9 ⟨rfl, q, cq, hS⟩
    have S9 := hidD hS
    clear hS HF
    go_wp2_with fail
    refine bodyPost_end (results_none rfl _ _ _) rfl ?_
    exact ⟨rfl, q, cq, _, S9.out⟩
end Go.Proofs.YtemkpollilhmjaaGreatDoor

/- The planner takes its steps in order: those that are ready are taken. -/
namespace Go.Proofs.YtemkpollilhmjaaGreatDoor
open Go.RowKit
set_option linter.unusedVariables false
set_option linter.unusedSimpArgs false

/-- The steps when all is done. -/
def st4 : List Value := [.int .i64 6, .string ⟨#[126, 48]⟩, .string ⟨#[98]⟩, .int .i64 0, .int .i64 0, .int .i64 0, .int .i64 0, .slice none 0 0, .slice none 0 0, .int .i64 6, .string ⟨#[98]⟩, .string ⟨#[97]⟩, .int .i64 0, .int .i64 0, .int .i64 0, .int .i64 0, .slice none 0 0, .slice none 0 0]

theorem row_shape0 {u : World} {B e s n : Nat} {v : Value} {xs : List Value} (h : u.ownsRow B e s v n xs) : ∃ a c, v = .slice a n c := by
  rcases h.2 with ⟨h1, h2⟩ | ⟨g', cap, cur, h1, _⟩
  · subst h2; exact ⟨_, _, h1⟩
  · exact ⟨_, _, h1⟩
set_option maxHeartbeats 4000000 in
set_option maxRecDepth 100000 in
theorem takeReady_none {w0 u : World} {R g c F0 F1 : Nat} {st : List Value} {rdy : Value} {opv : Value} {no : Nat} {ops : List Value} {sp : Int} (S : Rst w0 u R g c F0 F1 st rdy 0 [] opv no ops sp) :
    Calls Tryz.prog 59 #[.pointer (some ⟨R, 0, none⟩)] u fun e w' => e = .returned (.tuple #[]) ∧ w' = u := by
  have d1 := S.r.cell 1 rfl
  obtain ⟨a, c', hsv⟩ := row_shape0 S.rd
  subst hsv
  clear S
  go_enter Tryz.func59, Tryz.ntmps59
  go_wp2_with fail
  refine wp_loop_rounds 1 ?_
  rw [rounds_succ]
  go_wp2_with fail
  refine (len80 _ _ _ _).mono ?_
  rintro e wz ⟨rfl, hwz⟩; rw [hwz]; clear hwz
  go_wp2_with fail
  refine bodyPost_end (results_none rfl _ _ _) rfl ?_
  exact ⟨rfl, rfl⟩

set_option maxHeartbeats 8000000 in
set_option maxRecDepth 100000 in
theorem takeReady_swap {w0 u : World} {R g c F0 F1 c1 q cq : Nat} {opv : Value} {no : Nat} {ops : List Value} {sp : Int} (S : Rst w0 u R g c F0 F1 (st3 F1 c1) (.slice (some ⟨q, 0, none⟩) 1 cq) 1 [.int .i64 1] opv no ops sp) (hno : no ≤ 1000) :
    Calls Tryz.prog 59 #[.pointer (some ⟨R, 0, none⟩)] u fun e w' => e = .returned (.tuple #[]) ∧ ∃ rdy' opv', Rst w0 w' R g c F0 F1 st4 rdy' 0 [] opv' (no + 2) (ops ++ renC ⟨#[98]⟩ ⟨#[97]⟩ ++ renC ⟨#[126, 48]⟩ ⟨#[98]⟩) sp := by
  obtain ⟨i0, hi, hz0, hz1, hz2⟩ := info_parts info82
  have d1 := S.r.cell 1 rfl
  have HP := hidD (heapPop S)
  clear S
  go_enter Tryz.func59, Tryz.ntmps59
  go_wp2_with fail
  refine wp_loop_rounds 3 ?_

  rw [rounds_succ]
  go_wp2_with fail
  refine (len80 _ _ _ _).mono ?_
  rintro e wz ⟨rfl, hwz⟩; rw [hwz]; clear hwz
  go_wp2_with fail
  refine HP.out.mono ?_
  rintro e u1 ⟨rfl, hS⟩
  have hta : ∀ (w : World), (Instr.typeAssert (.iface 3 (.int .i64 1)) 20 3 false).run Tryz.prog w = .ok (.int .i64 1) w := fun w => by kernel_rfl
  have S1 := hidD hS
  clear hS HP d1
  obtain ⟨sa, sn, sc, hsv⟩ := shape_of S1.out.op
  subst hsv
  go_wp2_with fail
  have hbU : Below u1.heap.size u1 (u1.alloc (.cells (renC ⟨#[98]⟩ ⟨#[97]⟩).toArray 82)).drew := (box_below u1 (renC ⟨#[98]⟩ ⟨#[97]⟩).toArray 82).trans (Below.mono (below_drewB _) (by simp))
  have S2 := hidD (S1.out.below hbU)
  have a0 := S1.out.r.cell 0 rfl
  have a2 := S1.out.r.cell 2 rfl
  have b0 := (blk_of_row S1.out.st).cell 9 rfl
  have b1 := (blk_of_row S1.out.st).cell 10 rfl
  have b2 := (blk_of_row S1.out.st).cell 11 rfl
  have b3 := (blk_of_row S1.out.st).cell 12 rfl
  have b4 := (blk_of_row S1.out.st).cell 13 rfl
  have b5 := (blk_of_row S1.out.st).cell 14 rfl
  have d2' : (u1.alloc (.cells (renC ⟨#[98]⟩ ⟨#[97]⟩).toArray 82)).cell? ⟨R, 2, none⟩ = some (.slice sa sn sc) := S2.out.r.cell 2 rfl
  have d0' : (u1.alloc (.cells (renC ⟨#[98]⟩ ⟨#[97]⟩).toArray 82)).cell? ⟨R, 0, none⟩ = some (.slice (some ⟨g, 0, none⟩) 2 c) := S2.out.r.cell 0 rfl
  have t0 : (u1.alloc (.cells (renC ⟨#[98]⟩ ⟨#[97]⟩).toArray 82)).cell? ⟨g, 9, none⟩ = _ := (blk_of_row S2.out.st).cell 9 rfl
  have t1 : (u1.alloc (.cells (renC ⟨#[98]⟩ ⟨#[97]⟩).toArray 82)).cell? ⟨g, 10, none⟩ = _ := (blk_of_row S2.out.st).cell 10 rfl
  have t2 : (u1.alloc (.cells (renC ⟨#[98]⟩ ⟨#[97]⟩).toArray 82)).cell? ⟨g, 11, none⟩ = _ := (blk_of_row S2.out.st).cell 11 rfl
  have t3 : (u1.alloc (.cells (renC ⟨#[98]⟩ ⟨#[97]⟩).toArray 82)).cell? ⟨g, 12, none⟩ = _ := (blk_of_row S2.out.st).cell 12 rfl
  have t4 : (u1.alloc (.cells (renC ⟨#[98]⟩ ⟨#[97]⟩).toArray 82)).cell? ⟨g, 13, none⟩ = _ := (blk_of_row S2.out.st).cell 13 rfl
  have t5 : (u1.alloc (.cells (renC ⟨#[98]⟩ ⟨#[97]⟩).toArray 82)).cell? ⟨g, 14, none⟩ = _ := (blk_of_row S2.out.st).cell 14 rfl
  simp only [renC] at d2' d0' t0 t1 t2 t3 t4 t5
  have hz2' := S2.out.bel.size
  have D6 := hidD (fun (w6 : World) (hg : (u1.alloc (.cells (renC ⟨#[98]⟩ ⟨#[97]⟩).toArray 82)).drew.grownBy w6 (Value.slice sa sn sc).ownBlock) => S2.out.r.kept hg (blk_row S2.out.r S2.out.op (by decide)))
  go_region_law ((refine step_append_lies _ (by rfl) (.tmp 20) (.tmp 29) 23 (by rfl) w0.heap.size 82 i0 _ 6 64 Tryz.underlying23 hi hz0 hz1 hz2 rfl (by decide) (.slice sa sn sc) _ _ (by rfl) S2.out.op ⟨u1.heap.size, 0, none⟩ 1 1 (renC ⟨#[98]⟩ ⟨#[97]⟩) (by rfl) rfl (new_at u1 82 (renC ⟨#[98]⟩ ⟨#[97]⟩)) (renC_one _ _) (by decide) (by unfold maxLen; omega) (by omega) hz2' _ rfl ?_; intro g6 c6 w6 hown6 hg6 hat6 hlt6; have e5 := (D6.out w6 hg6).cell 2 rfl; have f5 := (D6.out w6 hg6).frozen 2; have e50 := (D6.out w6 hg6).cell 0 rfl))
  all_goals
    have S7 := hidD (S2.out.added hown6 hg6)
    generalize w6.setCell ⟨R, 2, none⟩ (.slice (some ⟨g6, 0, none⟩) (no + 1) c6) = v1 at *
    have HF := hidD (free_1 S7.out (cf := c1) rfl rfl)
    clear hown6 hg6 hat6 hlt6 e5 f5 e50 D6 S2 S1 hbU hz2' d2' d0' t0 t1 t2 t3 t4 t5 a0 a2 b0 b1 b2 b3 b4 b5 hta
    go_wp2_with fail
    refine HF.out.mono ?_
    rintro e v2 ⟨rfl, q2, cq2, hS⟩
    have x0 := hS.r.cell 0 rfl
    have x17 := (blk_of_row hS.st).cell 17 rfl
    have d1 := hS.r.cell 1 rfl
    have HP := hidD (heapPop hS)
    clear hS HF S7
    go_wp2_with fail
    refine (release_nil _ _).mono ?_
    rintro e wz ⟨rfl, hwz⟩; rw [hwz]; clear hwz
    go_wp2_with fail

    rw [rounds_succ]
    go_wp2_with fail
    refine (len80 _ _ _ _).mono ?_
    rintro e wz ⟨rfl, hwz⟩; rw [hwz]; clear hwz
    go_wp2_with fail
    refine HP.out.mono ?_
    rintro e u2 ⟨rfl, hS⟩
    have hta : ∀ (w : World), (Instr.typeAssert (.iface 3 (.int .i64 0)) 20 3 false).run Tryz.prog w = .ok (.int .i64 0) w := fun w => by kernel_rfl
    have S1 := hidD hS
    clear hS HP d1
    go_wp2_with fail
    have hbU : Below u2.heap.size u2 (u2.alloc (.cells (renC ⟨#[126, 48]⟩ ⟨#[98]⟩).toArray 82)).drew := (box_below u2 (renC ⟨#[126, 48]⟩ ⟨#[98]⟩).toArray 82).trans (Below.mono (below_drewB _) (by simp))
    have S2 := hidD (S1.out.below hbU)
    have a0 := S1.out.r.cell 0 rfl
    have a2 := S1.out.r.cell 2 rfl
    have b0 := (blk_of_row S1.out.st).cell 0 rfl
    have b1 := (blk_of_row S1.out.st).cell 1 rfl
    have b2 := (blk_of_row S1.out.st).cell 2 rfl
    have b3 := (blk_of_row S1.out.st).cell 3 rfl
    have b4 := (blk_of_row S1.out.st).cell 4 rfl
    have b5 := (blk_of_row S1.out.st).cell 5 rfl
    have d2' : (u2.alloc (.cells (renC ⟨#[126, 48]⟩ ⟨#[98]⟩).toArray 82)).cell? ⟨R, 2, none⟩ = some (.slice (some ⟨g6, 0, none⟩) (no + 1) c6) := S2.out.r.cell 2 rfl
    have d0' : (u2.alloc (.cells (renC ⟨#[126, 48]⟩ ⟨#[98]⟩).toArray 82)).cell? ⟨R, 0, none⟩ = some (.slice (some ⟨g, 0, none⟩) 2 c) := S2.out.r.cell 0 rfl
    have t0 : (u2.alloc (.cells (renC ⟨#[126, 48]⟩ ⟨#[98]⟩).toArray 82)).cell? ⟨g, 0, none⟩ = _ := (blk_of_row S2.out.st).cell 0 rfl
    have t1 : (u2.alloc (.cells (renC ⟨#[126, 48]⟩ ⟨#[98]⟩).toArray 82)).cell? ⟨g, 1, none⟩ = _ := (blk_of_row S2.out.st).cell 1 rfl
    have t2 : (u2.alloc (.cells (renC ⟨#[126, 48]⟩ ⟨#[98]⟩).toArray 82)).cell? ⟨g, 2, none⟩ = _ := (blk_of_row S2.out.st).cell 2 rfl
    have t3 : (u2.alloc (.cells (renC ⟨#[126, 48]⟩ ⟨#[98]⟩).toArray 82)).cell? ⟨g, 3, none⟩ = _ := (blk_of_row S2.out.st).cell 3 rfl
    have t4 : (u2.alloc (.cells (renC ⟨#[126, 48]⟩ ⟨#[98]⟩).toArray 82)).cell? ⟨g, 4, none⟩ = _ := (blk_of_row S2.out.st).cell 4 rfl
    have t5 : (u2.alloc (.cells (renC ⟨#[126, 48]⟩ ⟨#[98]⟩).toArray 82)).cell? ⟨g, 5, none⟩ = _ := (blk_of_row S2.out.st).cell 5 rfl
    simp only [renC] at d2' d0' t0 t1 t2 t3 t4 t5
    have hz2' := S2.out.bel.size
    have D6 := hidD (fun (w6 : World) (hg : (u2.alloc (.cells (renC ⟨#[126, 48]⟩ ⟨#[98]⟩).toArray 82)).drew.grownBy w6 (Value.slice (some ⟨g6, 0, none⟩) (no + 1) c6).ownBlock) => S2.out.r.kept hg (blk_row S2.out.r S2.out.op (by decide)))
    go_region_law ((refine step_append_lies _ (by rfl) (.tmp 20) (.tmp 29) 23 (by rfl) w0.heap.size 82 i0 _ 6 64 Tryz.underlying23 hi hz0 hz1 hz2 rfl (by decide) (.slice (some ⟨g6, 0, none⟩) (no + 1) c6) _ _ (by rfl) S2.out.op ⟨u2.heap.size, 0, none⟩ 1 1 (renC ⟨#[126, 48]⟩ ⟨#[98]⟩) (by rfl) rfl (new_at u2 82 (renC ⟨#[126, 48]⟩ ⟨#[98]⟩)) (renC_one _ _) (by decide) (by unfold maxLen; omega) (by omega) hz2' _ rfl ?_; intro g7 c7 w6 hown6 hg6 hat6 hlt6; have e5 := (D6.out w6 hg6).cell 2 rfl; have f5 := (D6.out w6 hg6).frozen 2; have e50 := (D6.out w6 hg6).cell 0 rfl))
    all_goals
      have S7 := hidD (S2.out.added hown6 hg6)
      generalize w6.setCell ⟨R, 2, none⟩ (.slice (some ⟨g7, 0, none⟩) (no + 1 + 1) c7) = v3 at *
      have HF := hidD (free_nil S7.out rfl)
      clear hown6 hg6 hat6 hlt6 e5 f5 e50 D6 S2 S1 hbU hz2' d2' d0' t0 t1 t2 t3 t4 t5 a0 a2 b0 b1 b2 b3 b4 b5 hta x0 x17
      go_wp2_with fail
      refine HF.out.mono ?_
      rintro e v4 ⟨rfl, hS⟩
      have x0 := hS.r.cell 0 rfl
      have x8 := (blk_of_row hS.st).cell 8 rfl
      have d1 := hS.r.cell 1 rfl
      have S9 := hidD hS
      clear hS HF S7
      go_wp2_with fail
      refine (release_nil _ _).mono ?_
      rintro e wz ⟨rfl, hwz⟩; rw [hwz]; clear hwz
      go_wp2_with fail
      rw [rounds_succ]
      go_wp2_with fail
      refine (len80 _ _ _ _).mono ?_
      rintro e wz ⟨rfl, hwz⟩; rw [hwz]; clear hwz
      go_wp2_with fail
      refine bodyPost_end (results_none rfl _ _ _) rfl ?_
      exact ⟨rfl, _, _, S9.out⟩
end Go.Proofs.YtemkpollilhmjaaGreatDoor

