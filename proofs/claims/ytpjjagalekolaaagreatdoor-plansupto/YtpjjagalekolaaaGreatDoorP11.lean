/- KE, KF, KG, KH, KI, KJ, KK, KL, KM, KN, IA, IB, KO, KP, KQ: in one text. -/
import Derived.Test.YtpjjagalekolaaaGreatDoorP10
import Derived.Deep.RegionLaw
import Derived.Deep.AppendLies
import Derived.Laws.AppendOwn
import Derived.Deep.RegionWith
/- The planner at two files that change their names: a draft in memory, and a step put behind the others. -/
namespace Go.Proofs.YtpjjagalekolaaaGreatDoor
open Go.RowKit
set_option linter.unusedVariables false
set_option linter.unusedSimpArgs false

/-- A draft in memory. -/
structure Dst (w0 u : World) (D A B C E bs bt : Nat) (lv cm : List Value) (stv : Value) (n : Nat) (st : List Value) : Prop where
  bel : Below w0.heap.size w0 u
  ge : w0.heap.size ≤ D ∧ w0.heap.size ≤ A ∧ w0.heap.size ≤ B ∧ w0.heap.size ≤ C ∧ w0.heap.size ≤ E
  ne : A ≠ C ∧ A ≠ E ∧ B ≠ C ∧ B ≠ E ∧ C ≠ E
  d : Blk u D 164 [.slice (some ⟨bs, 0, none⟩) 2 2, .slice (some ⟨bt, 0, none⟩) 2 2, .bool false, .slice (some ⟨A, 0, none⟩) 2 2, .slice (some ⟨B, 0, none⟩) 2 2, stv, .slice (some ⟨C, 0, none⟩) 2 2, .slice (some ⟨E, 0, none⟩) 2 2]
  a : Blk u A 3 [.int .i64 1, .int .i64 0]
  b : Blk u B 3 [.int .i64 1, .int .i64 0]
  c : Blk u C 3 lv
  e : Blk u E 3 cm
  i : Inp u bs bt
  st : u.ownsRow w0.heap.size 155 9 stv n st
theorem own_belowK {u u' : World} {B e s n : Nat} {v : Value} {xs : List Value} (hb : Below u.heap.size u u') (h : u.ownsRow B e s v n xs) : u'.ownsRow B e s v n xs := by
  refine h.kept (row := none) ⟨hb.os, hb.tape, hb.output, hb.size, fun k hk _ => hb.block k hk⟩ ?_
  cases hv : v.ownBlock with
  | none => exact .inl rfl
  | some g => exact .inr (by simp)
theorem Dst.below {w0 u u' : World} {D A B C E bs bt : Nat} {lv cm : List Value} {stv : Value} {n : Nat} {st : List Value} (h : Dst w0 u D A B C E bs bt lv cm stv n st) (hb : Below u.heap.size u u') : Dst w0 u' D A B C E bs bt lv cm stv n st :=
  ⟨h.bel.trans (hb.mono h.bel.size), h.ge, h.ne, h.d.below hb, h.a.below hb, h.b.below hb, h.c.below hb, h.e.below hb, h.i.below hb, own_belowK hb h.st⟩
theorem blk_row {u : World} {b B e s n : Nat} {T : TypeId} {xs ys : List Value} {v : Value} (h : Blk u b T xs) (o : u.ownsRow B e s v n ys) (hT : T ≠ e) : some b ≠ v.ownBlock := by
  intro hb
  rcases o.2 with ⟨rfl, _⟩ | ⟨g, cap, cur, rfl, _, hg, _⟩
  · simp [Value.ownBlock] at hb
  · simp [Value.ownBlock] at hb
    subst hb
    obtain ⟨c, h1, _⟩ := h
    rw [h1] at hg
    simp only [Option.some.injEq, Obj.cells.injEq] at hg
    exact hT hg.2.1
theorem row_blk {u u' : World} {b B e s n : Nat} {T : TypeId} {xs ys : List Value} {v : Value} (h : Blk u b T xs) (o : u.ownsRow B e s v n ys) (hT : T ≠ e) (hg : u.grownBy u' (some b)) : u'.ownsRow B e s v n ys := by
  refine o.kept hg ?_
  cases hv : v.ownBlock with
  | none => exact .inl rfl
  | some g => exact .inr (fun e => blk_row h o hT (by rw [hv, ← e]))

theorem Dst.added {w0 u u' : World} {D A B C E bs bt : Nat} {lv cm : List Value} {stv stv' : Value} {n n' : Nat} {st st' : List Value} (h : Dst w0 u D A B C E bs bt lv cm stv n st) (ho : u'.ownsRow w0.heap.size 155 9 stv' n' st') (hg : u.grownBy u' stv.ownBlock) : Dst w0 (u'.setCell ⟨D, 5, none⟩ stv') D A B C E bs bt lv cm stv' n' st' := by
  have hd := h.d.kept hg (blk_row h.d h.st (by decide))
  have ha := h.a.kept hg (blk_row h.a h.st (by decide))
  have hb := h.b.kept hg (blk_row h.b h.st (by decide))
  have hc := h.c.kept hg (blk_row h.c h.st (by decide))
  have he := h.e.kept hg (blk_row h.e h.st (by decide))
  have hi := h.i.kept hg (blk_row h.i.s h.st (by decide)) (blk_row h.i.t h.st (by decide))
  have hbel := h.bel.grown hg h.bel.size (fun k e => (h.st.lt k e).1)
  refine ⟨below_set hbel _ _ _ hbel.size h.ge.1, h.ge, h.ne, hd.set 5 stv' (by simp), ha.other 5 stv' (ha.ne hd (by decide)), hb.other 5 stv' (hb.ne hd (by decide)), hc.other 5 stv' (hc.ne hd (by decide)), he.other 5 stv' (he.ne hd (by decide)), ⟨hi.s.other 5 stv' (hi.s.ne hd (by decide)), hi.t.other 5 stv' (hi.t.ne hd (by decide))⟩, row_blk hd ho (by decide) (gb_set _ _ _ _)⟩
theorem info155 : (Tryz.prog.info? 155).map (fun i => (i.zero, i.size, i.bytes)) = some (some (.agg #[.int .i64 0, .string ⟨#[]⟩, .string ⟨#[]⟩, .int .i64 0, .int .i64 0, .int .i64 0, .int .i64 0, .slice none 0 0, .slice none 0 0]), 9, 120) := by kernel_rfl

theorem new_at (u : World) (T : TypeId) (xs : List Value) : ∀ (j : Nat) (x : Value), xs[j]? = some x → (u.alloc (.cells xs.toArray T)).cell? ((⟨u.heap.size, 0, none⟩ : Addr).add j) = some x := by
  intro j x hx
  have : (⟨u.heap.size, 0, none⟩ : Addr).add j = ⟨u.heap.size, j, none⟩ := by unfold Addr.add; split <;> simp_all
  rw [this]
  exact (Blk.new u T xs).cell j hx
theorem shape_of {u : World} {B e s n : Nat} {v : Value} {xs : List Value} (h : u.ownsRow B e s v n xs) : ∃ a m c, v = .slice a m c := by
  rcases h.2 with ⟨rfl, _⟩ | ⟨g, cap, cur, rfl, _⟩
  · exact ⟨_, _, _, rfl⟩
  · exact ⟨_, _, _, rfl⟩
end Go.Proofs.YtpjjagalekolaaaGreatDoor

/- The planner at two files that change their names: what goes, what is carried over, what is made. -/
namespace Go.Proofs.YtpjjagalekolaaaGreatDoor
open Go.RowKit
set_option linter.unusedVariables false
set_option linter.unusedSimpArgs false

end Go.Proofs.YtpjjagalekolaaaGreatDoor

/- The planner at two files that change their names: each moves. -/
namespace Go.Proofs.YtpjjagalekolaaaGreatDoor
open Go.RowKit
set_option linter.unusedVariables false
set_option linter.unusedSimpArgs false

end Go.Proofs.YtpjjagalekolaaaGreatDoor

/- The planner at two files that change their names: both are carried over. -/
namespace Go.Proofs.YtpjjagalekolaaaGreatDoor
open Go.RowKit
set_option linter.unusedVariables false
set_option linter.unusedSimpArgs false

/-- The lists of steps that bring and take, set anew. -/
theorem Dst.setE {w0 u : World} {D A B C E bs bt : Nat} {lv cm : List Value} {stv : Value} {n : Nat} {st : List Value} (h : Dst w0 u D A B C E bs bt lv cm stv n st) (j : Nat) (v : Value) (hj : j < cm.length) : Dst w0 (u.setCell ⟨E, j, none⟩ v) D A B C E bs bt lv (cm.set j v) stv n st := by
  obtain ⟨n1, n2, n3, n4, n5⟩ := h.ne
  exact ⟨below_set h.bel _ _ _ h.bel.size h.ge.2.2.2.2, h.ge, h.ne, h.d.other j v (h.d.ne h.e (by decide)), h.a.other j v n2, h.b.other j v n4, h.c.other j v n5, h.e.set j v hj, ⟨h.i.s.other j v (h.i.s.ne h.e (by decide)), h.i.t.other j v (h.i.t.ne h.e (by decide))⟩, row_blk h.e h.st (by decide) (gb_set _ _ _ _)⟩
theorem Dst.setC {w0 u : World} {D A B C E bs bt : Nat} {lv cm : List Value} {stv : Value} {n : Nat} {st : List Value} (h : Dst w0 u D A B C E bs bt lv cm stv n st) (j : Nat) (v : Value) (hj : j < lv.length) : Dst w0 (u.setCell ⟨C, j, none⟩ v) D A B C E bs bt (lv.set j v) cm stv n st := by
  obtain ⟨n1, n2, n3, n4, n5⟩ := h.ne
  exact ⟨below_set h.bel _ _ _ h.bel.size h.ge.2.2.2.1, h.ge, h.ne, h.d.other j v (h.d.ne h.c (by decide)), h.a.other j v n1, h.b.other j v n3, h.c.set j v hj, h.e.other j v (fun e => n5 e.symm), ⟨h.i.s.other j v (h.i.s.ne h.c (by decide)), h.i.t.other j v (h.i.t.ne h.c (by decide))⟩, row_blk h.c h.st (by decide) (gb_set _ _ _ _)⟩

end Go.Proofs.YtpjjagalekolaaaGreatDoor

/- The planner at two files that change their names: what waits for what. -/
namespace Go.Proofs.YtpjjagalekolaaaGreatDoor
open Go.RowKit
set_option linter.unusedVariables false
set_option linter.unusedSimpArgs false

end Go.Proofs.YtpjjagalekolaaaGreatDoor

/- The planner at two files that change their names: a step waits for another. -/
namespace Go.Proofs.YtpjjagalekolaaaGreatDoor
open Go.RowKit
set_option linter.unusedVariables false
set_option linter.unusedSimpArgs false

theorem blk_of_row {u : World} {B e s g n c : Nat} {xs : List Value} (h : u.ownsRow B e s (.slice (some ⟨g, 0, none⟩) n c) n xs) : Blk u g e xs := by
  rcases h.2 with ⟨h', _⟩ | ⟨g', cap, cur, h', hB, hg, hn, hm, hs, hp⟩
  · cases h'
  · cases h'
    refine ⟨cur, hg, fun j v hv => ?_⟩
    have hc := h.cellAt j (by have := h.1; have := (List.getElem?_eq_some_iff.1 hv).1; omega)
    rw [Lib.cell_of_heap hg] at hc
    rw [hc]
    exact hv
theorem Dst.setSt {w0 u : World} {D A B C E bs bt g c : Nat} {lv cm : List Value} {n : Nat} {st : List Value} (h : Dst w0 u D A B C E bs bt lv cm (.slice (some ⟨g, 0, none⟩) n c) n st) (j : Nat) (v : Value) : Dst w0 (u.setCell ⟨g, j, none⟩ v) D A B C E bs bt lv cm (.slice (some ⟨g, 0, none⟩) n c) n (st.set j v) := by
  have G := blk_of_row h.st
  have hg := (h.st.lt g rfl).1
  exact ⟨below_set h.bel _ _ _ h.bel.size hg, h.ge, h.ne, h.d.other j v (h.d.ne G (by decide)), h.a.other j v (h.a.ne G (by decide)), h.b.other j v (h.b.ne G (by decide)), h.c.other j v (h.c.ne G (by decide)), h.e.other j v (h.e.ne G (by decide)), ⟨h.i.s.other j v (h.i.s.ne G (by decide)), h.i.t.other j v (h.i.t.ne G (by decide))⟩, (h.st.stored j v).1⟩
theorem info3 : (Tryz.prog.info? 3).map (fun i => (i.zero, i.size, i.bytes)) = some (some (.int .i64 0), 1, 8) := by kernel_rfl

end Go.Proofs.YtpjjagalekolaaaGreatDoor

/- The planner at two files that change their names: each waits for the other. -/
namespace Go.Proofs.YtpjjagalekolaaaGreatDoor
open Go.RowKit
set_option linter.unusedVariables false
set_option linter.unusedSimpArgs false

end Go.Proofs.YtpjjagalekolaaaGreatDoor

/- The planner at two files that change their names: all its steps. -/
namespace Go.Proofs.YtpjjagalekolaaaGreatDoor
open Go.RowKit
set_option linter.unusedVariables false
set_option linter.unusedSimpArgs false

theorem row_form {u : World} {B e s n : Nat} {v : Value} {xs : List Value} (h : u.ownsRow B e s v n xs) (hn : 0 < n) : ∃ g c, v = .slice (some ⟨g, 0, none⟩) n c := by
  rcases h.2 with ⟨_, h0⟩ | ⟨g, cap, cur, rfl, _⟩
  · omega
  · exact ⟨_, _, rfl⟩

end Go.Proofs.YtpjjagalekolaaaGreatDoor

/- The planner takes its steps in order: what it holds meanwhile; a number is put into the heap. -/
namespace Go.Proofs.YtpjjagalekolaaaGreatDoor
open Go.RowKit
set_option linter.unusedVariables false
set_option linter.unusedSimpArgs false

/-- A run of steps in memory. -/
structure Rst (w0 u : World) (R g c F0 F1 : Nat) (st : List Value) (rdy : Value) (nr : Nat) (rx : List Value) (opv : Value) (no : Nat) (ops : List Value) (sp : Int) : Prop where
  bel : Below w0.heap.size w0 u
  ge : w0.heap.size ≤ R
  r : Blk u R 153 [.slice (some ⟨g, 0, none⟩) 2 c, rdy, opv, .int .i64 sp]
  st : u.ownsRow w0.heap.size 155 9 (.slice (some ⟨g, 0, none⟩) 2 c) 2 st
  rd : u.ownsRow w0.heap.size 3 1 rdy nr rx
  op : u.ownsRow w0.heap.size 59 6 opv no ops
  f0 : Blk u F0 3 [.int .i64 1]
  f1 : Blk u F1 3 [.int .i64 0]
  nf : some F0 ≠ rdy.ownBlock ∧ some F1 ≠ rdy.ownBlock
theorem Rst.below {w0 u u' : World} {R g c F0 F1 : Nat} {st : List Value} {rdy : Value} {nr : Nat} {rx : List Value} {opv : Value} {no : Nat} {ops : List Value} {sp : Int} (h : Rst w0 u R g c F0 F1 st rdy nr rx opv no ops sp) (hb : Below u.heap.size u u') : Rst w0 u' R g c F0 F1 st rdy nr rx opv no ops sp :=
  ⟨h.bel.trans (hb.mono h.bel.size), h.ge, h.r.below hb, own_belowK hb h.st, own_belowK hb h.rd, own_belowK hb h.op, h.f0.below hb, h.f1.below hb, h.nf⟩
theorem row_row {u u' : World} {B1 e1 s1 n1 B2 e2 s2 n2 : Nat} {v1 v2 : Value} {x1 x2 : List Value} (h : u.ownsRow B1 e1 s1 v1 n1 x1) (o : u.ownsRow B2 e2 s2 v2 n2 x2) (hT : e1 ≠ e2) (hg : u.grownBy u' v2.ownBlock) : u'.ownsRow B1 e1 s1 v1 n1 x1 := by
  refine h.kept hg ?_
  cases hv : v1.ownBlock with
  | none => exact .inl rfl
  | some g =>
    refine .inr (fun e => ?_)
    rcases h.2 with ⟨rfl, _⟩ | ⟨g', cap, cur, rfl, _, hg1, _⟩
    · simp [Value.ownBlock] at hv
    · have hgg : g' = g := by simpa [Value.ownBlock] using hv
      subst hgg
      have hb : Blk u g' e1 [] := ⟨cur, hg1, fun j v hv => by simp at hv⟩
      exact blk_row hb o hT e
/-- The queue is another. -/
theorem Rst.queue {w0 u u' : World} {R g c F0 F1 : Nat} {st : List Value} {rdy rdy' : Value} {nr nr' : Nat} {rx rx' : List Value} {opv : Value} {no : Nat} {ops : List Value} {sp : Int} (h : Rst w0 u R g c F0 F1 st rdy nr rx opv no ops sp) (ho : u'.ownsRow w0.heap.size 3 1 rdy' nr' rx') (hg : u.grownBy u' rdy.ownBlock) (hn : some F0 ≠ rdy'.ownBlock ∧ some F1 ≠ rdy'.ownBlock) : Rst w0 (u'.setCell ⟨R, 1, none⟩ rdy') R g c F0 F1 st rdy' nr' rx' opv no ops sp := by
  have hr := h.r.kept hg (blk_row h.r h.rd (by decide))
  have hbel := h.bel.grown hg h.bel.size (fun k e => (h.rd.lt k e).1)
  have f0 := h.f0.kept hg h.nf.1
  have f1 := h.f1.kept hg h.nf.2
  exact ⟨below_set hbel _ _ _ hbel.size h.ge, h.ge, hr.set 1 rdy' (by simp), row_blk hr (row_row h.st h.rd (by decide) hg) (by decide) (gb_set _ _ _ _), row_blk hr ho (by decide) (gb_set _ _ _ _), row_blk hr (row_row h.op h.rd (by decide) hg) (by decide) (gb_set _ _ _ _), f0.other 1 rdy' (f0.ne hr (by decide)), f1.other 1 rdy' (f1.ne hr (by decide)), hn⟩

theorem len80 (a : Option Addr) (n c : Nat) (w : World) : Calls Tryz.prog 141 #[.slice a n c] w fun e w' => e = .returned (.int .i64 n) ∧ w' = w := by
  go_enter Tryz.func141, Tryz.ntmps141
  go_wp2
  go_ret
  exact ⟨rfl, rfl⟩
set_option maxRecDepth 100000 in
theorem meth_len (R : Nat) (w : World) : (method 409 157 (.pointer (some ⟨R, 1, none⟩)) "Len").run Tryz.prog w = (do let v ← load ⟨R, 1, none⟩; pure (141, v) : Sem _).run Tryz.prog w := by
  kernel_rfl
set_option maxRecDepth 100000 in
theorem meth_swap (R : Nat) (w : World) : (method 409 157 (.pointer (some ⟨R, 1, none⟩)) "Swap").run Tryz.prog w = (do let v ← load ⟨R, 1, none⟩; pure (276, v) : Sem _).run Tryz.prog w := by
  kernel_rfl
theorem mlen {R : Nat} {w : World} {v : Value} (h : w.cell? ⟨R, 1, none⟩ = some v) : (method 409 157 (.pointer (some ⟨R, 1, none⟩)) "Len").run Tryz.prog w = .ok (141, v) w := by
  rw [meth_len]
  simp [go_sem, h]
theorem mswap {R : Nat} {w : World} {v : Value} (h : w.cell? ⟨R, 1, none⟩ = some v) : (method 409 157 (.pointer (some ⟨R, 1, none⟩)) "Swap").run Tryz.prog w = .ok (276, v) w := by
  rw [meth_swap]
  simp [go_sem, h]
end Go.Proofs.YtpjjagalekolaaaGreatDoor

/- The planner takes its steps in order: a number is taken out of the heap, where it is the only one. -/
namespace Go.Proofs.YtpjjagalekolaaaGreatDoor
open Go.RowKit
set_option linter.unusedVariables false
set_option linter.unusedSimpArgs false

theorem row_cap {u : World} {B e s n q cq : Nat} {xs : List Value} (h : u.ownsRow B e s (.slice (some ⟨q, 0, none⟩) n cq) n xs) : n ≤ cq ∧ cq ≤ maxLen := by
  rcases h.2 with ⟨h1, _⟩ | ⟨g', cap, cur, h1, h2, h3, h4, h5, h6, h7⟩
  · simp at h1
  · have e1 : q = g' ∧ cq = cap := by simpa using h1
    obtain ⟨rfl, rfl⟩ := e1
    exact ⟨h4, h5⟩

end Go.Proofs.YtpjjagalekolaaaGreatDoor

/- A heap of numbers, whatever is in it: a number is put in, and one is taken out. -/
namespace Go.Proofs.YtpjjagalekolaaaGreatDoor
open Go.RowKit
set_option linter.unusedVariables false
set_option linter.unusedSimpArgs false

def numV (xs : List Nat) : List Value := xs.map fun (k : Nat) => Value.int .i64 (k : Int)
theorem numV_len (xs : List Nat) : (numV xs).length = xs.length := by simp [numV]
theorem numV_get (xs : List Nat) (i : Nat) (h : i < xs.length) : (numV xs)[i]? = some (.int .i64 (xs[i] : Int)) := by simp [numV, h]
theorem numV_set (xs : List Nat) (i k : Nat) : (numV xs).set i (.int .i64 (k : Int)) = numV (xs.set i k) := by simp [numV, List.map_set]
theorem numV_one (xs : List Nat) : ∀ x ∈ numV xs, x.oneCell' = true := by
  intro x hx
  obtain ⟨k, _, rfl⟩ := List.mem_map.1 hx
  rfl
theorem swap_perm (xs : List Nat) (i j : Nat) (hi : i < xs.length) (hj : j < xs.length) : ((xs.set i xs[j]).set j xs[i]).Perm xs := by
  rw [List.perm_iff_count]
  intro a
  have h1 : j < (xs.set i xs[j]).length := by simpa using hj
  rw [List.count_set h1, List.count_set hi]
  by_cases e : i = j
  · subst e
    have hp : 0 < xs.count xs[i] := List.count_pos_iff.2 (List.getElem_mem hi)
    simp only [List.getElem_set_self]
    by_cases e1 : xs[i] = a
    · rw [e1] at hp
      simp [e1]; omega
    · simp [e1]
  · have e2 : (xs.set i xs[j])[j] = xs[j] := List.getElem_set_ne e h1
    have hp1 : 0 < xs.count xs[i] := List.count_pos_iff.2 (List.getElem_mem hi)
    have hp2 : 0 < xs.count xs[j] := List.count_pos_iff.2 (List.getElem_mem hj)
    simp only [e2]
    by_cases a1 : xs[i] = a
    · by_cases a2 : xs[j] = a
      · rw [a1] at hp1; simp [a1, a2]; omega
      · rw [a1] at hp1; simp [a1, a2]; omega
    · by_cases a2 : xs[j] = a
      · rw [a2] at hp2; simp [a1, a2]
      · simp [a1, a2]

/-- The queue of a run, in its row. -/
structure Qu (B : Nat) (u : World) (R : Nat) (c0 q c2 c3 : Value) (xs : List Nat) : Prop where
  r : Blk u R 153 [c0, q, c2, c3]
  o : u.ownsRow B 3 1 q xs.length (numV xs)
theorem Qu.below {B R : Nat} {u u' : World} {c0 q c2 c3 : Value} {xs : List Nat} (h : Qu B u R c0 q c2 c3 xs) (hb : Below u.heap.size u u') : Qu B u' R c0 q c2 c3 xs := ⟨h.r.below hb, own_belowK hb h.o⟩

set_option maxHeartbeats 4000000 in
set_option maxRecDepth 100000 in
theorem less202 {B : Nat} {u : World} {q n cq : Nat} {xs : List Nat} (h : u.ownsRow B 3 1 (.slice (some ⟨q, 0, none⟩) n cq) n (numV xs)) (hn : xs.length = n) (i j : Nat) (hi : i < n) (hj : j < n) :
    Calls Tryz.prog 274 #[.slice (some ⟨q, 0, none⟩) n cq, .int .i64 i, .int .i64 j] u fun e w' => ∃ b, e = .returned (.bool b) ∧ ∃ nn, w' = u.drewN nn := by
  have d0 := (blk_of_row h).cell i (numV_get xs i (by omega))
  have d1 := (blk_of_row h).cell j (numV_get xs j (by omega))
  generalize (xs[i]'(by omega)) = x at *
  generalize (xs[j]'(by omega)) = y at *
  have hi' : (i : Int) < n := by omega
  have hj' : (j : Int) < n := by omega
  clear h
  go_enter Tryz.func274, Tryz.ntmps274
  go_wp2
  go_quiet (fail)
  go_wp2
  go_ret
  exact ⟨_, rfl, _, rfl⟩

set_option maxHeartbeats 4000000 in
set_option maxRecDepth 100000 in
theorem swap204 {B : Nat} {u : World} {q n cq : Nat} {xs : List Nat} (h : u.ownsRow B 3 1 (.slice (some ⟨q, 0, none⟩) n cq) n (numV xs)) (hn : xs.length = n) (i j : Nat) (hi : i < xs.length) (hj : j < xs.length) :
    Calls Tryz.prog 276 #[.slice (some ⟨q, 0, none⟩) n cq, .int .i64 i, .int .i64 j] u fun e w' => e = .returned (.tuple #[]) ∧ w'.ownsRow B 3 1 (.slice (some ⟨q, 0, none⟩) n cq) n (numV ((xs.set i xs[j]).set j xs[i])) ∧ u.grownBy w' (some q) := by
  have K := blk_of_row h
  have d0 := K.cell i (numV_get xs i hi)
  have d1 := K.cell j (numV_get xs j hj)
  have f0 := K.frozen i
  have f1 := K.frozen j
  have H := hidD h
  have hi' : (i : Int) < n := by omega
  have hj' : (j : Int) < n := by omega
  have FIN : ∀ wz : World, wz = u.drew → ((wz.setCell ⟨q, i, none⟩ (.int .i64 (xs[j] : Int))).setCell ⟨q, j, none⟩ (.int .i64 (xs[i] : Int))).ownsRow B 3 1 (.slice (some ⟨q, 0, none⟩) n cq) n (numV ((xs.set i xs[j]).set j xs[i])) ∧ u.grownBy ((wz.setCell ⟨q, i, none⟩ (.int .i64 (xs[j] : Int))).setCell ⟨q, j, none⟩ (.int .i64 (xs[i] : Int))) (some q) := fun wz hwz => by
    subst hwz
    have h0 := own_belowK (below_drewB u) H.out
    have h1 := (h0.stored i (.int .i64 (xs[j] : Int))).1
    rw [numV_set] at h1
    have h2 := (h1.stored j (.int .i64 (xs[i] : Int))).1
    rw [numV_set] at h2
    refine ⟨h2, ?_⟩
    have g1 := gb_set u.drew q i (.int .i64 (xs[j] : Int))
    have g2 := gb_set (u.drew.setCell ⟨q, i, none⟩ (.int .i64 (xs[j] : Int))) q j (.int .i64 (xs[i] : Int))
    exact ⟨g2.os.trans g1.os, g2.tape.trans g1.tape, g2.output.trans g1.output, Nat.le_trans g1.size g2.size, fun k hk hne => (g2.block k (Nat.lt_of_lt_of_le hk g1.size) hne).trans (g1.block k hk hne)⟩
  have HF := hidD FIN
  have K1 := K.set i (.int .i64 (xs[j] : Int)) (by rw [numV_len]; exact hi)
  obtain ⟨z, hz⟩ : ∃ z, ((numV xs).set i (.int .i64 (xs[j] : Int)))[j]? = some z := by
    have hl : j < ((numV xs).set i (.int .i64 (xs[j] : Int))).length := by rw [List.length_set, numV_len]; exact hj
    exact ⟨_, List.getElem?_eq_getElem hl⟩
  have e1 := K1.cell j hz
  have e2 := K1.frozen j
  clear hz K1
  generalize xs[i] = x at *
  generalize xs[j] = y at *
  clear h K FIN
  go_enter Tryz.func276, Tryz.ntmps276
  go_region
  all_goals
    refine bodyPost_end (results_none rfl _ _ _) rfl ?_
    exact ⟨rfl, HF.out _ rfl⟩
end Go.Proofs.YtpjjagalekolaaaGreatDoor

/- A heap of numbers, whatever is in it: up and down, Push and Pop. -/
namespace Go.Proofs.YtpjjagalekolaaaGreatDoor
open Go.RowKit
set_option linter.unusedVariables false
set_option linter.unusedSimpArgs false

set_option maxRecDepth 100000 in
theorem meth_less (R : Nat) (w : World) : (method 409 157 (.pointer (some ⟨R, 1, none⟩)) "Less").run Tryz.prog w = (do let v ← load ⟨R, 1, none⟩; pure (274, v) : Sem _).run Tryz.prog w := by
  kernel_rfl
theorem mless {R : Nat} {w : World} {v : Value} (h : w.cell? ⟨R, 1, none⟩ = some v) : (method 409 157 (.pointer (some ⟨R, 1, none⟩)) "Less").run Tryz.prog w = .ok (274, v) w := by
  rw [meth_less]
  simp [go_sem, h]

/-- What a heap's work leaves: the same numbers in the same row. -/
structure Qk (B : Nat) (u w' : World) (R q cq n : Nat) (c0 c2 c3 : Value) (xs ys : List Nat) : Prop where
  qu : Qu B w' R c0 (.slice (some ⟨q, 0, none⟩) n cq) c2 c3 ys
  pm : ys.Perm xs
  gr : u.grownBy w' (some q)
theorem Qk.drew {B R q cq n : Nat} {u w' : World} {c0 c2 c3 : Value} {xs ys : List Nat} (h : Qk B u w' R q cq n c0 c2 c3 xs ys) (nn : Nat) : Qk B u (w'.drewN nn) R q cq n c0 c2 c3 xs ys :=
  ⟨h.qu.below (below_drewNB _ nn), h.pm, ⟨h.gr.os, h.gr.tape, h.gr.output, h.gr.size, h.gr.block⟩⟩
theorem grown_trans {u v w : World} {row : Option Nat} (h1 : u.grownBy v row) (h2 : v.grownBy w row) : u.grownBy w row :=
  ⟨h2.os.trans h1.os, h2.tape.trans h1.tape, h2.output.trans h1.output, Nat.le_trans h1.size h2.size, fun k hk hne => (h2.block k (Nat.lt_of_lt_of_le hk h1.size) hne).trans (h1.block k hk hne)⟩
theorem Qk.swap {B R q cq n : Nat} {u w' w2 : World} {c0 c2 c3 : Value} {xs ys : List Nat} (h : Qk B u w' R q cq n c0 c2 c3 xs ys) (hn : ys.length = n) (i j : Nat) (hi : i < ys.length) (hj : j < ys.length) (ho : w2.ownsRow B 3 1 (.slice (some ⟨q, 0, none⟩) n cq) n (numV ((ys.set i ys[j]).set j ys[i]))) (hg : w'.grownBy w2 (some q)) : Qk B u w2 R q cq n c0 c2 c3 xs ((ys.set i ys[j]).set j ys[i]) :=
  ⟨⟨h.qu.r.kept hg (fun e => (blk_row h.qu.r h.qu.o (by decide)) (by rw [e]; rfl)), by rw [show ((ys.set i ys[j]).set j ys[i]).length = n by simp [hn]]; exact ho⟩, (swap_perm ys i j hi hj).trans h.pm, grown_trans h.gr hg⟩

set_option maxHeartbeats 4000000 in
set_option maxRecDepth 100000 in
theorem up79 {B : Nat} {u : World} {R q cq n : Nat} {c0 c2 c3 : Value} {xs : List Nat} (h : Qu B u R c0 (.slice (some ⟨q, 0, none⟩) n cq) c2 c3 xs) (hn : xs.length = n) (j : Nat) (hj : j < n) (hm : n ≤ 2000000) :
    Calls Tryz.prog 140 #[.iface 157 (.pointer (some ⟨R, 1, none⟩)), .int .i64 j] u fun e w' => e = .returned (.tuple #[]) ∧ ∃ ys, Qk B u w' R q cq n c0 c2 c3 xs ys := by
  have Q0 : Hid (Qk B u u R q cq n c0 c2 c3 xs xs) := ⟨h, List.Perm.refl _, World.grownBy.refl _ _⟩
  clear h
  go_enter Tryz.func140, Tryz.ntmps140
  go_wp2_with fail
  go_loopw [1] (fun jv wr => ∃ (j : Nat) (ys : List Nat), j < n ∧ jv = .int .i64 j ∧ Hid (Qk B u wr R q cq n c0 c2 c3 xs ys)) (fun jv _ => (intOf jv).toNat)
  case atStart => exact ⟨j, xs, hj, rfl, Q0⟩
  case round =>
    clear hj Q0
    obtain ⟨j, ys, hj, rfl, Q⟩ := hrel
    have hyl : ys.length = n := Q.out.pm.length_eq.trans hn
    by_cases h0 : j = 0
    · subst h0
      go_wp2_with fail
      refine bodyPost_end (results_none rfl _ _ _) rfl ?_
      exact ⟨rfl, ys, Q.out⟩
    · obtain ⟨i, hi⟩ : ∃ i : Nat, i = (j - 1) / 2 := ⟨_, rfl⟩
      have hd : ((j : Int) - 1).tdiv 2 = (i : Int) := by
        rw [hi, show (j : Int) - 1 = ((j - 1 : Nat) : Int) by omega]
        rfl
      have hw0 : IntKind.i64.wrap ((j : Int) - 1) = (j : Int) - 1 := by rw [IntKind.wrap_i64]; omega
      have hw1 : IntKind.i64.wrap (i : Int) = (i : Int) := by rw [IntKind.wrap_i64]; omega
      have hij : ((i : Int) == (j : Int)) = false := by simp; omega
      have hil : i < j := by omega
      clear hi
      have ml := mless (Q.out.qu.r.cell 1 rfl)
      have oq := Q.out.qu.o
      rw [hyl] at oq
      have L2 := hidD (less202 oq hyl j i (by omega) (by omega))
      clear oq
      go_wp2_with fail
      refine L2.out.mono ?_
      rintro e w1 ⟨b, rfl, nn, rfl⟩
      have Q1 := hidD (Q.out.drew nn)
      clear Q L2 ml
      generalize wr.drewN nn = w1 at *
      have ms := mswap (Q1.out.qu.r.cell 1 rfl)
      have oq := Q1.out.qu.o
      rw [hyl] at oq
      have L3 := hidD (swap204 oq hyl i j (by omega) (by omega))
      clear oq
      cases b with
      | false =>
        go_wp2_with fail
        refine bodyPost_end (results_none rfl _ _ _) rfl ?_
        exact ⟨rfl, ys, Q1.out⟩
      | true =>
        go_wp2_with fail
        refine L3.out.mono ?_
        rintro e w2 ⟨rfl, ho, hg⟩
        have Q2 := hidD (Q1.out.swap hyl i j (by omega) (by omega) ho hg)
        clear ho hg L3 Q1 ms
        generalize (ys.set i ys[j]).set j ys[i] = zs at *
        go_wp2_with fail
        exact ⟨⟨i, zs, by omega, rfl, Q2⟩, by simp [intOf]; omega⟩

set_option maxHeartbeats 8000000 in
set_option maxRecDepth 100000 in
theorem down114 {B : Nat} {u : World} {R q cq n : Nat} {c0 c2 c3 : Value} {xs : List Nat} (h : Qu B u R c0 (.slice (some ⟨q, 0, none⟩) n cq) c2 c3 xs) (hn : xs.length = n) (m : Nat) (hm : m < n) (hm2 : n ≤ 2000000) :
    Calls Tryz.prog 183 #[.iface 157 (.pointer (some ⟨R, 1, none⟩)), .int .i64 0, .int .i64 m] u fun e w' => (∃ b, e = .returned (.bool b)) ∧ ∃ ys, Qk B u w' R q cq n c0 c2 c3 xs ys ∧ ys.drop m = xs.drop m := by
  have Q0 : Hid (Qk B u u R q cq n c0 c2 c3 xs xs) := ⟨h, List.Perm.refl _, World.grownBy.refl _ _⟩
  clear h
  go_enter Tryz.func183, Tryz.ntmps183
  go_wp2_with fail
  go_loopw [7] (fun iv wr => ∃ (i : Nat) (ys : List Nat), i ≤ n ∧ iv = .int .i64 i ∧ Hid (Qk B u wr R q cq n c0 c2 c3 xs ys) ∧ Hid (ys.drop m = xs.drop m)) (fun iv _ => n - (intOf iv).toNat)
  case atStart => exact ⟨0, xs, by omega, rfl, Q0, rfl⟩
  case round =>
    clear Q0
    obtain ⟨i, ys, hi, rfl, Q, D⟩ := hrel
    have hyl : ys.length = n := Q.out.pm.length_eq.trans hn
    obtain ⟨j1, hj1⟩ : ∃ j1 : Nat, 2 * i + 1 = j1 := ⟨_, rfl⟩
    have e1 : 2 * (i : Int) + 1 = (j1 : Int) := by omega
    have w1 : IntKind.i64.wrap (2 * (i : Int)) = 2 * (i : Int) := by rw [IntKind.wrap_i64]; omega
    have w2 : IntKind.i64.wrap (j1 : Int) = (j1 : Int) := by rw [IntKind.wrap_i64]; omega
    have w3 : IntKind.i64.wrap ((j1 : Int) + 1) = (j1 : Int) + 1 := by rw [IntKind.wrap_i64]; omega
    by_cases hend : m ≤ j1
    · clear hj1
      go_wp2_with fail
      go_ret
      exact ⟨⟨_, rfl⟩, ys, Q.out, D.out⟩
    · have hij : i < j1 := by omega
      have hlt : j1 < m := by omega
      have hlt' : (j1 : Int) < (m : Int) := by omega
      have hge' : ¬ (m : Int) ≤ (j1 : Int) := by omega
      have hneg : ¬ (j1 : Int) < 0 := by omega
      clear hj1 hend
      by_cases h2 : j1 + 1 < m
      · obtain ⟨j2, hj2⟩ : ∃ j2 : Nat, j1 + 1 = j2 := ⟨_, rfl⟩
        have e2 : (j1 : Int) + 1 = (j2 : Int) := by omega
        have w4 : IntKind.i64.wrap (j2 : Int) = (j2 : Int) := by rw [IntKind.wrap_i64]; omega
        have hlt2 : (j2 : Int) < (m : Int) := by omega
        have hij2 : i < j2 := by omega
        have hltn : j2 < m := by omega
        clear h2 hj2 w3
        have ml := mless (Q.out.qu.r.cell 1 rfl)
        have oq := Q.out.qu.o
        rw [hyl] at oq
        have L2 := hidD (less202 oq hyl j2 j1 (by omega) (by omega))
        clear oq
        go_wp2_with fail
        refine L2.out.mono ?_
        rintro e wa ⟨b2, rfl, n2, rfl⟩
        have Q2 := hidD (Q.out.drew n2)
        clear L2 ml Q
        generalize wr.drewN n2 = wq at *
        cases b2 with
        | false =>
          have ml := mless (Q2.out.qu.r.cell 1 rfl)
          have oq := Q2.out.qu.o
          rw [hyl] at oq
          have L4 := hidD (less202 oq hyl j1 i (by omega) (by omega))
          clear oq
          go_wp2_with fail
          refine L4.out.mono ?_
          rintro e wa ⟨b4, rfl, n4, rfl⟩
          have Q5 := hidD (Q2.out.drew n4)
          clear L4 ml Q2
          generalize wq.drewN n4 = w5 at *
          cases b4 with
          | false =>
            go_wp2_with fail
            go_ret
            exact ⟨⟨_, rfl⟩, ys, Q5.out, D.out⟩
          | true =>
            have ms := mswap (Q5.out.qu.r.cell 1 rfl)
            have oq := Q5.out.qu.o
            rw [hyl] at oq
            have L6 := hidD (swap204 oq hyl i j1 (by omega) (by omega))
            clear oq
            go_wp2_with fail
            refine L6.out.mono ?_
            rintro e w6 ⟨rfl, ho, hg⟩
            have Q6 := hidD (Q5.out.swap hyl i j1 (by omega) (by omega) ho hg)
            have D6 : Hid (((ys.set i ys[j1]).set j1 ys[i]).drop m = xs.drop m) := by
              rw [List.drop_set_of_lt (by omega), List.drop_set_of_lt (by omega)]
              exact D.out
            clear ho hg L6 Q5 ms D
            generalize (ys.set i ys[j1]).set j1 ys[i] = zs at *
            go_wp2_with fail
            exact ⟨⟨j1, zs, by omega, rfl, Q6, D6⟩, by simp [intOf]; omega⟩
        | true =>
          have ml := mless (Q2.out.qu.r.cell 1 rfl)
          have oq := Q2.out.qu.o
          rw [hyl] at oq
          have L4 := hidD (less202 oq hyl j2 i (by omega) (by omega))
          clear oq
          go_wp2_with fail
          refine L4.out.mono ?_
          rintro e wa ⟨b4, rfl, n4, rfl⟩
          have Q5 := hidD (Q2.out.drew n4)
          clear L4 ml Q2
          generalize wq.drewN n4 = w5 at *
          cases b4 with
          | false =>
            go_wp2_with fail
            go_ret
            exact ⟨⟨_, rfl⟩, ys, Q5.out, D.out⟩
          | true =>
            have ms := mswap (Q5.out.qu.r.cell 1 rfl)
            have oq := Q5.out.qu.o
            rw [hyl] at oq
            have L6 := hidD (swap204 oq hyl i j2 (by omega) (by omega))
            clear oq
            go_wp2_with fail
            refine L6.out.mono ?_
            rintro e w6 ⟨rfl, ho, hg⟩
            have Q6 := hidD (Q5.out.swap hyl i j2 (by omega) (by omega) ho hg)
            have D6 : Hid (((ys.set i ys[j2]).set j2 ys[i]).drop m = xs.drop m) := by
              rw [List.drop_set_of_lt (by omega), List.drop_set_of_lt (by omega)]
              exact D.out
            clear ho hg L6 Q5 ms D
            generalize (ys.set i ys[j2]).set j2 ys[i] = zs at *
            go_wp2_with fail
            exact ⟨⟨j2, zs, by omega, rfl, Q6, D6⟩, by simp [intOf]; omega⟩
      · have hge2 : ¬ (j1 : Int) + 1 < (m : Int) := by omega
        clear h2
        have ml := mless (Q.out.qu.r.cell 1 rfl)
        have oq := Q.out.qu.o
        rw [hyl] at oq
        have L4 := hidD (less202 oq hyl j1 i (by omega) (by omega))
        clear oq
        go_wp2_with fail
        refine L4.out.mono ?_
        rintro e wa ⟨b4, rfl, n4, rfl⟩
        have Q5 := hidD (Q.out.drew n4)
        clear L4 ml Q
        generalize wr.drewN n4 = w5 at *
        cases b4 with
        | false =>
          go_wp2_with fail
          go_ret
          exact ⟨⟨_, rfl⟩, ys, Q5.out, D.out⟩
        | true =>
          have ms := mswap (Q5.out.qu.r.cell 1 rfl)
          have oq := Q5.out.qu.o
          rw [hyl] at oq
          have L6 := hidD (swap204 oq hyl i j1 (by omega) (by omega))
          clear oq
          go_wp2_with fail
          refine L6.out.mono ?_
          rintro e w6 ⟨rfl, ho, hg⟩
          have Q6 := hidD (Q5.out.swap hyl i j1 (by omega) (by omega) ho hg)
          have D6 : Hid (((ys.set i ys[j1]).set j1 ys[i]).drop m = xs.drop m) := by
            rw [List.drop_set_of_lt (by omega), List.drop_set_of_lt (by omega)]
            exact D.out
          clear ho hg L6 Q5 ms D
          generalize (ys.set i ys[j1]).set j1 ys[i] = zs at *
          go_wp2_with fail
          exact ⟨⟨j1, zs, by omega, rfl, Q6, D6⟩, by simp [intOf]; omega⟩
end Go.Proofs.YtpjjagalekolaaaGreatDoor

/- The planner takes its steps in order: a step lets those go that wait for it. -/
namespace Go.Proofs.YtpjjagalekolaaaGreatDoor
open Go.RowKit
set_option linter.unusedVariables false
set_option linter.unusedSimpArgs false

/-- A step is written. -/
theorem Rst.setSt {w0 u : World} {R g c F0 F1 : Nat} {st : List Value} {rdy : Value} {nr : Nat} {rx : List Value} {opv : Value} {no : Nat} {ops : List Value} {sp : Int} (h : Rst w0 u R g c F0 F1 st rdy nr rx opv no ops sp) (j : Nat) (v : Value) : Rst w0 (u.setCell ⟨g, j, none⟩ v) R g c F0 F1 (st.set j v) rdy nr rx opv no ops sp := by
  have hg := gb_set u g j v
  have G := blk_of_row h.st
  exact ⟨h.bel.grown hg h.bel.size (fun k e => by have := (h.st.lt g rfl).1; simp at e; omega), h.ge, h.r.kept hg (by simpa using h.r.ne G (by decide)), (h.st.stored j v).1, row_row h.rd h.st (by decide) hg, row_row h.op h.st (by decide) hg, h.f0.kept hg (by simpa using h.f0.ne G (by decide)), h.f1.kept hg (by simpa using h.f1.ne G (by decide)), h.nf⟩

end Go.Proofs.YtpjjagalekolaaaGreatDoor

/- The planner takes its steps in order: one steps aside; those that are ready are taken. -/
namespace Go.Proofs.YtpjjagalekolaaaGreatDoor
open Go.RowKit
set_option linter.unusedVariables false
set_option linter.unusedSimpArgs false

theorem info59 : (Tryz.prog.info? 59).map (fun i => (i.zero, i.size, i.bytes)) = some (some (.agg #[.int .i64 0, .string ⟨#[]⟩, .string ⟨#[]⟩, .int .i64 0, .int .i64 0, .int .i64 0]), 6, 64) := by kernel_rfl
/-- The operations are others. -/
theorem Rst.added {w0 u u' : World} {R g c F0 F1 : Nat} {st : List Value} {rdy : Value} {nr : Nat} {rx : List Value} {opv opv' : Value} {no no' : Nat} {ops ops' : List Value} {sp : Int} (h : Rst w0 u R g c F0 F1 st rdy nr rx opv no ops sp) (ho : u'.ownsRow w0.heap.size 59 6 opv' no' ops') (hg : u.grownBy u' opv.ownBlock) : Rst w0 (u'.setCell ⟨R, 2, none⟩ opv') R g c F0 F1 st rdy nr rx opv' no' ops' sp := by
  have hr := h.r.kept hg (blk_row h.r h.op (by decide))
  have hbel := h.bel.grown hg h.bel.size (fun k e => (h.op.lt k e).1)
  have f0 := h.f0.kept hg (blk_row h.f0 h.op (by decide))
  have f1 := h.f1.kept hg (blk_row h.f1 h.op (by decide))
  exact ⟨below_set hbel _ _ _ hbel.size h.ge, h.ge, hr.set 2 opv' (by simp), row_blk hr (row_row h.st h.op (by decide) hg) (by decide) (gb_set _ _ _ _), row_blk hr (row_row h.rd h.op (by decide) hg) (by decide) (gb_set _ _ _ _), row_blk hr ho (by decide) (gb_set _ _ _ _), f0.other 2 opv' (f0.ne hr (by decide)), f1.other 2 opv' (f1.ne hr (by decide)), h.nf⟩
/-- The steps when the first has stepped aside. -/
def st3 (F1 c1 : Nat) : List Value := [.int .i64 6, .string ⟨#[126, 48]⟩, .string ⟨#[98]⟩, .int .i64 0, .int .i64 0, .int .i64 0, .int .i64 1, .slice none 0 0, .slice none 0 0, .int .i64 6, .string ⟨#[98]⟩, .string ⟨#[97]⟩, .int .i64 0, .int .i64 0, .int .i64 0, .int .i64 0, .slice (some ⟨F1, 0, none⟩) 1 c1, .slice none 0 0]

end Go.Proofs.YtpjjagalekolaaaGreatDoor

/- The planner takes its steps in order: those that are ready are taken. -/
namespace Go.Proofs.YtpjjagalekolaaaGreatDoor
open Go.RowKit
set_option linter.unusedVariables false
set_option linter.unusedSimpArgs false

theorem row_shape0 {u : World} {B e s n : Nat} {v : Value} {xs : List Value} (h : u.ownsRow B e s v n xs) : ∃ a c, v = .slice a n c := by
  rcases h.2 with ⟨h1, h2⟩ | ⟨g', cap, cur, h1, _⟩
  · subst h2; exact ⟨_, _, h1⟩
  · exact ⟨_, _, h1⟩
end Go.Proofs.YtpjjagalekolaaaGreatDoor

