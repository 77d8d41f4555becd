/- KK, KL, KM, KN, IA, IB: in one text. -/
import Derived.Test.YtpjjagalekolaaaGreatDoorY10
/- The planner at two files that change their names: each waits for the other. -/
namespace Go.Proofs.YtpjjagalekolaaaGreatDoor
open Go.RowKit
set_option linter.unusedVariables false
set_option linter.unusedSimpArgs false

def st0 : List Value := stepC 6 ⟨#[97]⟩ ⟨#[98]⟩ ++ stepC 6 ⟨#[98]⟩ ⟨#[97]⟩
/-- The two steps, each waiting for the other. -/
def st2 (F0 c0 F1 c1 : Nat) : List Value := [.int .i64 6, .string ⟨#[97]⟩, .string ⟨#[98]⟩, .int .i64 0, .int .i64 0, .int .i64 0, .int .i64 1, .slice (some ⟨F0, 0, none⟩) 1 c0, .slice none 0 0, .int .i64 6, .string ⟨#[98]⟩, .string ⟨#[97]⟩, .int .i64 0, .int .i64 0, .int .i64 0, .int .i64 1, .slice (some ⟨F1, 0, none⟩) 1 c1, .slice none 0 0]

set_option maxHeartbeats 4000000 in
set_option maxRecDepth 100000 in
theorem waitForPlace_swap {w0 u : World} {D A B C E bs bt g c : Nat} (S : Dst w0 u D A B C E bs bt [.int .i64 0, .int .i64 1] [.int .i64 1, .int .i64 0] (.slice (some ⟨g, 0, none⟩) 2 c) 2 st0) :
    Calls Tryz.prog 104 #[.pointer (some ⟨D, 0, none⟩)] u fun e w' => e = .returned (.tuple #[]) ∧ ∃ F0 c0 F1 c1, Dst w0 w' D A B C E bs bt [.int .i64 0, .int .i64 1] [.int .i64 1, .int .i64 0] (.slice (some ⟨g, 0, none⟩) 2 c) 2 (st2 F0 c0 F1 c1) ∧ Blk w' F0 3 [.int .i64 1] ∧ Blk w' F1 3 [.int .i64 0] ∧ F0 ≠ F1 ∧ w0.heap.size ≤ F0 ∧ w0.heap.size ≤ F1 := by
  have S0 := hidD S
  have r1 := S.d.cell 1 rfl
  clear S
  have t0 := S0.out.i.t.cell 0 rfl
  have t1 := S0.out.i.t.cell 1 rfl
  have t2 := S0.out.i.t.cell 2 rfl
  have t3 := S0.out.i.t.cell 3 rfl
  have t4 := S0.out.i.t.cell 4 rfl
  have X := hidD (Blk.new u 56 [.string ⟨#[97]⟩, .bool false, .int .i64 2, .int .i64 3, .int .i64 0])
  have BB := hidD (box_below u #[.string ⟨#[97]⟩, .bool false, .int .i64 2, .int .i64 3, .int .i64 0] 56)
  have S1 := hidD (S0.out.below BB.out)
  have q7 := S1.out.d.cell 7 rfl
  have qe := S1.out.e.cell 0 rfl
  have q0 := S1.out.d.cell 0 rfl
  have q2 := S1.out.d.cell 2 rfl
  have x0 := X.out.cell 0 rfl
  go_enter Tryz.func104, Tryz.ntmps104
  go_wp2
  refine wp_loop_rounds 3 ?_
  rw [rounds_succ]
  go_wp2
  generalize hU : u.alloc (.cells #[.string ⟨#[97]⟩, .bool false, .int .i64 2, .int .i64 3, .int .i64 0] 56) = v0 at *
  go_region_held3 (fun v => v.cell? ⟨D, 0, none⟩ = some (.slice (some ⟨bs, 0, none⟩) 2 2) ∧ v.cell? ⟨u.heap.size, 0, none⟩ = some (.string ⟨#[97]⟩) ∧ v.cell? ⟨D, 2, none⟩ = some (.bool false)) (go_keep) (first | (go_at_call 155; refine ((S1.out.below (below_drewB _)).i.find0).mono ?_; rintro e y0 ⟨rfl, hb⟩; have hby : Below v0.heap.size v0 y0 := (below_drewB _).trans hb; have S2 := hidD (S1.out.below hby); have X2 := hidD (X.out.below hby); have z0 := S2.out.d.cell 0 rfl; have z1 := X2.out.cell 0 rfl; have z2 := S2.out.d.cell 2 rfl; clear hb hby))
  have a7 := S2.out.d.cell 7 rfl
  have ae := S2.out.e.cell 0 rfl
  have a6 := S2.out.d.cell 6 rfl
  have ac := S2.out.c.cell 0 rfl
  clear q7 qe q0 q2 x0 z0 z1 z2
  go_wp2
  go_region_held3 (fun v => v.cell? ⟨D, 7, none⟩ = some (.slice (some ⟨E, 0, none⟩) 2 2) ∧ v.cell? ⟨E, 0, none⟩ = some (.int .i64 1) ∧ v.cell? ⟨D, 6, none⟩ = some (.slice (some ⟨C, 0, none⟩) 2 2) ∧ v.cell? ⟨C, 0, none⟩ = some (.int .i64 0)) (go_keep) (first | (go_at_call 157; refine (waitFreed_10 (S2.out.below (below_drewB _)) rfl rfl).mono ?_; rintro e x0 ⟨rfl, F0, cF0, hS3, hF3, hge0, hfr⟩; have S3 := hidD hS3; have X3 := hidD (hfr _ _ _ (X2.out.below (below_drewB _)) (by decide)); have NF0 := hidD hF3; have b7 := S3.out.d.cell 7 rfl; have be := S3.out.e.cell 0 rfl; have b6 := S3.out.d.cell 6 rfl; have bc := S3.out.c.cell 0 rfl; clear hS3 hF3 hfr))
  have p1 := S3.out.d.cell 1 rfl
  have p0 := X3.out.cell 0 rfl
  go_wp2
  go_region_held3 (fun v => v.cell? ⟨D, 1, none⟩ = some (.slice (some ⟨bt, 0, none⟩) 2 2) ∧ v.cell? ⟨u.heap.size, 0, none⟩ = some (.string ⟨#[97]⟩)) (go_keep) (first | (go_at_call 156; refine (parent0 _).mono ?_; rintro e z ⟨rfl, hz⟩; rw [hz]; clear hz z) | (go_at_call 155; refine ((S3.out.below (below_drewB _)).i.findT).mono ?_; rintro e w0 ⟨rfl, hb⟩; have hby : Below x0.heap.size x0 w0 := (below_drewB _).trans hb; have T0 := hidD (S3.out.below hby); have X4 := hidD (X3.out.below hby); have HF0 := hidD (NF0.out.below hby); have z0 := T0.out.d.cell 1 rfl; have z1 := X4.out.cell 0 rfl; clear hb hby))
  go_wp2
  have FB0 := HF0
  clear S1 S2 S3 X X2 X3 X4 BB a7 ae a6 ac b7 be b6 bc p1 p0 z0 z1 t0 t1 t2 t3 t4 hU NF0
  have t0 := T0.out.i.t.cell 5 rfl
  have t1 := T0.out.i.t.cell 6 rfl
  have t2 := T0.out.i.t.cell 7 rfl
  have t3 := T0.out.i.t.cell 8 rfl
  have t4 := T0.out.i.t.cell 9 rfl
  have X := hidD (Blk.new w0 56 [.string ⟨#[98]⟩, .bool false, .int .i64 1, .int .i64 3, .int .i64 0])
  have BB := hidD (box_below w0 #[.string ⟨#[98]⟩, .bool false, .int .i64 1, .int .i64 3, .int .i64 0] 56)
  have S1 := hidD (T0.out.below BB.out)
  have FB1 := hidD (FB0.out.below BB.out)
  have q7 := S1.out.d.cell 7 rfl
  have qe := S1.out.e.cell 1 rfl
  have q0 := S1.out.d.cell 0 rfl
  have q2 := S1.out.d.cell 2 rfl
  have x0 := X.out.cell 0 rfl
  rw [rounds_succ]
  go_wp2
  generalize hU : w0.alloc (.cells #[.string ⟨#[98]⟩, .bool false, .int .i64 1, .int .i64 3, .int .i64 0] 56) = v1 at *
  go_region_held3 (fun v => v.cell? ⟨D, 0, none⟩ = some (.slice (some ⟨bs, 0, none⟩) 2 2) ∧ v.cell? ⟨w0.heap.size, 0, none⟩ = some (.string ⟨#[98]⟩) ∧ v.cell? ⟨D, 2, none⟩ = some (.bool false)) (go_keep) (first | (go_at_call 155; refine ((S1.out.below (below_drewB _)).i.find1).mono ?_; rintro e y1 ⟨rfl, hb⟩; have hby : Below v1.heap.size v1 y1 := (below_drewB _).trans hb; have S2 := hidD (S1.out.below hby); have X2 := hidD (X.out.below hby); have FB2 := hidD (FB1.out.below hby); have z0 := S2.out.d.cell 0 rfl; have z1 := X2.out.cell 0 rfl; have z2 := S2.out.d.cell 2 rfl; clear hb hby))
  have a7 := S2.out.d.cell 7 rfl
  have ae := S2.out.e.cell 1 rfl
  have a6 := S2.out.d.cell 6 rfl
  have ac := S2.out.c.cell 1 rfl
  clear q7 qe q0 q2 x0 z0 z1 z2
  go_wp2
  go_region_held3 (fun v => v.cell? ⟨D, 7, none⟩ = some (.slice (some ⟨E, 0, none⟩) 2 2) ∧ v.cell? ⟨E, 1, none⟩ = some (.int .i64 0) ∧ v.cell? ⟨D, 6, none⟩ = some (.slice (some ⟨C, 0, none⟩) 2 2) ∧ v.cell? ⟨C, 1, none⟩ = some (.int .i64 1)) (go_keep) (first | (go_at_call 157; refine (waitFreed_01 (S2.out.below (below_drewB _)) rfl rfl).mono ?_; rintro e x1 ⟨rfl, F1, cF1, hS3, hF3, hge1, hfr⟩; have S3 := hidD hS3; have X3 := hidD (hfr _ _ _ (X2.out.below (below_drewB _)) (by decide)); have NF1 := hidD hF3; have FB3 := hidD (hfr _ _ _ (FB2.out.below (below_drewB _)) (by decide)); have nF := hidD (hfr _ _ _ (FB2.out.below (below_drewB _)) (by decide)); have b7 := S3.out.d.cell 7 rfl; have be := S3.out.e.cell 1 rfl; have b6 := S3.out.d.cell 6 rfl; have bc := S3.out.c.cell 1 rfl; clear hS3 hF3 hfr))
  have p1 := S3.out.d.cell 1 rfl
  have p0 := X3.out.cell 0 rfl
  go_wp2
  go_region_held3 (fun v => v.cell? ⟨D, 1, none⟩ = some (.slice (some ⟨bt, 0, none⟩) 2 2) ∧ v.cell? ⟨w0.heap.size, 0, none⟩ = some (.string ⟨#[98]⟩)) (go_keep) (first | (go_at_call 156; refine (parent1 _).mono ?_; rintro e z ⟨rfl, hz⟩; rw [hz]; clear hz z) | (go_at_call 155; refine ((S3.out.below (below_drewB _)).i.findT).mono ?_; rintro e w1 ⟨rfl, hb⟩; have hby : Below x1.heap.size x1 w1 := (below_drewB _).trans hb; have T1 := hidD (S3.out.below hby); have X4 := hidD (X3.out.below hby); have HF1 := hidD (NF1.out.below hby); have FB4 := hidD (FB3.out.below hby); have z0 := T1.out.d.cell 1 rfl; have z1 := X4.out.cell 0 rfl; clear hb hby))
  go_wp2
  rw [rounds_succ]
  go_wp2
  refine bodyPost_end (results_none rfl _ _ _) rfl ?_
  refine ⟨rfl, F0, cF0, F1, cF1, T1.out, FB4.out, HF1.out, fun e => ?_, hge0, hge1⟩
  subst e
  have q1 := FB4.out.cell 0 rfl
  have q2 := HF1.out.cell 0 rfl
  rw [q1] at q2
  simp at q2
end Go.Proofs.YtpjjagalekolaaaGreatDoor

/- The planner at two files that change their names: all its steps. -/
namespace Go.Proofs.YtpjjagalekolaaaGreatDoor
open Go.RowKit
set_option linter.unusedVariables false
set_option linter.unusedSimpArgs false

theorem row_form {u : World} {B e s n : Nat} {v : Value} {xs : List Value} (h : u.ownsRow B e s v n xs) (hn : 0 < n) : ∃ g c, v = .slice (some ⟨g, 0, none⟩) n c := by
  rcases h.2 with ⟨_, h0⟩ | ⟨g, cap, cur, rfl, _⟩
  · omega
  · exact ⟨_, _, rfl⟩

set_option maxHeartbeats 4000000 in
set_option maxRecDepth 100000 in
theorem steps_swap {w : World} {bs bt : Nat} (I : Inp w bs bt) :
    Calls Tryz.prog 59 #[.slice (some ⟨bs, 0, none⟩) 2 2, .slice (some ⟨bt, 0, none⟩) 2 2, .bool false] w fun e w' => ∃ g c F0 c0 F1 c1, e = .returned (.slice (some ⟨g, 0, none⟩) 2 c) ∧ w'.ownsRow w.heap.size 155 9 (.slice (some ⟨g, 0, none⟩) 2 c) 2 (st2 F0 c0 F1 c1) ∧ Blk w' F0 3 [.int .i64 1] ∧ Blk w' F1 3 [.int .i64 0] ∧ F0 ≠ F1 ∧ w.heap.size ≤ F0 ∧ w.heap.size ≤ F1 ∧ Below w.heap.size w w' := by
  have HI := hidD I
  clear I
  go_enter Tryz.func59, Tryz.ntmps59
  go_wp2_with fail
  refine (newMatch_swap HI.out).mono ?_
  rintro e w1 ⟨A, B, rfl, hAB, hA, hB, bA, bB, hb1⟩
  have BA := hidD bA
  have BB := hidD bB
  have HB1 := hidD hb1
  have ltA := bA.lt
  have ltB := bB.lt
  clear bA bB hb1
  go_wp2_with fail
  refine (numbers2 _).mono ?_
  rintro e w2 ⟨C, rfl, hC, rC, hb2⟩
  have BA2 := hidD (BA.out.below hb2)
  have BB2 := hidD (BB.out.below hb2)
  have BC2 := hidD (Blk.of rC)
  have HB2 := hidD (HB1.out.trans (hb2.mono HB1.out.size))
  have ltC := (Blk.of rC).lt
  have hz12 := hb2.size
  clear rC hb2 BA BB
  go_wp2_with fail
  refine (numbers2 _).mono ?_
  rintro e w3 ⟨E, rfl, hE, rE, hb3⟩
  have BA3 := hidD (BA2.out.below hb3)
  have BB3 := hidD (BB2.out.below hb3)
  have BC3 := hidD (BC2.out.below hb3)
  have BE3 := hidD (Blk.of rE)
  have HB3 := hidD (HB2.out.trans (hb3.mono HB2.out.size))
  have hz23 := hb3.size
  have hw1 := HB1.out.size
  have hw3 := HB3.out.size
  clear rE hb3 BA2 BB2 BC2 HB2
  have BD := hidD (box_below w3 #[.slice (some ⟨bs, 0, none⟩) 2 2, .slice (some ⟨bt, 0, none⟩) 2 2, .bool false, .slice (some ⟨A, 0, none⟩) 2 2, .slice (some ⟨B, 0, none⟩) 2 2, .slice none 0 0, .slice (some ⟨C, 0, none⟩) 2 2, .slice (some ⟨E, 0, none⟩) 2 2] 164)
  have XD := hidD (Blk.new w3 164 [.slice (some ⟨bs, 0, none⟩) 2 2, .slice (some ⟨bt, 0, none⟩) 2 2, .bool false, .slice (some ⟨A, 0, none⟩) 2 2, .slice (some ⟨B, 0, none⟩) 2 2, .slice none 0 0, .slice (some ⟨C, 0, none⟩) 2 2, .slice (some ⟨E, 0, none⟩) 2 2])
  have HB4 := hidD (HB3.out.trans (BD.out.mono HB3.out.size))
  have S4 : Hid (Dst w (w3.alloc (.cells #[.slice (some ⟨bs, 0, none⟩) 2 2, .slice (some ⟨bt, 0, none⟩) 2 2, .bool false, .slice (some ⟨A, 0, none⟩) 2 2, .slice (some ⟨B, 0, none⟩) 2 2, .slice none 0 0, .slice (some ⟨C, 0, none⟩) 2 2, .slice (some ⟨E, 0, none⟩) 2 2] 164)) w3.heap.size A B C E bs bt [.int .i64 (-1), .int .i64 (-1)] [.int .i64 (-1), .int .i64 (-1)] (.slice none 0 0) 0 []) := ⟨HB4.out, ⟨hw3, hA, hB, by omega, by omega⟩, ⟨by omega, by omega, by omega, by omega, by omega⟩, XD.out, BA3.out.below BD.out, BB3.out.below BD.out, BC3.out.below BD.out, BE3.out.below BD.out, HI.out.below HB4.out, World.ownsRow_nil _ _ _ _⟩
  clear BA3 BB3 BC3 BE3 XD BD HB4 HB3 HB1
  generalize hD : w3.heap.size = D at *
  go_wp2_with fail
  refine (takeAway_swap S4.out).mono ?_
  rintro e w5 ⟨rfl, hS⟩
  have S5 := hidD hS
  clear hS S4
  go_wp2_with fail
  refine (carryOver_swap S5.out).mono ?_
  rintro e w6 ⟨rfl, stv, hS⟩
  obtain ⟨g, c, hst⟩ := row_form hS.st (by decide)
  subst hst
  have S6 := hidD hS
  clear hS S5
  go_wp2_with fail
  refine (makeDirs_swap S6.out).mono ?_
  rintro e w7 ⟨rfl, hS⟩
  have S7 := hidD hS
  clear hS S6
  go_wp2_with fail
  refine (fillFiles_swap S7.out).mono ?_
  rintro e w8 ⟨rfl, hS⟩
  have S8 := hidD hS
  clear hS S7
  go_wp2_with fail
  refine (waitForEmpty_swap S8.out).mono ?_
  rintro e w9 ⟨rfl, hS⟩
  have S9 := hidD hS
  clear hS S8
  go_wp2_with fail
  refine (waitForPlace_swap S9.out).mono ?_
  rintro e w10 ⟨rfl, F0, c0, F1, c1, hS, b0, b1, hne, h0, h1⟩
  have S10 := hidD hS
  have d5 := hS.d.cell 5 rfl
  clear hS S9
  go_wp2
  go_ret
  exact ⟨g, c, F0, c0, F1, c1, rfl, S10.out.st, b0, b1, hne, h0, h1, S10.out.bel⟩
end Go.Proofs.YtpjjagalekolaaaGreatDoor

/- The planner takes its steps in order: what it holds meanwhile; a number is put into the heap. -/
namespace Go.Proofs.YtpjjagalekolaaaGreatDoor
open Go.RowKit
set_option linter.unusedVariables false
set_option linter.unusedSimpArgs false

/-- A run of steps in memory. -/
structure Rst (w0 u : World) (R g c F0 F1 : Nat) (st : List Value) (rdy : Value) (nr : Nat) (rx : List Value) (opv : Value) (no : Nat) (ops : List Value) (sp : Int) : Prop where
  bel : Below w0.heap.size w0 u
  ge : w0.heap.size ≤ R
  r : Blk u R 153 [.slice (some ⟨g, 0, none⟩) 2 c, rdy, opv, .int .i64 sp]
  st : u.ownsRow w0.heap.size 155 9 (.slice (some ⟨g, 0, none⟩) 2 c) 2 st
  rd : u.ownsRow w0.heap.size 3 1 rdy nr rx
  op : u.ownsRow w0.heap.size 59 6 opv no ops
  f0 : Blk u F0 3 [.int .i64 1]
  f1 : Blk u F1 3 [.int .i64 0]
  nf : some F0 ≠ rdy.ownBlock ∧ some F1 ≠ rdy.ownBlock
theorem Rst.below {w0 u u' : World} {R g c F0 F1 : Nat} {st : List Value} {rdy : Value} {nr : Nat} {rx : List Value} {opv : Value} {no : Nat} {ops : List Value} {sp : Int} (h : Rst w0 u R g c F0 F1 st rdy nr rx opv no ops sp) (hb : Below u.heap.size u u') : Rst w0 u' R g c F0 F1 st rdy nr rx opv no ops sp :=
  ⟨h.bel.trans (hb.mono h.bel.size), h.ge, h.r.below hb, own_belowK hb h.st, own_belowK hb h.rd, own_belowK hb h.op, h.f0.below hb, h.f1.below hb, h.nf⟩
theorem row_row {u u' : World} {B1 e1 s1 n1 B2 e2 s2 n2 : Nat} {v1 v2 : Value} {x1 x2 : List Value} (h : u.ownsRow B1 e1 s1 v1 n1 x1) (o : u.ownsRow B2 e2 s2 v2 n2 x2) (hT : e1 ≠ e2) (hg : u.grownBy u' v2.ownBlock) : u'.ownsRow B1 e1 s1 v1 n1 x1 := by
  refine h.kept hg ?_
  cases hv : v1.ownBlock with
  | none => exact .inl rfl
  | some g =>
    refine .inr (fun e => ?_)
    rcases h.2 with ⟨rfl, _⟩ | ⟨g', cap, cur, rfl, _, hg1, _⟩
    · simp [Value.ownBlock] at hv
    · have hgg : g' = g := by simpa [Value.ownBlock] using hv
      subst hgg
      have hb : Blk u g' e1 [] := ⟨cur, hg1, fun j v hv => by simp at hv⟩
      exact blk_row hb o hT e
/-- The queue is another. -/
theorem Rst.queue {w0 u u' : World} {R g c F0 F1 : Nat} {st : List Value} {rdy rdy' : Value} {nr nr' : Nat} {rx rx' : List Value} {opv : Value} {no : Nat} {ops : List Value} {sp : Int} (h : Rst w0 u R g c F0 F1 st rdy nr rx opv no ops sp) (ho : u'.ownsRow w0.heap.size 3 1 rdy' nr' rx') (hg : u.grownBy u' rdy.ownBlock) (hn : some F0 ≠ rdy'.ownBlock ∧ some F1 ≠ rdy'.ownBlock) : Rst w0 (u'.setCell ⟨R, 1, none⟩ rdy') R g c F0 F1 st rdy' nr' rx' opv no ops sp := by
  have hr := h.r.kept hg (blk_row h.r h.rd (by decide))
  have hbel := h.bel.grown hg h.bel.size (fun k e => (h.rd.lt k e).1)
  have f0 := h.f0.kept hg h.nf.1
  have f1 := h.f1.kept hg h.nf.2
  exact ⟨below_set hbel _ _ _ hbel.size h.ge, h.ge, hr.set 1 rdy' (by simp), row_blk hr (row_row h.st h.rd (by decide) hg) (by decide) (gb_set _ _ _ _), row_blk hr ho (by decide) (gb_set _ _ _ _), row_blk hr (row_row h.op h.rd (by decide) hg) (by decide) (gb_set _ _ _ _), f0.other 1 rdy' (f0.ne hr (by decide)), f1.other 1 rdy' (f1.ne hr (by decide)), hn⟩

set_option maxHeartbeats 4000000 in
set_option maxRecDepth 100000 in
theorem qPush {w0 u : World} {R g c F0 F1 : Nat} {st : List Value} {rdy : Value} {nr : Nat} {rx : List Value} {opv : Value} {no : Nat} {ops : List Value} {sp : Int} (S : Rst w0 u R g c F0 F1 st rdy nr rx opv no ops sp) (hn : nr ≤ 1000) (k : Int) :
    Calls Tryz.prog 278 #[.pointer (some ⟨R, 1, none⟩), .iface 3 (.int .i64 k)] u fun e w' => e = .returned (.tuple #[]) ∧ ∃ q cq, Rst w0 w' R g c F0 F1 st (.slice (some ⟨q, 0, none⟩) (nr + 1) cq) (nr + 1) (rx ++ [.int .i64 k]) opv no ops sp := by
  obtain ⟨i0, hi, hz0, hz1, hz2⟩ := info_parts info3
  have S1 := hidD S
  have d5 := S.r.cell 1 rfl
  obtain ⟨sa, sn, sc, hsv⟩ := shape_of S.rd
  subst hsv
  have hbU : Below u.heap.size u (u.alloc (.cells #[.int .i64 k] 3)).drew := (box_below u #[.int .i64 k] 3).trans (Below.mono (below_drewB _) (by simp))
  have S2 := hidD (S.below hbU)
  have d5' : (u.alloc (.cells #[.int .i64 k] 3)).cell? ⟨R, 1, none⟩ = some (.slice sa sn sc) := S2.out.r.cell 1 rfl
  have hz2' := S2.out.bel.size
  have D6 := hidD (fun (w6 : World) (hg : (u.alloc (.cells #[.int .i64 k] 3)).drew.grownBy w6 (Value.slice sa sn sc).ownBlock) => S2.out.r.kept hg (blk_row S2.out.r S2.out.rd (by decide)))
  have lt0 := S.f0.lt
  have lt1 := S.f1.lt
  have hta : ∀ (w : World), (Instr.typeAssert (.iface 3 (.int .i64 k)) 20 3 false).run Tryz.prog w = .ok (.int .i64 k) w := fun w => by kernel_rfl
  clear S
  go_enter Tryz.func278, Tryz.ntmps278
  go_wp2
  go_region_law ((refine step_append_lies _ (by rfl) (.tmp 8) (.tmp 11) 149 (by rfl) w0.heap.size 3 i0 _ 1 8 Tryz.underlying149 hi hz0 hz1 hz2 rfl (by decide) (.slice sa sn sc) nr rx (by rfl) S2.out.rd ⟨u.heap.size, 0, none⟩ 1 1 [.int .i64 k] (by rfl) rfl (new_at u 3 [.int .i64 k]) (by intro x hx; rw [List.mem_singleton.1 hx]; rfl) (by decide) (by unfold maxLen; omega) (by omega) hz2' _ rfl ?_; intro g6 c6 w6 hown6 hg6 hat6 hlt6; have e5 := (D6.out w6 hg6).cell 1 rfl; have f5 := (D6.out w6 hg6).frozen 1))
  all_goals
    refine bodyPost_end (results_none rfl _ _ _) rfl ?_
    have hz : (u.alloc (.cells #[.int .i64 k] 3)).drew.heap.size = u.heap.size + 1 := by show (u.alloc (.cells #[.int .i64 k] 3)).heap.size = _; simp
    refine ⟨rfl, g6, c6, S2.out.queue hown6 hg6 ⟨fun e => ?_, fun e => ?_⟩⟩
    · have e' : F0 = g6 := by simpa [Value.ownBlock] using e
      rcases hat6 with h | h
      · exact S2.out.nf.1 (by rw [h, e'])
      · omega
    · have e' : F1 = g6 := by simpa [Value.ownBlock] using e
      rcases hat6 with h | h
      · exact S2.out.nf.2 (by rw [h, e'])
      · omega
theorem len80 (a : Option Addr) (n c : Nat) (w : World) : Calls Tryz.prog 141 #[.slice a n c] w fun e w' => e = .returned (.int .i64 n) ∧ w' = w := by
  go_enter Tryz.func141, Tryz.ntmps141
  go_wp2
  go_ret
  exact ⟨rfl, rfl⟩
set_option maxRecDepth 100000 in
theorem meth_len (R : Nat) (w : World) : (method 409 157 (.pointer (some ⟨R, 1, none⟩)) "Len").run Tryz.prog w = (do let v ← load ⟨R, 1, none⟩; pure (141, v) : Sem _).run Tryz.prog w := by
  kernel_rfl
set_option maxRecDepth 100000 in
theorem meth_swap (R : Nat) (w : World) : (method 409 157 (.pointer (some ⟨R, 1, none⟩)) "Swap").run Tryz.prog w = (do let v ← load ⟨R, 1, none⟩; pure (276, v) : Sem _).run Tryz.prog w := by
  kernel_rfl
theorem mlen {R : Nat} {w : World} {v : Value} (h : w.cell? ⟨R, 1, none⟩ = some v) : (method 409 157 (.pointer (some ⟨R, 1, none⟩)) "Len").run Tryz.prog w = .ok (141, v) w := by
  rw [meth_len]
  simp [go_sem, h]
theorem mswap {R : Nat} {w : World} {v : Value} (h : w.cell? ⟨R, 1, none⟩ = some v) : (method 409 157 (.pointer (some ⟨R, 1, none⟩)) "Swap").run Tryz.prog w = .ok (276, v) w := by
  rw [meth_swap]
  simp [go_sem, h]
theorem up0 (v : Value) (w : World) : Calls Tryz.prog 140 #[v, .int .i64 0] w fun e w' => e = .returned (.tuple #[]) ∧ w' = w := by
  go_enter Tryz.func140, Tryz.ntmps140
  go_wp2
  refine wp_loop_rounds 1 ?_
  rw [rounds_succ]
  go_wp2
  refine bodyPost_end (results_none rfl _ _ _) rfl ?_
  exact ⟨rfl, rfl⟩

set_option maxHeartbeats 4000000 in
set_option maxRecDepth 100000 in
theorem heapPush {w0 u : World} {R g c F0 F1 : Nat} {st : List Value} {rdy : Value} {opv : Value} {no : Nat} {ops : List Value} {sp : Int} (S : Rst w0 u R g c F0 F1 st rdy 0 [] opv no ops sp) (k : Int) :
    Calls Tryz.prog 93 #[.iface 157 (.pointer (some ⟨R, 1, none⟩)), .iface 3 (.int .i64 k)] u fun e w' => e = .returned (.tuple #[]) ∧ ∃ q cq, Rst w0 w' R g c F0 F1 st (.slice (some ⟨q, 0, none⟩) 1 cq) 1 [.int .i64 k] opv no ops sp := by
  have HP := hidD (qPush S (by decide) k)
  clear S
  go_enter Tryz.func93, Tryz.ntmps93
  go_wp2_with fail
  refine HP.out.mono ?_
  rintro e w1 ⟨rfl, q, cq, hS⟩
  have S1 := hidD hS
  have hm := mlen (hS.r.cell 1 rfl)
  clear hS
  go_wp2_with fail
  refine (len80 _ _ _ _).mono ?_
  rintro e wz ⟨rfl, hwz⟩; rw [hwz]; clear hwz
  go_wp2_with fail
  refine (up0 _ _).mono ?_
  rintro e wz ⟨rfl, hwz⟩; rw [hwz]; clear hwz
  go_wp2_with fail
  refine bodyPost_end (results_none rfl _ _ _) rfl ?_
  exact ⟨rfl, q, cq, S1.out⟩
end Go.Proofs.YtpjjagalekolaaaGreatDoor

/- The planner takes its steps in order: a number is taken out of the heap, where it is the only one. -/
namespace Go.Proofs.YtpjjagalekolaaaGreatDoor
open Go.RowKit
set_option linter.unusedVariables false
set_option linter.unusedSimpArgs false

/-- The queue's own row is written. -/
theorem Rst.setQ {w0 u : World} {R g c F0 F1 q cq : Nat} {st : List Value} {nr : Nat} {rx : List Value} {opv : Value} {no : Nat} {ops : List Value} {sp : Int} (h : Rst w0 u R g c F0 F1 st (.slice (some ⟨q, 0, none⟩) nr cq) nr rx opv no ops sp) (j : Nat) (v : Value) : Rst w0 (u.setCell ⟨q, j, none⟩ v) R g c F0 F1 st (.slice (some ⟨q, 0, none⟩) nr cq) nr (rx.set j v) opv no ops sp := by
  have hg : u.grownBy (u.setCell ⟨q, j, none⟩ v) (Value.slice (some ⟨q, 0, none⟩) nr cq).ownBlock := gb_set u q j v
  exact ⟨h.bel.grown hg h.bel.size (fun k e => (h.rd.lt k e).1), h.ge, h.r.kept hg (blk_row h.r h.rd (by decide)), row_row h.st h.rd (by decide) hg, (h.rd.stored j v).1, row_row h.op h.rd (by decide) hg, h.f0.kept hg h.nf.1, h.f1.kept hg h.nf.2, h.nf⟩
theorem row_empty {u : World} {B e s n q cq : Nat} {xs : List Value} (h : u.ownsRow B e s (.slice (some ⟨q, 0, none⟩) n cq) n xs) : u.ownsRow B e s (.slice (some ⟨q, 0, none⟩) 0 cq) 0 [] := by
  refine ⟨by simp, ?_⟩
  rcases h.2 with ⟨h1, _⟩ | ⟨g', cap, cur, h1, h2, h3, h4, h5, h6, h7⟩
  · simp at h1
  · have e1 : q = g' ∧ cq = cap := by simpa using h1
    obtain ⟨rfl, rfl⟩ := e1
    exact .inr ⟨q, cq, cur, rfl, h2, h3, Nat.zero_le _, h5, h6, by simp⟩
theorem row_cap {u : World} {B e s n q cq : Nat} {xs : List Value} (h : u.ownsRow B e s (.slice (some ⟨q, 0, none⟩) n cq) n xs) : n ≤ cq ∧ cq ≤ maxLen := by
  rcases h.2 with ⟨h1, _⟩ | ⟨g', cap, cur, h1, h2, h3, h4, h5, h6, h7⟩
  · simp at h1
  · have e1 : q = g' ∧ cq = cap := by simpa using h1
    obtain ⟨rfl, rfl⟩ := e1
    exact ⟨h4, h5⟩

set_option maxHeartbeats 4000000 in
set_option maxRecDepth 100000 in
theorem swap00 {w0 u : World} {R g c F0 F1 q cq : Nat} {st : List Value} {opv : Value} {no : Nat} {ops : List Value} {sp : Int} {k : Int} (S : Rst w0 u R g c F0 F1 st (.slice (some ⟨q, 0, none⟩) 1 cq) 1 [.int .i64 k] opv no ops sp) :
    Calls Tryz.prog 276 #[.slice (some ⟨q, 0, none⟩) 1 cq, .int .i64 0, .int .i64 0] u fun e w' => e = .returned (.tuple #[]) ∧ Rst w0 w' R g c F0 F1 st (.slice (some ⟨q, 0, none⟩) 1 cq) 1 [.int .i64 k] opv no ops sp := by
  have d0 := (blk_of_row S.rd).cell 0 rfl
  have f0 := (blk_of_row S.rd).frozen 0
  have S1 := hidD S
  clear S
  go_enter Tryz.func276, Tryz.ntmps276
  go_region
  all_goals
    refine bodyPost_end (results_none rfl _ _ _) rfl ?_
    exact ⟨rfl, (((S1.out.below (below_drewB _)).setQ 0 (.int .i64 k)).setQ 0 (.int .i64 k))⟩
theorem down00 (v : Value) (w : World) : Calls Tryz.prog 183 #[v, .int .i64 0, .int .i64 0] w fun e w' => e = .returned (.bool false) ∧ w' = w := by
  go_enter Tryz.func183, Tryz.ntmps183
  go_wp2
  refine wp_loop_rounds 1 ?_
  rw [rounds_succ]
  go_wp2
  go_ret
  exact ⟨rfl, rfl⟩

set_option maxHeartbeats 4000000 in
set_option maxRecDepth 100000 in
theorem qPop {w0 u : World} {R g c F0 F1 q cq : Nat} {st : List Value} {opv : Value} {no : Nat} {ops : List Value} {sp : Int} {k : Int} (S : Rst w0 u R g c F0 F1 st (.slice (some ⟨q, 0, none⟩) 1 cq) 1 [.int .i64 k] opv no ops sp) :
    Calls Tryz.prog 277 #[.pointer (some ⟨R, 1, none⟩)] u fun e w' => e = .returned (.iface 3 (.int .i64 k)) ∧ Rst w0 w' R g c F0 F1 st (.slice (some ⟨q, 0, none⟩) 0 cq) 0 [] opv no ops sp := by
  have d0 := (blk_of_row S.rd).cell 0 rfl
  have d1 := S.r.cell 1 rfl
  have f1 := S.r.frozen 1
  obtain ⟨hc1, hc2⟩ := row_cap S.rd
  have hc0 : ¬ cq = 0 := by omega
  have S1 := hidD S
  clear S
  go_enter Tryz.func277, Tryz.ntmps277
  go_wp2_with fail
  refine (len80 _ _ _ _).mono ?_
  rintro e wz ⟨rfl, hwz⟩; rw [hwz]; clear hwz
  go_wp2_with fail
  go_ret
  exact ⟨rfl, S1.out.queue (row_empty S1.out.rd) (World.grownBy.refl _ _) S1.out.nf⟩

set_option maxHeartbeats 4000000 in
set_option maxRecDepth 100000 in
theorem heapPop {w0 u : World} {R g c F0 F1 q cq : Nat} {st : List Value} {opv : Value} {no : Nat} {ops : List Value} {sp : Int} {k : Int} (S : Rst w0 u R g c F0 F1 st (.slice (some ⟨q, 0, none⟩) 1 cq) 1 [.int .i64 k] opv no ops sp) :
    Calls Tryz.prog 142 #[.iface 157 (.pointer (some ⟨R, 1, none⟩))] u fun e w' => e = .returned (.iface 3 (.int .i64 k)) ∧ Rst w0 w' R g c F0 F1 st (.slice (some ⟨q, 0, none⟩) 0 cq) 0 [] opv no ops sp := by
  have hm := mlen (S.r.cell 1 rfl)
  have hs := mswap (S.r.cell 1 rfl)
  have HS := hidD (swap00 S)
  clear S
  go_enter Tryz.func142, Tryz.ntmps142
  go_wp2_with fail
  refine (len80 _ _ _ _).mono ?_
  rintro e wz ⟨rfl, hwz⟩; rw [hwz]; clear hwz
  go_wp2_with fail
  refine HS.out.mono ?_
  rintro e w1 ⟨rfl, hS⟩
  have HP := hidD (qPop hS)
  clear hS
  go_wp2_with fail
  refine (down00 _ _).mono ?_
  rintro e wz ⟨rfl, hwz⟩; rw [hwz]; clear hwz
  go_wp2_with fail
  refine HP.out.mono ?_
  rintro e w2 ⟨rfl, hS⟩
  have S2 := hidD hS
  clear hS
  go_wp2_with fail
  go_ret
  exact ⟨rfl, S2.out⟩
end Go.Proofs.YtpjjagalekolaaaGreatDoor

/- A heap of numbers, whatever is in it: a number is put in, and one is taken out. -/
namespace Go.Proofs.YtpjjagalekolaaaGreatDoor
open Go.RowKit
set_option linter.unusedVariables false
set_option linter.unusedSimpArgs false

def numV (xs : List Nat) : List Value := xs.map fun (k : Nat) => Value.int .i64 (k : Int)
theorem numV_len (xs : List Nat) : (numV xs).length = xs.length := by simp [numV]
theorem numV_get (xs : List Nat) (i : Nat) (h : i < xs.length) : (numV xs)[i]? = some (.int .i64 (xs[i] : Int)) := by simp [numV, h]
theorem numV_set (xs : List Nat) (i k : Nat) : (numV xs).set i (.int .i64 (k : Int)) = numV (xs.set i k) := by simp [numV, List.map_set]
theorem numV_one (xs : List Nat) : ∀ x ∈ numV xs, x.oneCell' = true := by
  intro x hx
  obtain ⟨k, _, rfl⟩ := List.mem_map.1 hx
  rfl
theorem swap_perm (xs : List Nat) (i j : Nat) (hi : i < xs.length) (hj : j < xs.length) : ((xs.set i xs[j]).set j xs[i]).Perm xs := by
  rw [List.perm_iff_count]
  intro a
  have h1 : j < (xs.set i xs[j]).length := by simpa using hj
  rw [List.count_set h1, List.count_set hi]
  by_cases e : i = j
  · subst e
    have hp : 0 < xs.count xs[i] := List.count_pos_iff.2 (List.getElem_mem hi)
    simp only [List.getElem_set_self]
    by_cases e1 : xs[i] = a
    · rw [e1] at hp
      simp [e1]; omega
    · simp [e1]
  · have e2 : (xs.set i xs[j])[j] = xs[j] := List.getElem_set_ne e h1
    have hp1 : 0 < xs.count xs[i] := List.count_pos_iff.2 (List.getElem_mem hi)
    have hp2 : 0 < xs.count xs[j] := List.count_pos_iff.2 (List.getElem_mem hj)
    simp only [e2]
    by_cases a1 : xs[i] = a
    · by_cases a2 : xs[j] = a
      · rw [a1] at hp1; simp [a1, a2]; omega
      · rw [a1] at hp1; simp [a1, a2]; omega
    · by_cases a2 : xs[j] = a
      · rw [a2] at hp2; simp [a1, a2]
      · simp [a1, a2]

/-- The queue of a run, in its row. -/
structure Qu (B : Nat) (u : World) (R : Nat) (c0 q c2 c3 : Value) (xs : List Nat) : Prop where
  r : Blk u R 153 [c0, q, c2, c3]
  o : u.ownsRow B 3 1 q xs.length (numV xs)
theorem Qu.below {B R : Nat} {u u' : World} {c0 q c2 c3 : Value} {xs : List Nat} (h : Qu B u R c0 q c2 c3 xs) (hb : Below u.heap.size u u') : Qu B u' R c0 q c2 c3 xs := ⟨h.r.below hb, own_belowK hb h.o⟩

set_option maxHeartbeats 4000000 in
set_option maxRecDepth 100000 in
theorem less202 {B : Nat} {u : World} {q n cq : Nat} {xs : List Nat} (h : u.ownsRow B 3 1 (.slice (some ⟨q, 0, none⟩) n cq) n (numV xs)) (hn : xs.length = n) (i j : Nat) (hi : i < n) (hj : j < n) :
    Calls Tryz.prog 274 #[.slice (some ⟨q, 0, none⟩) n cq, .int .i64 i, .int .i64 j] u fun e w' => ∃ b, e = .returned (.bool b) ∧ ∃ nn, w' = u.drewN nn := by
  have d0 := (blk_of_row h).cell i (numV_get xs i (by omega))
  have d1 := (blk_of_row h).cell j (numV_get xs j (by omega))
  generalize (xs[i]'(by omega)) = x at *
  generalize (xs[j]'(by omega)) = y at *
  have hi' : (i : Int) < n := by omega
  have hj' : (j : Int) < n := by omega
  clear h
  go_enter Tryz.func274, Tryz.ntmps274
  go_wp2
  go_quiet (fail)
  go_wp2
  go_ret
  exact ⟨_, rfl, _, rfl⟩

set_option maxHeartbeats 4000000 in
set_option maxRecDepth 100000 in
theorem swap204 {B : Nat} {u : World} {q n cq : Nat} {xs : List Nat} (h : u.ownsRow B 3 1 (.slice (some ⟨q, 0, none⟩) n cq) n (numV xs)) (hn : xs.length = n) (i j : Nat) (hi : i < xs.length) (hj : j < xs.length) :
    Calls Tryz.prog 276 #[.slice (some ⟨q, 0, none⟩) n cq, .int .i64 i, .int .i64 j] u fun e w' => e = .returned (.tuple #[]) ∧ w'.ownsRow B 3 1 (.slice (some ⟨q, 0, none⟩) n cq) n (numV ((xs.set i xs[j]).set j xs[i])) ∧ u.grownBy w' (some q) := by
  have K := blk_of_row h
  have d0 := K.cell i (numV_get xs i hi)
  have d1 := K.cell j (numV_get xs j hj)
  have f0 := K.frozen i
  have f1 := K.frozen j
  have H := hidD h
  have hi' : (i : Int) < n := by omega
  have hj' : (j : Int) < n := by omega
  have FIN : ∀ wz : World, wz = u.drew → ((wz.setCell ⟨q, i, none⟩ (.int .i64 (xs[j] : Int))).setCell ⟨q, j, none⟩ (.int .i64 (xs[i] : Int))).ownsRow B 3 1 (.slice (some ⟨q, 0, none⟩) n cq) n (numV ((xs.set i xs[j]).set j xs[i])) ∧ u.grownBy ((wz.setCell ⟨q, i, none⟩ (.int .i64 (xs[j] : Int))).setCell ⟨q, j, none⟩ (.int .i64 (xs[i] : Int))) (some q) := fun wz hwz => by
    subst hwz
    have h0 := own_belowK (below_drewB u) H.out
    have h1 := (h0.stored i (.int .i64 (xs[j] : Int))).1
    rw [numV_set] at h1
    have h2 := (h1.stored j (.int .i64 (xs[i] : Int))).1
    rw [numV_set] at h2
    refine ⟨h2, ?_⟩
    have g1 := gb_set u.drew q i (.int .i64 (xs[j] : Int))
    have g2 := gb_set (u.drew.setCell ⟨q, i, none⟩ (.int .i64 (xs[j] : Int))) q j (.int .i64 (xs[i] : Int))
    exact ⟨g2.os.trans g1.os, g2.tape.trans g1.tape, g2.output.trans g1.output, Nat.le_trans g1.size g2.size, fun k hk hne => (g2.block k (Nat.lt_of_lt_of_le hk g1.size) hne).trans (g1.block k hk hne)⟩
  have HF := hidD FIN
  have K1 := K.set i (.int .i64 (xs[j] : Int)) (by rw [numV_len]; exact hi)
  obtain ⟨z, hz⟩ : ∃ z, ((numV xs).set i (.int .i64 (xs[j] : Int)))[j]? = some z := by
    have hl : j < ((numV xs).set i (.int .i64 (xs[j] : Int))).length := by rw [List.length_set, numV_len]; exact hj
    exact ⟨_, List.getElem?_eq_getElem hl⟩
  have e1 := K1.cell j hz
  have e2 := K1.frozen j
  clear hz K1
  generalize xs[i] = x at *
  generalize xs[j] = y at *
  clear h K FIN
  go_enter Tryz.func276, Tryz.ntmps276
  go_region
  all_goals
    refine bodyPost_end (results_none rfl _ _ _) rfl ?_
    exact ⟨rfl, HF.out _ rfl⟩
end Go.Proofs.YtpjjagalekolaaaGreatDoor

/- A heap of numbers, whatever is in it: up and down, Push and Pop. -/
namespace Go.Proofs.YtpjjagalekolaaaGreatDoor
open Go.RowKit
set_option linter.unusedVariables false
set_option linter.unusedSimpArgs false

set_option maxRecDepth 100000 in
theorem meth_less (R : Nat) (w : World) : (method 409 157 (.pointer (some ⟨R, 1, none⟩)) "Less").run Tryz.prog w = (do let v ← load ⟨R, 1, none⟩; pure (274, v) : Sem _).run Tryz.prog w := by
  kernel_rfl
theorem mless {R : Nat} {w : World} {v : Value} (h : w.cell? ⟨R, 1, none⟩ = some v) : (method 409 157 (.pointer (some ⟨R, 1, none⟩)) "Less").run Tryz.prog w = .ok (274, v) w := by
  rw [meth_less]
  simp [go_sem, h]

/-- What a heap's work leaves: the same numbers in the same row. -/
structure Qk (B : Nat) (u w' : World) (R q cq n : Nat) (c0 c2 c3 : Value) (xs ys : List Nat) : Prop where
  qu : Qu B w' R c0 (.slice (some ⟨q, 0, none⟩) n cq) c2 c3 ys
  pm : ys.Perm xs
  gr : u.grownBy w' (some q)
theorem Qk.drew {B R q cq n : Nat} {u w' : World} {c0 c2 c3 : Value} {xs ys : List Nat} (h : Qk B u w' R q cq n c0 c2 c3 xs ys) (nn : Nat) : Qk B u (w'.drewN nn) R q cq n c0 c2 c3 xs ys :=
  ⟨h.qu.below (below_drewNB _ nn), h.pm, ⟨h.gr.os, h.gr.tape, h.gr.output, h.gr.size, h.gr.block⟩⟩
theorem grown_trans {u v w : World} {row : Option Nat} (h1 : u.grownBy v row) (h2 : v.grownBy w row) : u.grownBy w row :=
  ⟨h2.os.trans h1.os, h2.tape.trans h1.tape, h2.output.trans h1.output, Nat.le_trans h1.size h2.size, fun k hk hne => (h2.block k (Nat.lt_of_lt_of_le hk h1.size) hne).trans (h1.block k hk hne)⟩
theorem Qk.swap {B R q cq n : Nat} {u w' w2 : World} {c0 c2 c3 : Value} {xs ys : List Nat} (h : Qk B u w' R q cq n c0 c2 c3 xs ys) (hn : ys.length = n) (i j : Nat) (hi : i < ys.length) (hj : j < ys.length) (ho : w2.ownsRow B 3 1 (.slice (some ⟨q, 0, none⟩) n cq) n (numV ((ys.set i ys[j]).set j ys[i]))) (hg : w'.grownBy w2 (some q)) : Qk B u w2 R q cq n c0 c2 c3 xs ((ys.set i ys[j]).set j ys[i]) :=
  ⟨⟨h.qu.r.kept hg (fun e => (blk_row h.qu.r h.qu.o (by decide)) (by rw [e]; rfl)), by rw [show ((ys.set i ys[j]).set j ys[i]).length = n by simp [hn]]; exact ho⟩, (swap_perm ys i j hi hj).trans h.pm, grown_trans h.gr hg⟩

set_option maxHeartbeats 4000000 in
set_option maxRecDepth 100000 in
theorem up79 {B : Nat} {u : World} {R q cq n : Nat} {c0 c2 c3 : Value} {xs : List Nat} (h : Qu B u R c0 (.slice (some ⟨q, 0, none⟩) n cq) c2 c3 xs) (hn : xs.length = n) (j : Nat) (hj : j < n) (hm : n ≤ 2000000) :
    Calls Tryz.prog 140 #[.iface 157 (.pointer (some ⟨R, 1, none⟩)), .int .i64 j] u fun e w' => e = .returned (.tuple #[]) ∧ ∃ ys, Qk B u w' R q cq n c0 c2 c3 xs ys := by
  have Q0 : Hid (Qk B u u R q cq n c0 c2 c3 xs xs) := ⟨h, List.Perm.refl _, World.grownBy.refl _ _⟩
  clear h
  go_enter Tryz.func140, Tryz.ntmps140
  go_wp2_with fail
  go_loopw [1] (fun jv wr => ∃ (j : Nat) (ys : List Nat), j < n ∧ jv = .int .i64 j ∧ Hid (Qk B u wr R q cq n c0 c2 c3 xs ys)) (fun jv _ => (intOf jv).toNat)
  case atStart => exact ⟨j, xs, hj, rfl, Q0⟩
  case round =>
    clear hj Q0
    obtain ⟨j, ys, hj, rfl, Q⟩ := hrel
    have hyl : ys.length = n := Q.out.pm.length_eq.trans hn
    by_cases h0 : j = 0
    · subst h0
      go_wp2_with fail
      refine bodyPost_end (results_none rfl _ _ _) rfl ?_
      exact ⟨rfl, ys, Q.out⟩
    · obtain ⟨i, hi⟩ : ∃ i : Nat, i = (j - 1) / 2 := ⟨_, rfl⟩
      have hd : ((j : Int) - 1).tdiv 2 = (i : Int) := by
        rw [hi, show (j : Int) - 1 = ((j - 1 : Nat) : Int) by omega]
        rfl
      have hw0 : IntKind.i64.wrap ((j : Int) - 1) = (j : Int) - 1 := by rw [IntKind.wrap_i64]; omega
      have hw1 : IntKind.i64.wrap (i : Int) = (i : Int) := by rw [IntKind.wrap_i64]; omega
      have hij : ((i : Int) == (j : Int)) = false := by simp; omega
      have hil : i < j := by omega
      clear hi
      have ml := mless (Q.out.qu.r.cell 1 rfl)
      have oq := Q.out.qu.o
      rw [hyl] at oq
      have L2 := hidD (less202 oq hyl j i (by omega) (by omega))
      clear oq
      go_wp2_with fail
      refine L2.out.mono ?_
      rintro e w1 ⟨b, rfl, nn, rfl⟩
      have Q1 := hidD (Q.out.drew nn)
      clear Q L2 ml
      generalize wr.drewN nn = w1 at *
      have ms := mswap (Q1.out.qu.r.cell 1 rfl)
      have oq := Q1.out.qu.o
      rw [hyl] at oq
      have L3 := hidD (swap204 oq hyl i j (by omega) (by omega))
      clear oq
      cases b with
      | false =>
        go_wp2_with fail
        refine bodyPost_end (results_none rfl _ _ _) rfl ?_
        exact ⟨rfl, ys, Q1.out⟩
      | true =>
        go_wp2_with fail
        refine L3.out.mono ?_
        rintro e w2 ⟨rfl, ho, hg⟩
        have Q2 := hidD (Q1.out.swap hyl i j (by omega) (by omega) ho hg)
        clear ho hg L3 Q1 ms
        generalize (ys.set i ys[j]).set j ys[i] = zs at *
        go_wp2_with fail
        exact ⟨⟨i, zs, by omega, rfl, Q2⟩, by simp [intOf]; omega⟩

set_option maxHeartbeats 8000000 in
set_option maxRecDepth 100000 in
theorem down114 {B : Nat} {u : World} {R q cq n : Nat} {c0 c2 c3 : Value} {xs : List Nat} (h : Qu B u R c0 (.slice (some ⟨q, 0, none⟩) n cq) c2 c3 xs) (hn : xs.length = n) (m : Nat) (hm : m < n) (hm2 : n ≤ 2000000) :
    Calls Tryz.prog 183 #[.iface 157 (.pointer (some ⟨R, 1, none⟩)), .int .i64 0, .int .i64 m] u fun e w' => (∃ b, e = .returned (.bool b)) ∧ ∃ ys, Qk B u w' R q cq n c0 c2 c3 xs ys ∧ ys.drop m = xs.drop m := by
  have Q0 : Hid (Qk B u u R q cq n c0 c2 c3 xs xs) := ⟨h, List.Perm.refl _, World.grownBy.refl _ _⟩
  clear h
  go_enter Tryz.func183, Tryz.ntmps183
  go_wp2_with fail
  go_loopw [7] (fun iv wr => ∃ (i : Nat) (ys : List Nat), i ≤ n ∧ iv = .int .i64 i ∧ Hid (Qk B u wr R q cq n c0 c2 c3 xs ys) ∧ Hid (ys.drop m = xs.drop m)) (fun iv _ => n - (intOf iv).toNat)
  case atStart => exact ⟨0, xs, by omega, rfl, Q0, rfl⟩
  case round =>
    clear Q0
    obtain ⟨i, ys, hi, rfl, Q, D⟩ := hrel
    have hyl : ys.length = n := Q.out.pm.length_eq.trans hn
    obtain ⟨j1, hj1⟩ : ∃ j1 : Nat, 2 * i + 1 = j1 := ⟨_, rfl⟩
    have e1 : 2 * (i : Int) + 1 = (j1 : Int) := by omega
    have w1 : IntKind.i64.wrap (2 * (i : Int)) = 2 * (i : Int) := by rw [IntKind.wrap_i64]; omega
    have w2 : IntKind.i64.wrap (j1 : Int) = (j1 : Int) := by rw [IntKind.wrap_i64]; omega
    have w3 : IntKind.i64.wrap ((j1 : Int) + 1) = (j1 : Int) + 1 := by rw [IntKind.wrap_i64]; omega
    by_cases hend : m ≤ j1
    · clear hj1
      go_wp2_with fail
      go_ret
      exact ⟨⟨_, rfl⟩, ys, Q.out, D.out⟩
    · have hij : i < j1 := by omega
      have hlt : j1 < m := by omega
      have hlt' : (j1 : Int) < (m : Int) := by omega
      have hge' : ¬ (m : Int) ≤ (j1 : Int) := by omega
      have hneg : ¬ (j1 : Int) < 0 := by omega
      clear hj1 hend
      by_cases h2 : j1 + 1 < m
      · obtain ⟨j2, hj2⟩ : ∃ j2 : Nat, j1 + 1 = j2 := ⟨_, rfl⟩
        have e2 : (j1 : Int) + 1 = (j2 : Int) := by omega
        have w4 : IntKind.i64.wrap (j2 : Int) = (j2 : Int) := by rw [IntKind.wrap_i64]; omega
        have hlt2 : (j2 : Int) < (m : Int) := by omega
        have hij2 : i < j2 := by omega
        have hltn : j2 < m := by omega
        clear h2 hj2 w3
        have ml := mless (Q.out.qu.r.cell 1 rfl)
        have oq := Q.out.qu.o
        rw [hyl] at oq
        have L2 := hidD (less202 oq hyl j2 j1 (by omega) (by omega))
        clear oq
        go_wp2_with fail
        refine L2.out.mono ?_
        rintro e wa ⟨b2, rfl, n2, rfl⟩
        have Q2 := hidD (Q.out.drew n2)
        clear L2 ml Q
        generalize wr.drewN n2 = wq at *
        cases b2 with
        | false =>
          have ml := mless (Q2.out.qu.r.cell 1 rfl)
          have oq := Q2.out.qu.o
          rw [hyl] at oq
          have L4 := hidD (less202 oq hyl j1 i (by omega) (by omega))
          clear oq
          go_wp2_with fail
          refine L4.out.mono ?_
          rintro e wa ⟨b4, rfl, n4, rfl⟩
          have Q5 := hidD (Q2.out.drew n4)
          clear L4 ml Q2
          generalize wq.drewN n4 = w5 at *
          cases b4 with
          | false =>
            go_wp2_with fail
            go_ret
            exact ⟨⟨_, rfl⟩, ys, Q5.out, D.out⟩
          | true =>
            have ms := mswap (Q5.out.qu.r.cell 1 rfl)
            have oq := Q5.out.qu.o
            rw [hyl] at oq
            have L6 := hidD (swap204 oq hyl i j1 (by omega) (by omega))
            clear oq
            go_wp2_with fail
            refine L6.out.mono ?_
            rintro e w6 ⟨rfl, ho, hg⟩
            have Q6 := hidD (Q5.out.swap hyl i j1 (by omega) (by omega) ho hg)
            have D6 : Hid (((ys.set i ys[j1]).set j1 ys[i]).drop m = xs.drop m) := by
              rw [List.drop_set_of_lt (by omega), List.drop_set_of_lt (by omega)]
              exact D.out
            clear ho hg L6 Q5 ms D
            generalize (ys.set i ys[j1]).set j1 ys[i] = zs at *
            go_wp2_with fail
            exact ⟨⟨j1, zs, by omega, rfl, Q6, D6⟩, by simp [intOf]; omega⟩
        | true =>
          have ml := mless (Q2.out.qu.r.cell 1 rfl)
          have oq := Q2.out.qu.o
          rw [hyl] at oq
          have L4 := hidD (less202 oq hyl j2 i (by omega) (by omega))
          clear oq
          go_wp2_with fail
          refine L4.out.mono ?_
          rintro e wa ⟨b4, rfl, n4, rfl⟩
          have Q5 := hidD (Q2.out.drew n4)
          clear L4 ml Q2
          generalize wq.drewN n4 = w5 at *
          cases b4 with
          | false =>
            go_wp2_with fail
            go_ret
            exact ⟨⟨_, rfl⟩, ys, Q5.out, D.out⟩
          | true =>
            have ms := mswap (Q5.out.qu.r.cell 1 rfl)
            have oq := Q5.out.qu.o
            rw [hyl] at oq
            have L6 := hidD (swap204 oq hyl i j2 (by omega) (by omega))
            clear oq
            go_wp2_with fail
            refine L6.out.mono ?_
            rintro e w6 ⟨rfl, ho, hg⟩
            have Q6 := hidD (Q5.out.swap hyl i j2 (by omega) (by omega) ho hg)
            have D6 : Hid (((ys.set i ys[j2]).set j2 ys[i]).drop m = xs.drop m) := by
              rw [List.drop_set_of_lt (by omega), List.drop_set_of_lt (by omega)]
              exact D.out
            clear ho hg L6 Q5 ms D
            generalize (ys.set i ys[j2]).set j2 ys[i] = zs at *
            go_wp2_with fail
            exact ⟨⟨j2, zs, by omega, rfl, Q6, D6⟩, by simp [intOf]; omega⟩
      · have hge2 : ¬ (j1 : Int) + 1 < (m : Int) := by omega
        clear h2
        have ml := mless (Q.out.qu.r.cell 1 rfl)
        have oq := Q.out.qu.o
        rw [hyl] at oq
        have L4 := hidD (less202 oq hyl j1 i (by omega) (by omega))
        clear oq
        go_wp2_with fail
        refine L4.out.mono ?_
        rintro e wa ⟨b4, rfl, n4, rfl⟩
        have Q5 := hidD (Q.out.drew n4)
        clear L4 ml Q
        generalize wr.drewN n4 = w5 at *
        cases b4 with
        | false =>
          go_wp2_with fail
          go_ret
          exact ⟨⟨_, rfl⟩, ys, Q5.out, D.out⟩
        | true =>
          have ms := mswap (Q5.out.qu.r.cell 1 rfl)
          have oq := Q5.out.qu.o
          rw [hyl] at oq
          have L6 := hidD (swap204 oq hyl i j1 (by omega) (by omega))
          clear oq
          go_wp2_with fail
          refine L6.out.mono ?_
          rintro e w6 ⟨rfl, ho, hg⟩
          have Q6 := hidD (Q5.out.swap hyl i j1 (by omega) (by omega) ho hg)
          have D6 : Hid (((ys.set i ys[j1]).set j1 ys[i]).drop m = xs.drop m) := by
            rw [List.drop_set_of_lt (by omega), List.drop_set_of_lt (by omega)]
            exact D.out
          clear ho hg L6 Q5 ms D
          generalize (ys.set i ys[j1]).set j1 ys[i] = zs at *
          go_wp2_with fail
          exact ⟨⟨j1, zs, by omega, rfl, Q6, D6⟩, by simp [intOf]; omega⟩
end Go.Proofs.YtpjjagalekolaaaGreatDoor

