/- For every disk, every list of entries, every list of operations and every number, all of them together of bulk at most 1048576, the call of the law Works returns true and leaves its arguments as they were: Work of the program on a fresh volume, with budget enough, answers as the document's own volume does, the error, the operation and the tree; what is handed in stays, and may be written over by its owner behind Work; and the same Work once more answers the same and changes neither the tree nor, where all was done, the journal. The package-level tables that the call reads are those of the program's text (the card ties them). -/
import Derived.Test.YtehkdjdflgknnaaGreatDoorRows
import Derived.Test.YtehkdjdflgknnaaGreatDoorCards
import Derived.Test.YtehkdjdflgknnaaGreatDoorTie
import Derived.Test.YtehkdjdflgknnaaGreatDoorZWK
import Derived.Test.YtehkdjdflgknnaaGreatDoorZMD
import Derived.WalkKit
import Derived.ProofKit
import Derived.OpenShut
import Derived.ShutString
import Derived.ChangeOld
import Derived.Below
import Derived.Deep.Slices
import Derived.Deep.DeepHandedRow
import Derived.Deep.DeepLaidRun
namespace Go.Proofs.YtehkdjdflgknnaaGreatDoor
open Go.ChangeShapes Go.WideShapes Go.ChangeAt Go.RowKit Go.Deep

theorem own : ownKnob Tryz.prog.godebug = none := by kernel_rfl
theorem laidOut : laidOutB Tryz.prog = true := by kernel_rfl
theorem last_global : ((begin Tryz.prog (fun _ _ => 0) default).world.heap[3]?).bind Obj.row? = some (Array.replicate 32 (.int .u8 0), 185) := by kernel_rfl
theorem globals_four : 3 < Tryz.prog.globals.size := of_decide_eq_true (by kernel_rfl)
theorem big_heap {W : World} (hsh : W.ShapedOpen Tryz.prog) : 4 ≤ W.heap.size := by
  obtain ⟨cs, h, _⟩ := hsh.1 3 _ _ globals_four last_global
  have := (Array.getElem?_eq_some_iff.1 h).1
  omega

theorem groundW {W : World} (h : laidMetH Tryz.prog Rows.worksRow.laid W) (hsh : W.ShapedOpen Tryz.prog) (hbig : 4 ≤ W.heap.size) : Gd W := ground h hsh hbig
theorem types49 : Tryz.prog.cellTypes Tryz.prog.depth 49 = some [22, 4, 3, 9] := by kernel_rfl

set_option maxRecDepth 100000 in
theorem disk_openW {b0 : Nat} {H : Type} {enc : TypeId × Value → H} {w : World} {n : Nat} {v : Value} {x : DataW H × List MemPlace} (h : DataW.trod enc Tryz.prog w 0 (fun _ => true) true n 49 v.cells.toList = some x) (hok : Value.okWide Tryz.prog w .any b0 49 v) :
    ∃ d : DiskD, v = .agg #[d.v, .bool d.fold, .int .i64 d.space, .string d.jn] ∧ RowAt w d.v d.L ∧ d.dat x.1 := by
  simp only [Value.okWide, Tryz.underlying49] at hok
  obtain ⟨cs, rfl, hsz, ts, hts, _, hrow⟩ := hok
  obtain rfl := Option.some.inj (types49.symm.trans hts)
  obtain ⟨xs, m, rfl, rfl, hl, hxl, hf⟩ := DataW.trod_struct Tryz.underlying49 h
  obtain ⟨cs⟩ := cs
  simp only [Value.cells] at hl hf
  rw [cells49] at hl
  match cs, hl with
  | [c0, c1, c2, c3], _ =>
    match xs, hxl with
    | [x0, x1, x2, x3], _ =>
      have f0 : DataW.trod enc Tryz.prog w 0 (fun _ => true) true m 22 [c0] = some x0 := by have := hf 0 _ rfl; simpa [cells22] using this
      have f1 : DataW.trod enc Tryz.prog w 0 (fun _ => true) true m 4 [c1] = some x1 := by have := hf 1 _ rfl; simpa [cells4] using this
      have f2 : DataW.trod enc Tryz.prog w 0 (fun _ => true) true m 3 [c2] = some x2 := by have := hf 2 _ rfl; simpa [cells3] using this
      have f3 : DataW.trod enc Tryz.prog w 0 (fun _ => true) true m 9 [c3] = some x3 := by have := hf 3 _ rfl; simpa [cells9] using this
      have o0 : Value.okWide Tryz.prog w .any b0 22 c0 := by
        obtain ⟨u, hu, hc⟩ := hrow 0 c0 rfl
        obtain rfl : 22 = u := Option.some.inj hu
        simp only [Value.okWide, Tryz.underlying22]
        exact hc
      obtain ⟨l, hr, hx⟩ := ents_open f0 o0
      obtain ⟨b1, e1, rfl⟩ := DataW.trod_bool Tryz.underlying4 f1
      obtain ⟨n2, e2, rfl, _⟩ := DataW.trod_int Tryz.underlying3 f2
      obtain ⟨s3, e3, rfl, _⟩ := DataW.trod_string Tryz.underlying9 f3
      simp only [List.cons.injEq, and_true] at e1 e2 e3
      subst e1 e2 e3
      exact ⟨⟨c0, l, b1, n2, s3⟩, rfl, hr, x0.1, rfl, hx⟩

set_option maxRecDepth 100000 in
theorem contractW (H : Type) (enc : TypeId × Value → H) (W : World) (base : Nat) (args : Array Value) (ds gs : List (DataW H)) (before : List MemPlace)
    (hval : ∀ (j : Nat) t v, Tryz.f5.params[j]? = some t → args[j]? = some v → Value.okWide Tryz.prog W .any base t v)
    (hW : DataW.Whole enc Tryz.prog Tryz.f5.params.toList Rows.worksSpec.vars false W args.toList ds gs before) (hk : Rows.uptoSmall H (ds ++ gs) = true)
    (hL : laidMetH Tryz.prog Rows.worksRow.laid W) (hsh : W.ShapedOpen Tryz.prog) :
    Calls Tryz.prog 5 args W fun e W' => ∃ v, e = .returned v ∧ Rows.worksSpec.post enc Tryz.prog Tryz.f5 false true false false W args v W' := by
  have hG := groundW hL hsh (big_heap hsh)
  have hW' := hW
  obtain ⟨p, q, hA0, hV, rfl, hfz, hnd⟩ := hW
  have hA : DataW.TrodAll enc Tryz.prog W 0 (fun _ => true) true Tryz.f5.params.toList args.toList ds p := hA0
  rw [Tryz.params5] at hA hval
  obtain ⟨v0, vs0, d0, ds0, p0, q0, hargs, rfl, rfl, h0, r0⟩ := trodAll_cons hA
  obtain ⟨v1, vs1, d1, ds1, p1, q1, hargs1, rfl, rfl, h1, r1⟩ := trodAll_cons r0
  obtain ⟨v2, vs2, d2, ds2, p2, q2, hargs2, rfl, rfl, h2, r2⟩ := trodAll_cons r1
  obtain ⟨v3, vs3, d3, ds3, p3, q3, hargs3, rfl, rfl, h3, r3⟩ := trodAll_cons r2
  obtain ⟨rfl, rfl, rfl⟩ := trodAll_nil r3
  obtain rfl : vs2 = [v3] := hargs3
  obtain rfl : vs1 = [v2, v3] := hargs2
  obtain rfl : vs0 = [v1, v2, v3] := hargs1
  obtain rfl : args = #[v0, v1, v2, v3] := by cases args; simp_all
  obtain ⟨rfl, rfl⟩ := trodVars_none hV
  have o0 := hval 0 49 v0 rfl rfl
  have o1 := hval 1 22 v1 rfl rfl
  have o2 := hval 2 23 v2 rfl rfl
  obtain ⟨a1, len1, cap1, rfl⟩ := okWide_slice Tryz.underlying22 o1
  obtain ⟨a2, len2, cap2, rfl⟩ := okWide_slice Tryz.underlying23 o2
  obtain ⟨more, rfl⟩ := okWide_int Tryz.underlying3 (hval 3 3 v3 rfl rfl)
  have k0 := h0
  have k1 := h1
  have k2 := h2
  have k3 := h3
  have lt0 : ∀ x ∈ p0, x.block < W.heap.size := by obtain ⟨m, hm⟩ := k0; exact DataW.trod_lt m _ _ _ hm
  have lt1 : ∀ x ∈ p1, x.block < W.heap.size := by obtain ⟨m, hm⟩ := k1; exact DataW.trod_lt m _ _ _ hm
  have lt2 : ∀ x ∈ p2, x.block < W.heap.size := by obtain ⟨m, hm⟩ := k2; exact DataW.trod_lt m _ _ _ hm
  have lt3 : ∀ x ∈ p3, x.block < W.heap.size := by obtain ⟨m, hm⟩ := k3; exact DataW.trod_lt m _ _ _ hm
  have walk : Calls Tryz.prog 5 #[v0, .slice a1 len1 cap1, .slice a2 len2 cap2, .int .i64 more] W fun e w' => e = .returned (.bool true) ∧ Below W.heap.size W w' := by
    obtain ⟨fuel0, hf0⟩ := h0
    obtain ⟨fuel1, hf1⟩ := h1
    obtain ⟨fuel2, hf2⟩ := h2
    obtain ⟨fuel3, hf3⟩ := h3
    obtain ⟨D, hv0, hD, xD⟩ := disk_openW hf0 o0
    obtain ⟨S, hS, xS⟩ := ents_open (by simpa [Value.cells] using hf1) o1
    obtain ⟨T, hT, xT⟩ := ops_open (by simpa [Value.cells] using hf2) o2
    obtain ⟨n3, e3, _, hw3⟩ := DataW.trod_int Tryz.underlying3 hf3
    have e3' : more = n3 := by simpa [Value.cells] using e3
    subst e3'
    have hr : -9223372036854775808 ≤ more ∧ more ≤ 9223372036854775807 := by
      have h2 : (decide (IntKind.i64.min ≤ more) && decide (more ≤ IntKind.i64.max)) = true := hw3
      rw [Bool.and_eq_true, decide_eq_true_eq, decide_eq_true_eq, show IntKind.i64.min = -9223372036854775808 from rfl, show IntKind.i64.max = 9223372036854775807 from rfl] at h2
      exact h2
    have hb : Rows.uptoBulkAll [d0, d1, d2, d3] ≤ 1048576 := of_decide_eq_true (by simpa [Rows.uptoSmall] using hk)
    simp only [Rows.uptoBulkAll] at hb
    obtain ⟨b1, _, _⟩ := bulk_disk xD (by simp only; omega)
    obtain ⟨b2, b3⟩ := bulk_bound xS (by simp only; omega)
    obtain ⟨b4, b5⟩ := bulk_boundO xT (by simp only; omega)
    rw [hv0]
    exact works_any D.v D.jn D.fold D.space more _ _ D.L S T W hG hD hS hT b1 ⟨b2, b3⟩ b4 b5 hr.1 hr.2
  clear hA0
  refine walk.mono fun e W' ⟨he, bel⟩ => ?_
  subst he
  exact ⟨_, rfl, _, _, _, [], _, [], hW', trodAll_mk1 (shut_bool Tryz.underlying4 _), (trodAll_cons_mk (Below.trod laidOut (by kernel_rfl) (of_decide_eq_true (by kernel_rfl)) k0 bel lt0) (trodAll_cons_mk (Below.trod laidOut (by kernel_rfl) (of_decide_eq_true (by kernel_rfl)) k1 bel lt1) (trodAll_cons_mk (Below.trod laidOut (by kernel_rfl) (of_decide_eq_true (by kernel_rfl)) k2 bel lt2) (trodAll_cons_mk (Below.trod laidOut (by kernel_rfl) (of_decide_eq_true (by kernel_rfl)) k3 bel lt3) trodAll_mk0)))), rfl, bel.frame _, fun h => by cases h⟩

def laidNeeds : Array Value := #[.string ⟨#[]⟩, .bool false, .bool false, .bool false, .bool false, .string ⟨#[109, 107, 100, 105, 114]⟩, .bool false, .bool false, .bool false, .bool true, .string ⟨#[114, 109, 100, 105, 114]⟩, .bool true, .bool false, .bool false, .bool false, .string ⟨#[117, 110, 108, 105, 110, 107]⟩, .bool true, .bool false, .bool false, .bool false, .string ⟨#[119, 114, 105, 116, 101]⟩, .bool true, .bool false, .bool true, .bool true, .string ⟨#[99, 111, 112, 121]⟩, .bool true, .bool true, .bool false, .bool true, .string ⟨#[114, 101, 110, 97, 109, 101]⟩, .bool true, .bool true, .bool false, .bool false, .string ⟨#[99, 104, 109, 111, 100]⟩, .bool true, .bool false, .bool false, .bool true]
def laidAccept : Array Value := #[.int .u8 128, .int .u8 191, .int .u8 160, .int .u8 191, .int .u8 128, .int .u8 159, .int .u8 144, .int .u8 191, .int .u8 128, .int .u8 143, .int .u8 0, .int .u8 0, .int .u8 0, .int .u8 0, .int .u8 0, .int .u8 0, .int .u8 0, .int .u8 0, .int .u8 0, .int .u8 0, .int .u8 0, .int .u8 0, .int .u8 0, .int .u8 0, .int .u8 0, .int .u8 0, .int .u8 0, .int .u8 0, .int .u8 0, .int .u8 0, .int .u8 0, .int .u8 0]
def laidFirst : Array Value := (Go.Pinned.utf8FirstZ.map fun (n : Nat) => Value.int .u8 (n : Int)).toArray
def setRow (cs : Array Value) : Obj → Obj
  | .cells _ t frozen => .cells cs t frozen
  | o => o
/-- A world for the witness: the settled one, each listed variable holding what its initialiser lays. -/
noncomputable def laidWorld (os : Os) : World :=
  { World.holding Tryz.prog os ⟨#[], #[], []⟩ with heap := (((World.holding Tryz.prog os ⟨#[], #[], []⟩).heap.modify 0 (setRow laidNeeds)).modify 2 (setRow laidFirst)).modify 3 (setRow laidAccept) }
theorem laid_met (os : Os) : laidMet Tryz.prog Rows.worksRow.laid ((laidWorld os).forCall (fun _ _ => 0) ⟨#[], #[.agg #[.slice none 0 0, .bool false, .int .i64 0, .string ⟨#[]⟩], .slice none 0 0, .slice none 0 0, .int .i64 0], []⟩).memory :=
  laidMet_of_run3 8 (by kernel_rfl) (by kernel_rfl) (by kernel_rfl)
theorem reads (os : Os) {H : Type} (enc : TypeId × Value → H) : ∃ places, DataW.whole enc Tryz.prog ((laidWorld os).forCall (fun _ _ => 0) ⟨#[], #[.agg #[.slice none 0 0, .bool false, .int .i64 0, .string ⟨#[]⟩], .slice none 0 0, .slice none 0 0, .int .i64 0], []⟩).memory Tryz.f5.params.toList Rows.worksSpec.vars false #[Value.agg #[.slice none 0 0, .bool false, .int .i64 0, .string ⟨#[]⟩], Value.slice none 0 0, Value.slice none 0 0, Value.int .i64 0].toList 8 = some ([.agg [.nil, .lit (.bool false), .lit (.int .i64 0), .lit (.string [])], .nil, .nil, .lit (.int .i64 0)], [], places) :=
  ⟨[], by kernel_rfl⟩

set_option maxRecDepth 100000 in
theorem liftedUpto (os : Os) (started : os.Started) (H : Type) (enc : TypeId × Value → H) (F : Stop.Interp) :
    ReturnsInHanded {} Tryz.checked os 5 .any ((Rows.OpenSpec.upto Rows.worksSpec).preRow enc Tryz.prog Tryz.f5 Rows.worksUptoRow.domain false Rows.worksUptoRow.laid) (((Rows.OpenSpec.upto Rows.worksSpec).at F).post enc Tryz.prog Tryz.f5 false true false false) := by
  obtain ⟨places, hx⟩ := reads os enc
  refine returnsInHanded_of_row (C := Tryz.checked) (s := Rows.OpenSpec.upto Rows.worksSpec) own started (by kernel_rfl) Tryz.func5
    (witness_row_at (enc := enc) (C := Tryz.checked) false (laidWorld os) #[.agg #[.slice none 0 0, .bool false, .int .i64 0, .string ⟨#[]⟩], .slice none 0 0, .slice none 0 0, .int .i64 0] rfl (by kernel_rfl) (by kernel_rfl) (by kernel_rfl)
      (OpenSpec.preRow_of_cond 8 hx (by kernel_rfl) (fun k hk => by cases hk; kernel_rfl) (by kernel_rfl) (laid_met os))) ?_
  intro W base args ds gs before hval hW _ hcond _ hL hsh _
  exact contractW H enc W base args ds gs before hval hW (hcond _ rfl) hL hsh

theorem saidUpto : Rows.WorksUptoSaid :=
  OpenClaim.holds_of_cond 5 Tryz.f5 rfl rfl rfl rfl rfl rfl rfl ⟨rfl, rfl, rfl, rfl, rfl⟩ rfl rfl rfl rfl rfl (by kernel_rfl) Tryz.func5 (by kernel_rfl)
    (of_decide_eq_true (by kernel_rfl)) (by unfold Func.isWrapper; first | (rw [if_pos (by decide +kernel)]; kernel_rfl) | (rw [if_neg (by decide +kernel)]; exact ⟨rfl, rfl⟩))
    (fun os started H enc _ F => by rw [OpenClaim.pre_eq_preRow]; exact liftedUpto os started H enc F)

theorem plain5 (f : FuncId) (fn : Func) (hf : Tryz.pinned.checked.prog.funcNamed Tryz.f5.name = some f) (hfn : Tryz.pinned.checked.prog.funcs[f]? = some fn) :
    true = Tryz.pinned.checked.prog.looks [] ∧ ∀ (j : Nat) t, fn.params[j]? = some t → Tryz.pinned.checked.prog.wantsStandIn t = false := by
  obtain rfl : f = 5 := Option.some.inj ((show Tryz.prog.funcNamed Tryz.f5.name = some 5 by kernel_rfl).symm.trans hf) |>.symm
  obtain rfl : fn = Tryz.f5 := (Option.some.inj (Tryz.func5.symm.trans hfn)).symm
  refine ⟨by kernel_rfl, fun j t ht => ?_⟩
  rw [Tryz.params5] at ht
  have hm : t = 49 ∨ t = 22 ∨ t = 23 ∨ t = 3 := by simpa using Array.mem_of_getElem? ht
  rcases hm with rfl | rfl | rfl | rfl
  · exact (show Tryz.prog.wantsStandIn 49 = false by kernel_rfl)
  · exact (show Tryz.prog.wantsStandIn 22 = false by kernel_rfl)
  · exact (show Tryz.prog.wantsStandIn 23 = false by kernel_rfl)
  · exact (show Tryz.prog.wantsStandIn 3 = false by kernel_rfl)

theorem works_card : Rows.WorksUptoCardSaid :=
  Claim7.holds_tied_plain_at .later [] _ _ _ _ saidUpto (fun _ h => by cases h) (by kernel_rfl) (fun _ h => by cases h) worksUpto_row_tie rfl ⟨rfl, rfl⟩ (by kernel_rfl) rfl plain5 (by kernel_rfl)
end Go.Proofs.YtehkdjdflgknnaaGreatDoor
