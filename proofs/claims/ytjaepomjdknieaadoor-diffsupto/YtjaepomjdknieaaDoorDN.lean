/- For every two lists of entries of bulk at most 1048576 the call of the law Diffs returns true and leaves its arguments as they were: Diff of the program answers as the document's own answer does, the changes and the errors; what is handed in stays, with what lies behind it; and the lists that come out are the caller's, who may write into them and into their spare room. -/
import Derived.Test.YtjaepomjdknieaaDoorRows
import Derived.Test.YtjaepomjdknieaaDoorCards
import Derived.Test.YtjaepomjdknieaaDoorTie
import Derived.Test.YtjaepomjdknieaaDoorDM
import Derived.WalkKit
import Derived.ProofKit
import Derived.OpenShut
import Derived.ShutString
import Derived.ChangeOld
import Derived.Below
import Derived.Deep.Slices
import Derived.Deep.DeepHandedRow
import Derived.Deep.DeepLaidRun
namespace Go.Proofs.YtjaepomjdknieaaDoor
open Go.ChangeShapes Go.WideShapes Go.ChangeAt Go.RowKit Go.Deep

theorem own : ownKnob Tryd.prog.godebug = none := by kernel_rfl
theorem laidOut : laidOutB Tryd.prog = true := by kernel_rfl
theorem cells61 : Tryd.prog.cellsOf 61 = 5 := by kernel_rfl
theorem cells3 : Tryd.prog.cellsOf 3 = 1 := by kernel_rfl
theorem cells9 : Tryd.prog.cellsOf 9 = 1 := by kernel_rfl
theorem cells4 : Tryd.prog.cellsOf 4 = 1 := by kernel_rfl

def EntD.datum {H : Type} (o : EntD) : DataW H := .agg [.lit (.string o.path.data.toList), .lit (.bool o.dir), .lit (.int .i64 o.id), .lit (.int .i64 o.size), .lit (.int .i64 o.mode)]

set_option maxRecDepth 100000 in
theorem ent_open {H : Type} {enc : TypeId × Value → H} {w : World} {base : Nat} {sp : Nat → Bool} {held : Bool} {n : Nat} {cs : List Value} {x : DataW H × List MemPlace} (h : DataW.trod enc Tryd.prog w base sp held n 61 cs = some x) :
    ∃ o : EntD, cs = o.cells ∧ x.1 = o.datum := by
  obtain ⟨xs, m, rfl, rfl, hl, hxl, hf⟩ := DataW.trod_struct Tryd.underlying61 h
  rw [cells61] at hl
  match cs, hl with
  | [c0, c1, c2, c3, c4], _ =>
    match xs, hxl with
    | [x0, x1, x2, x3, x4], _ =>
      have f0 : DataW.trod enc Tryd.prog w base sp held m 9 [c0] = some x0 := by have := hf 0 _ rfl; simpa [cells9] using this
      have f1 : DataW.trod enc Tryd.prog w base sp held m 4 [c1] = some x1 := by have := hf 1 _ rfl; simpa [cells4] using this
      have f2 : DataW.trod enc Tryd.prog w base sp held m 3 [c2] = some x2 := by have := hf 2 _ rfl; simpa [cells3] using this
      have f3 : DataW.trod enc Tryd.prog w base sp held m 3 [c3] = some x3 := by have := hf 3 _ rfl; simpa [cells3] using this
      have f4 : DataW.trod enc Tryd.prog w base sp held m 3 [c4] = some x4 := by have := hf 4 _ rfl; simpa [cells3] using this
      obtain ⟨s0, e0, rfl, _⟩ := DataW.trod_string Tryd.underlying9 f0
      obtain ⟨b1, e1, rfl⟩ := DataW.trod_bool Tryd.underlying4 f1
      obtain ⟨n2, e2, rfl, _⟩ := DataW.trod_int Tryd.underlying3 f2
      obtain ⟨n3, e3, rfl, _⟩ := DataW.trod_int Tryd.underlying3 f3
      obtain ⟨n4, e4, rfl, _⟩ := DataW.trod_int Tryd.underlying3 f4
      simp only [List.cons.injEq, and_true] at e0 e1 e2 e3 e4
      subst e0 e1 e2 e3 e4
      exact ⟨⟨s0, b1, n2, n3, n4⟩, rfl, rfl⟩

/-- The argument: nil, or a row of entries; or one of which nothing is read. -/
theorem ents_open {H : Type} {enc : TypeId × Value → H} {w : World} {n : Nat} {v : Value} {x : DataW H × List MemPlace} (h : DataW.trod enc Tryd.prog w 0 (fun _ => true) true n 22 [v] = some x) :
    ∃ l : List EntD, ArgAt w v l ∧ (l = [] ∨ ∃ rest : List (DataW H), x.1 = .slice (l.map EntD.datum) rest) := by
  rcases open_slice Tryd.underlying22 h with ⟨hv, _⟩ | ⟨a, len, cap, m, k, D, Pl, hv, _, hlc, hcm, hm, rfl, hel⟩
  · have : v = .slice none 0 0 := by simpa using hv
    subst this
    exact ⟨[], .nil, .inl rfl⟩
  · simp only [if_true] at hm
    subst hm
    have hv' : v = .slice (some a) len m := by simpa using hv
    subst hv'
    by_cases h0 : m = 0
    · subst h0
      rw [show len = 0 by omega]
      exact ⟨[], .empty a, .inl rfl⟩
    · rw [cells61] at hel
      haveI : Inhabited EntD := ⟨⟨.empty, false, 0, 0, 0⟩⟩
      obtain ⟨O, hO⟩ := choose_lt (α := EntD) (n := m) (p := fun i o => w.cells? 0 (a.add (i * 5)) 5 = some o.cells ∧ D i = o.datum) (fun i hi => by
        obtain ⟨cs', h1, h2⟩ := hel i hi
        obtain ⟨o, rfl, h3⟩ := ent_open h2
        exact ⟨o, h1, h3⟩)
      have c0 := (World.cells?_some (hO 0 (by omega)).1).2.2 0 (by omega)
      obtain ⟨b, off, sub⟩ := a
      have hsub : sub = none := by simpa [Addr.add] using World.cell?_spot (c0.trans (rfl : (O 0).cells[0]? = some (Value.string (O 0).path)))
      subst hsub
      have hlen : ((List.range len).map O).length = len := by simp
      have hrow : ArgAt w (.slice (some ⟨b, off, none⟩) ((List.range len).map O).length m) ((List.range len).map O) := by
        refine .row b off m _ ?_ ?_
        · have := World.cells?_block (hO 0 (by omega)).1 (by omega)
          simpa [Addr.add] using this
        · intro i hi j u hu
          have hi' : i < len := by simpa using hi
          have hc := (World.cells?_some (hO i (by omega)).1).2.2 j (by
            have := (List.getElem?_eq_some_iff.1 hu).1
            simpa [EntD.cells] using this)
          rw [Addr.add_lit, Addr.add_lit] at hc
          rw [hc]
          simpa using hu
      rw [hlen] at hrow
      refine ⟨(List.range len).map O, hrow, .inr ⟨(List.range (m - len)).map fun j => D (len + j), ?_⟩⟩
      simp only [List.map_map]
      congr 1
      refine List.map_congr_left fun i hi => ?_
      have hi' : i < len := by simpa using hi
      exact (hO i (by omega)).2

theorem bulk_part {H : Type} {d : DataW H} {l : List (DataW H)} (h : d ∈ l) : Rows.uptoBulk d ≤ Rows.uptoBulkAll l := by
  induction l with
  | nil => cases h
  | cons x r ih =>
    simp only [Rows.uptoBulkAll]
    cases List.mem_cons.1 h with
    | inl e => subst e; omega
    | inr e => have := ih e; omega
theorem bulk_ent {H : Type} (o : EntD) : o.path.size + 3 ≤ Rows.uptoBulk (H := H) o.datum := by
  have h1 := lenD o.path
  simp only [EntD.datum, Rows.uptoBulk, Rows.uptoBulkAll]
  omega
theorem bulk_ents {H : Type} (l : List EntD) : l.length ≤ Rows.uptoBulkAll (H := H) (l.map EntD.datum) := by
  induction l with
  | nil => simp
  | cons o l ih =>
    have := bulk_ent (H := H) o
    simp only [List.map_cons, Rows.uptoBulkAll, List.length_cons]
    omega
theorem bulk_bound {H : Type} {l : List EntD} {d : DataW H} (hx : l = [] ∨ ∃ rest : List (DataW H), d = .slice (l.map EntD.datum) rest) (hk : Rows.uptoBulk d ≤ 1048576) : l.length ≤ 2000000 ∧ ∀ o ∈ l, o.small := by
  rcases hx with rfl | ⟨rest, rfl⟩
  · exact ⟨by simp, fun o ho => by simp at ho⟩
  · simp only [Rows.uptoBulk] at hk
    have h1 := bulk_ents (H := H) l
    refine ⟨by omega, fun o ho => ?_⟩
    have h2 : Rows.uptoBulk (H := H) o.datum ≤ Rows.uptoBulkAll (l.map EntD.datum) := bulk_part (List.mem_map.2 ⟨o, ho, rfl⟩)
    have h3 := bulk_ent (H := H) o
    unfold EntD.small
    omega

set_option maxRecDepth 100000 in
theorem contract (H : Type) (enc : TypeId × Value → H) (W : World) (base : Nat) (args : Array Value) (ds gs : List (DataW H)) (before : List MemPlace)
    (hval : ∀ (j : Nat) t v, Tryd.f4.params[j]? = some t → args[j]? = some v → Value.okWide Tryd.prog W .any base t v)
    (hW : DataW.Whole enc Tryd.prog Tryd.f4.params.toList Rows.diffsSpec.vars false W args.toList ds gs before) (hk : Rows.uptoSmall H (ds ++ gs) = true) :
    Calls Tryd.prog 4 args W fun e W' => ∃ v, e = .returned v ∧ Rows.diffsSpec.post enc Tryd.prog Tryd.f4 false true false false W args v W' := by
  have hW' := hW
  obtain ⟨p, q, hA0, hV, rfl, hfz, hnd⟩ := hW
  have hA : DataW.TrodAll enc Tryd.prog W 0 (fun _ => true) true Tryd.f4.params.toList args.toList ds p := hA0
  rw [Tryd.params4] at hA hval
  obtain ⟨v0, vs0, d0, ds0, p0, q0, hargs, rfl, rfl, h0, r0⟩ := trodAll_cons hA
  obtain ⟨v1, vs1, d1, ds1, p1, q1, hargs1, rfl, rfl, h1, r1⟩ := trodAll_cons r0
  obtain ⟨rfl, rfl, rfl⟩ := trodAll_nil r1
  obtain rfl : vs0 = [v1] := hargs1
  obtain rfl : args = #[v0, v1] := by cases args; simp_all
  obtain ⟨rfl, rfl⟩ := trodVars_none hV
  obtain ⟨a0, len0, cap0, rfl⟩ := okWide_slice Tryd.underlying22 (hval 0 22 v0 rfl rfl)
  obtain ⟨a1, len1, cap1, rfl⟩ := okWide_slice Tryd.underlying22 (hval 1 22 v1 rfl rfl)
  have k0 := h0
  have k1 := h1
  have lt0 : ∀ x ∈ p0, x.block < W.heap.size := by obtain ⟨m, hm⟩ := k0; exact DataW.trod_lt m _ _ _ hm
  have lt1 : ∀ x ∈ p1, x.block < W.heap.size := by obtain ⟨m, hm⟩ := k1; exact DataW.trod_lt m _ _ _ hm
  have walk : Calls Tryd.prog 4 #[.slice a0 len0 cap0, .slice a1 len1 cap1] W fun e w' => e = .returned (.bool true) ∧ Below W.heap.size W w' := by
    obtain ⟨fuel0, hf0⟩ := h0
    obtain ⟨fuel1, hf1⟩ := h1
    obtain ⟨S, hS, xS⟩ := ents_open (by simpa [Value.cells] using hf0)
    obtain ⟨T, hT, xT⟩ := ents_open (by simpa [Value.cells] using hf1)
    have hb : Rows.uptoBulkAll [d0, d1] ≤ 1048576 := of_decide_eq_true (by simpa [Rows.uptoSmall] using hk)
    simp only [Rows.uptoBulkAll] at hb
    obtain ⟨b1, b2⟩ := bulk_bound xS (by simp only; omega)
    obtain ⟨b3, b4⟩ := bulk_bound xT (by simp only; omega)
    exact diffs_any _ _ S T W hS hT b1 b3 b2 b4
  clear hA0
  refine walk.mono fun e W' ⟨he, bel⟩ => ?_
  subst he
  exact ⟨_, rfl, _, _, _, [], _, [], hW', trodAll_mk1 (shut_bool Tryd.underlying4 _), (trodAll_cons_mk (Below.trod laidOut (by kernel_rfl) (of_decide_eq_true (by kernel_rfl)) k0 bel lt0) (trodAll_cons_mk (Below.trod laidOut (by kernel_rfl) (of_decide_eq_true (by kernel_rfl)) k1 bel lt1) trodAll_mk0)), rfl, bel.frame _, fun h => by cases h⟩

def laidAccept : Array Value := #[.int .u8 128, .int .u8 191, .int .u8 160, .int .u8 191, .int .u8 128, .int .u8 159, .int .u8 144, .int .u8 191, .int .u8 128, .int .u8 143, .int .u8 0, .int .u8 0, .int .u8 0, .int .u8 0, .int .u8 0, .int .u8 0, .int .u8 0, .int .u8 0, .int .u8 0, .int .u8 0, .int .u8 0, .int .u8 0, .int .u8 0, .int .u8 0, .int .u8 0, .int .u8 0, .int .u8 0, .int .u8 0, .int .u8 0, .int .u8 0, .int .u8 0, .int .u8 0]
def laidFirst : Array Value := (Go.Pinned.utf8FirstZ.map fun (n : Nat) => Value.int .u8 (n : Int)).toArray
def setRow (cs : Array Value) : Obj → Obj
  | .cells _ t frozen => .cells cs t frozen
  | o => o
/-- A world for the witness: the settled one, each listed variable holding what its initialiser lays. -/
noncomputable def laidWorld (os : Os) : World :=
  { World.holding Tryd.prog os ⟨#[], #[], []⟩ with heap := ((World.holding Tryd.prog os ⟨#[], #[], []⟩).heap.modify 3 (setRow laidFirst)).modify 4 (setRow laidAccept) }
theorem laid_met (os : Os) : laidMet Tryd.prog Rows.diffsRow.laid ((laidWorld os).forCall (fun _ _ => 0) ⟨#[], #[.slice none 0 0, .slice none 0 0], []⟩).memory :=
  laidMet_of_run3 8 (by kernel_rfl) (by kernel_rfl) (by kernel_rfl)
theorem reads (os : Os) {H : Type} (enc : TypeId × Value → H) : ∃ places, DataW.whole enc Tryd.prog ((laidWorld os).forCall (fun _ _ => 0) ⟨#[], #[.slice none 0 0, .slice none 0 0], []⟩).memory Tryd.f4.params.toList Rows.diffsSpec.vars false #[Value.slice none 0 0, Value.slice none 0 0].toList 8 = some ([.nil, .nil], [], places) :=
  ⟨[], by kernel_rfl⟩

set_option maxRecDepth 100000 in
theorem liftedUpto (os : Os) (started : os.Started) (H : Type) (enc : TypeId × Value → H) (F : Stop.Interp) :
    ReturnsInHanded {} Tryd.checked os 4 .any ((Rows.OpenSpec.upto Rows.diffsSpec).preRow enc Tryd.prog Tryd.f4 Rows.diffsUptoRow.domain false Rows.diffsUptoRow.laid) (((Rows.OpenSpec.upto Rows.diffsSpec).at F).post enc Tryd.prog Tryd.f4 false true false false) := by
  obtain ⟨places, hx⟩ := reads os enc
  refine returnsInHanded_of_row (C := Tryd.checked) (s := Rows.OpenSpec.upto Rows.diffsSpec) own started (by kernel_rfl) Tryd.func4
    (witness_row_at (enc := enc) (C := Tryd.checked) false (laidWorld os) #[.slice none 0 0, .slice none 0 0] rfl (by kernel_rfl) (by kernel_rfl) (by kernel_rfl)
      (OpenSpec.preRow_of_cond 8 hx (by kernel_rfl) (fun k hk => by cases hk; kernel_rfl) (by kernel_rfl) (laid_met os))) ?_
  intro W base args ds gs before hval hW _ hcond _ hL hsh _
  exact contract H enc W base args ds gs before hval hW (hcond _ rfl)

theorem saidUpto : Rows.DiffsUptoSaid :=
  OpenClaim.holds_of_cond 4 Tryd.f4 rfl rfl rfl rfl rfl rfl rfl ⟨rfl, rfl, rfl, rfl, rfl⟩ rfl rfl rfl rfl rfl (by kernel_rfl) Tryd.func4 (by kernel_rfl)
    (of_decide_eq_true (by kernel_rfl)) (by unfold Func.isWrapper; first | (rw [if_pos (by decide +kernel)]; kernel_rfl) | (rw [if_neg (by decide +kernel)]; exact ⟨rfl, rfl⟩))
    (fun os started H enc _ F => by rw [OpenClaim.pre_eq_preRow]; exact liftedUpto os started H enc F)

theorem plain4 (f : FuncId) (fn : Func) (hf : Tryd.pinned.checked.prog.funcNamed Tryd.f4.name = some f) (hfn : Tryd.pinned.checked.prog.funcs[f]? = some fn) :
    true = Tryd.pinned.checked.prog.looks [] ∧ ∀ (j : Nat) t, fn.params[j]? = some t → Tryd.pinned.checked.prog.wantsStandIn t = false := by
  obtain rfl : f = 4 := Option.some.inj ((show Tryd.prog.funcNamed Tryd.f4.name = some 4 by kernel_rfl).symm.trans hf) |>.symm
  obtain rfl : fn = Tryd.f4 := (Option.some.inj (Tryd.func4.symm.trans hfn)).symm
  refine ⟨by kernel_rfl, fun j t ht => ?_⟩
  rw [Tryd.params4] at ht
  obtain rfl : t = 22 := by simpa using Array.mem_of_getElem? ht
  exact (show Tryd.prog.wantsStandIn 22 = false by kernel_rfl)

theorem diffs_card : Rows.DiffsUptoCardSaid :=
  Claim7.holds_tied_plain_at .later [] _ _ _ _ saidUpto (fun _ h => by cases h) (by kernel_rfl) (fun _ h => by cases h) diffsUpto_row_tie rfl ⟨rfl, rfl⟩ (by kernel_rfl) rfl plain4 (by kernel_rfl)
end Go.Proofs.YtjaepomjdknieaaDoor
