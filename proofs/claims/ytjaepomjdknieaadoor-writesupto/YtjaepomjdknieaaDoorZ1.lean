/- The argument of the law, opened: a slice of operations; and what the listed variables give. -/
import Derived.Test.YtjaepomjdknieaaDoorG
import Derived.Test.YtjaepomjdknieaaDoorRows
import Derived.ProofKit
import Derived.OpenShut
import Derived.Deep.Slices
import Derived.Lib.LaidTab
namespace Go.Proofs.YtjaepomjdknieaaDoor
open Go.RowKit Go.Deep

theorem cells71 : Tryd.prog.cellsOf 71 = 6 := by kernel_rfl
theorem cells3 : Tryd.prog.cellsOf 3 = 1 := by kernel_rfl
theorem cells9 : Tryd.prog.cellsOf 9 = 1 := by kernel_rfl
theorem cells4 : Tryd.prog.cellsOf 4 = 1 := by kernel_rfl

def OpD.datum {H : Type} (o : OpD) : DataW H := .agg [.lit (.int .i64 o.kind), .lit (.string o.path.data.toList), .lit (.string o.dest.data.toList), .lit (.int .i64 o.id), .lit (.int .i64 o.size), .lit (.int .i64 o.mode)]

set_option maxRecDepth 100000 in
theorem op_open {H : Type} {enc : TypeId × Value → H} {w : World} {base : Nat} {sp : Nat → Bool} {held : Bool} {n : Nat} {cs : List Value} {x : DataW H × List MemPlace} (h : DataW.trod enc Tryd.prog w base sp held n 71 cs = some x) :
    ∃ o : OpD, cs = o.cells ∧ x.1 = o.datum := by
  obtain ⟨xs, m, rfl, rfl, hl, hxl, hf⟩ := DataW.trod_struct Tryd.underlying71 h
  rw [cells71] at hl
  match cs, hl with
  | [c0, c1, c2, c3, c4, c5], _ =>
    match xs, hxl with
    | [x0, x1, x2, x3, x4, x5], _ =>
      have f0 : DataW.trod enc Tryd.prog w base sp held m 3 [c0] = some x0 := by have := hf 0 _ rfl; simpa [cells3] using this
      have f1 : DataW.trod enc Tryd.prog w base sp held m 9 [c1] = some x1 := by have := hf 1 _ rfl; simpa [cells9] using this
      have f2 : DataW.trod enc Tryd.prog w base sp held m 9 [c2] = some x2 := by have := hf 2 _ rfl; simpa [cells9] using this
      have f3 : DataW.trod enc Tryd.prog w base sp held m 3 [c3] = some x3 := by have := hf 3 _ rfl; simpa [cells3] using this
      have f4 : DataW.trod enc Tryd.prog w base sp held m 3 [c4] = some x4 := by have := hf 4 _ rfl; simpa [cells3] using this
      have f5 : DataW.trod enc Tryd.prog w base sp held m 3 [c5] = some x5 := by have := hf 5 _ rfl; simpa [cells3] using this
      obtain ⟨n0, e0, rfl, _⟩ := DataW.trod_int Tryd.underlying3 f0
      obtain ⟨s1, e1, rfl, _⟩ := DataW.trod_string Tryd.underlying9 f1
      obtain ⟨s2, e2, rfl, _⟩ := DataW.trod_string Tryd.underlying9 f2
      obtain ⟨n3, e3, rfl, _⟩ := DataW.trod_int Tryd.underlying3 f3
      obtain ⟨n4, e4, rfl, _⟩ := DataW.trod_int Tryd.underlying3 f4
      obtain ⟨n5, e5, rfl, _⟩ := DataW.trod_int Tryd.underlying3 f5
      simp only [List.cons.injEq, and_true] at e0 e1 e2 e3 e4 e5
      subst e0 e1 e2 e3 e4 e5
      exact ⟨⟨n0, s1, s2, n3, n4, n5⟩, rfl, rfl⟩

/-- The argument: nil, or a row of operations; or one of which nothing is read. -/
theorem ops_open {H : Type} {enc : TypeId × Value → H} {w : World} {n : Nat} {v : Value} {x : DataW H × List MemPlace} (h : DataW.trod enc Tryd.prog w 0 (fun _ => true) true n 46 [v] = some x) :
    v = .slice none 0 0 ∨ (∃ a, v = .slice (some a) 0 0) ∨
    ∃ (b off cap : Nat) (l : List OpD) (rest : List (DataW H)), v = .slice (some ⟨b, off, none⟩) l.length cap ∧ b < w.heap.size ∧ OpsAt w b off l ∧ x.1 = .slice (l.map OpD.datum) rest := by
  rcases open_slice Tryd.underlying46 h with ⟨hv, _⟩ | ⟨a, len, cap, m, k, D, Pl, hv, _, hlc, hcm, hm, rfl, hel⟩
  · left; simpa using hv
  · right
    simp only [if_true] at hm
    subst hm
    have hv' : v = .slice (some a) len m := by simpa using hv
    subst hv'
    by_cases h0 : m = 0
    · left
      subst h0
      exact ⟨a, by rw [show len = 0 by omega]⟩
    · right
      rw [cells71] at hel
      haveI : Inhabited OpD := ⟨⟨0, .empty, .empty, 0, 0, 0⟩⟩
      obtain ⟨O, hO⟩ := choose_lt (α := OpD) (n := m) (p := fun i o => w.cells? 0 (a.add (i * 6)) 6 = some o.cells ∧ D i = o.datum) (fun i hi => by
        obtain ⟨cs', h1, h2⟩ := hel i hi
        obtain ⟨o, rfl, h3⟩ := op_open h2
        exact ⟨o, h1, h3⟩)
      have c0 := (World.cells?_some (hO 0 (by omega)).1).2.2 0 (by omega)
      obtain ⟨b, off, sub⟩ := a
      have hsub : sub = none := by simpa [Addr.add] using World.cell?_spot (c0.trans (rfl : (O 0).cells[0]? = some (Value.int .i64 (O 0).kind)))
      subst hsub
      refine ⟨b, off, m, (List.range len).map O, (List.range (m - len)).map fun j => D (len + j), by simp, ?_, ?_, ?_⟩
      · have := World.cells?_block (hO 0 (by omega)).1 (by omega)
        simpa [Addr.add] using this
      · intro i hi j u hu
        have hi' : i < len := by simpa using hi
        have hc := (World.cells?_some (hO i (by omega)).1).2.2 j (by
          have := (List.getElem?_eq_some_iff.1 hu).1
          simpa [OpD.cells] using this)
        rw [Addr.add_lit, Addr.add_lit] at hc
        rw [hc]
        simpa using hu
      · simp only [List.map_map]
        congr 1
        refine List.map_congr_left fun i hi => ?_
        have hi' : i < len := by simpa using hi
        exact (hO i (by omega)).2
end Go.Proofs.YtjaepomjdknieaaDoor
