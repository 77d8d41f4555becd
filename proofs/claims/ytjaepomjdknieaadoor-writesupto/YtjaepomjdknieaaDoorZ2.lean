/- What the listed variables give: the ground. -/
import Derived.Test.YtjaepomjdknieaaDoorZ1
import Derived.Test.YtjaepomjdknieaaDoorShelf
namespace Go.Proofs.YtjaepomjdknieaaDoor
open Go.RowKit Go.Deep

theorem cells115 : Tryd.prog.cellsOf 115 = 40 := by kernel_rfl
theorem cells114 : Tryd.prog.cellsOf 114 = 5 := by kernel_rfl
theorem cells178 : Tryd.prog.cellsOf 178 = 20 := by kernel_rfl
theorem cells168 : Tryd.prog.cellsOf 168 = 1 := by kernel_rfl
theorem gNeeds : Tryd.prog.globalNamed "convoy/scripts.needs" = some 0 := by kernel_rfl
theorem gNeedsType : (Tryd.prog.globals[0]?).map (·.type) = some 115 := by kernel_rfl
theorem gPowType : (Tryd.prog.globals[2]?).map (·.type) = some 178 := by kernel_rfl

def needDatum {H : Type} (n : Need) : DataW H := .agg [.lit (.string n.word.data.toList), .lit (.bool n.sp), .lit (.bool n.td), .lit (.bool n.fi), .lit (.bool n.mo)]

set_option maxRecDepth 100000 in
theorem need_open {H : Type} {enc : TypeId × Value → H} {w : World} {base : Nat} {sp : Nat → Bool} {held : Bool} {m : Nat} {cs : List Value} {p : List MemPlace} {nd : Need} (h : DataW.trod enc Tryd.prog w base sp held m 114 cs = some (needDatum nd, p)) : cs = nd.cells := by
  obtain ⟨xs, m, rfl, hx, hl, hxl, hf⟩ := DataW.trod_struct Tryd.underlying114 h
  rw [cells114] at hl
  match cs, hl with
  | [c0, c1, c2, c3, c4], _ =>
    match xs, hxl with
    | [x0, x1, x2, x3, x4], _ =>
      have f0 : DataW.trod enc Tryd.prog w base sp held m 9 [c0] = some x0 := by have := hf 0 _ rfl; simpa [cells9] using this
      have f1 : DataW.trod enc Tryd.prog w base sp held m 4 [c1] = some x1 := by have := hf 1 _ rfl; simpa [cells4] using this
      have f2 : DataW.trod enc Tryd.prog w base sp held m 4 [c2] = some x2 := by have := hf 2 _ rfl; simpa [cells4] using this
      have f3 : DataW.trod enc Tryd.prog w base sp held m 4 [c3] = some x3 := by have := hf 3 _ rfl; simpa [cells4] using this
      have f4 : DataW.trod enc Tryd.prog w base sp held m 4 [c4] = some x4 := by have := hf 4 _ rfl; simpa [cells4] using this
      obtain ⟨s0, e0, rfl, _⟩ := DataW.trod_string Tryd.underlying9 f0
      obtain ⟨b1, e1, rfl⟩ := DataW.trod_bool Tryd.underlying4 f1
      obtain ⟨b2, e2, rfl⟩ := DataW.trod_bool Tryd.underlying4 f2
      obtain ⟨b3, e3, rfl⟩ := DataW.trod_bool Tryd.underlying4 f3
      obtain ⟨b4, e4, rfl⟩ := DataW.trod_bool Tryd.underlying4 f4
      simp only [List.cons.injEq, and_true] at e0 e1 e2 e3 e4
      subst e0 e1 e2 e3 e4
      simp only [needDatum, Prod.mk.injEq, List.map_cons, List.map_nil, DataW.agg.injEq, List.cons.injEq, DataW.lit.injEq, Lit.string.injEq, Lit.bool.injEq, and_true] at hx
      obtain ⟨⟨h0, rfl, rfl, rfl, rfl⟩, _⟩ := hx
      have hs : s0 = nd.word := by
        obtain ⟨⟨l⟩⟩ := s0
        obtain ⟨⟨⟨l'⟩⟩, _, _, _, _⟩ := nd
        simp at h0
        simp [h0]
      subst hs
      rfl

theorem needs_datum {H : Type} : (Rows.laid_convoy_scripts_needs : DataW H) = .agg ((List.range 8).map fun k => needDatum (needOf k)) := rfl

theorem needs_cells {w : World} {sp : Nat → Bool} {held : Bool} {fuel : Nat} {cs : List Value} {p : List MemPlace} (h : DataW.trod (fun _ => ()) Tryd.prog w 0 sp held fuel 115 cs = some (Rows.laid_convoy_scripts_needs, p)) :
    ∀ k, k < 8 → ∀ j v, (needOf k).cells[j]? = some v → cs[k * 5 + j]? = some v := by
  rw [needs_datum] at h
  cases fuel with
  | zero => simp [DataW.trod] at h
  | succ fuel =>
    simp only [DataW.trod, Tryd.underlying115, cells114, cells115] at h
    split at h
    · rename_i hl
      obtain ⟨xs, hm, hx⟩ := Option.map_eq_some_iff.1 h
      have hxs : xs.map (·.1) = (List.range 8).map fun k => needDatum (needOf k) := by
        have := congrArg Prod.fst hx
        simpa using this
      intro k hk j v hv
      obtain ⟨b, hb, hf⟩ := Lib.mapM_at hm k k (by simp [hk])
      have hb1 : b.1 = needDatum (needOf k) := by
        have h2 : (xs.map (·.1))[k]? = some b.1 := by simp [hb]
        rw [hxs] at h2
        simp [hk] at h2
        exact h2.symm
      have hf2 : DataW.trod (fun _ => ()) Tryd.prog w 0 sp held fuel 114 ((cs.drop (k * 5)).take 5) = some (needDatum (needOf k), b.2) := by rw [hf, ← hb1]
      have e := need_open hf2
      have hj : j < 5 := by have := (List.getElem?_eq_some_iff.1 hv).1; simpa [Need.cells] using this
      rw [← e] at hv
      rw [List.getElem?_take, if_pos hj, List.getElem?_drop] at hv
      exact hv
    · cases h

theorem pow_datum {H : Type} : (Rows.laid_internal_strconv_uint64pow10 : DataW H) = Lib.tabData .u64 Lib.pow10Tab := rfl

set_option maxRecDepth 100000 in
theorem ground {W : World} (h : laidMetH Tryd.prog Rows.writesRow.laid W) (hsh : W.ShapedOpen Tryd.prog) (hbig : 8 ≤ W.heap.size) : Gd W := by
  have h' : laidMet Tryd.prog Rows.writesRow.laid W := h
  obtain ⟨ps, ⟨_, _, _, _, _, _, _, _, _, _, ⟨_, _, _, _, _, _, _, _, _, _, ⟨g3, t3, cs3, fu3, p3, q3, hg3, ht3, hv3, hd3, ⟨_, _, _, _, _, _, _, _, _, _, ⟨g5, t5, cs5, fu5, p5, q5, hg5, ht5, hv5, hd5, _, _⟩, _⟩, _⟩, _⟩, _⟩, _⟩ := h'
  refine ⟨hbig, Tryd.laysM219.s1_3 W hsh, ?_, ?_⟩
  · obtain rfl := Option.some.inj (gNeeds.symm.trans hg5)
    obtain rfl := Option.some.inj (gNeedsType.symm.trans ht5)
    intro k hk j v hv
    have h1 := needs_cells hd5 k hk j v hv
    have h2 := World.var?_cell gNeeds hv5 (k * 5 + j)
    rw [h2]; simpa using h1
  · obtain rfl := Option.some.inj (gPow.symm.trans hg3)
    obtain rfl := Option.some.inj (gPowType.symm.trans ht3)
    unfold Lib.TabIs
    rw [hv3, ← Lib.cells_of_tab Tryd.underlying178 Tryd.underlying168 cells168 cells178 (by rw [← pow_datum]; exact hd3)]
end Go.Proofs.YtjaepomjdknieaaDoor
