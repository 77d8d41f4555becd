/- The arguments of the law, opened; what the listed variables give. -/
import Derived.Test.YtpjjagalekolaaaGreatDoorRows
import Derived.Test.YtpjjagalekolaaaGreatDoorP26
import Derived.Test.YtpjjagalekolaaaGreatDoorP04Shelf
import Derived.WalkKit
import Derived.ProofKit
import Derived.OpenShut
import Derived.Deep.Slices
import Derived.Lib.LaidTab
namespace Go.Proofs.YtpjjagalekolaaaGreatDoor
open Go.RowKit Go.Deep
set_option linter.unusedVariables false
set_option linter.unusedSimpArgs false

theorem cells54 : Tryz.prog.cellsOf 56 = 5 := by kernel_rfl
theorem cells3 : Tryz.prog.cellsOf 3 = 1 := by kernel_rfl
theorem cells9 : Tryz.prog.cellsOf 9 = 1 := by kernel_rfl
theorem cells4 : Tryz.prog.cellsOf 4 = 1 := by kernel_rfl
theorem cells142 : Tryz.prog.cellsOf 132 = 40 := by kernel_rfl
theorem cells141 : Tryz.prog.cellsOf 131 = 5 := by kernel_rfl
theorem gNeeds : Tryz.prog.globalNamed "convoy/scripts.needs" = some 0 := by kernel_rfl
theorem gNeedsType : (Tryz.prog.globals[0]?).map (·.type) = some 132 := by kernel_rfl

set_option maxRecDepth 100000 in
theorem ok_slice {w : World} {b0 : Nat} {t e : TypeId} {a : Addr} {len cap : Nat} (ht : Tryz.prog.underlying t = some (.slice e)) (h : Value.okWide Tryz.prog w .any b0 t (.slice (some a) len cap)) : len ≤ cap ∧ (cap : Int) ≤ IntKind.i64.max ∧ a.spot = none ∧ a.block < w.heap.size := by
  simp only [Value.okWide, ht, Cell.okWide, Cell.ok] at h
  obtain ⟨h1, h2, _, h3, row, cells, h4, _⟩ := h
  refine ⟨h1, h2, h3, ?_⟩
  by_cases hb : a.block < w.heap.size
  · exact hb
  · exfalso
    unfold World.shape? at h4
    rw [Array.getElem?_eq_none (by omega)] at h4
    cases h4

def EntD.datum {H : Type} (o : EntD) : DataW H := .agg [.lit (.string o.path.data.toList), .lit (.bool o.dir), .lit (.int .i64 o.id), .lit (.int .i64 o.size), .lit (.int .i64 o.mode)]

set_option maxRecDepth 100000 in
theorem ent_open {H : Type} {enc : TypeId × Value → H} {w : World} {base : Nat} {sp : Nat → Bool} {held : Bool} {n : Nat} {cs : List Value} {x : DataW H × List MemPlace} (h : DataW.trod enc Tryz.prog w base sp held n 56 cs = some x) :
    ∃ o : EntD, cs = o.cells ∧ x.1 = o.datum := by
  obtain ⟨xs, m, rfl, rfl, hl, hxl, hf⟩ := DataW.trod_struct Tryz.underlying56 h
  rw [cells54] at hl
  match cs, hl with
  | [c0, c1, c2, c3, c4], _ =>
    match xs, hxl with
    | [x0, x1, x2, x3, x4], _ =>
      have f0 : DataW.trod enc Tryz.prog w base sp held m 9 [c0] = some x0 := by have := hf 0 _ rfl; simpa [cells9] using this
      have f1 : DataW.trod enc Tryz.prog w base sp held m 4 [c1] = some x1 := by have := hf 1 _ rfl; simpa [cells4] using this
      have f2 : DataW.trod enc Tryz.prog w base sp held m 3 [c2] = some x2 := by have := hf 2 _ rfl; simpa [cells3] using this
      have f3 : DataW.trod enc Tryz.prog w base sp held m 3 [c3] = some x3 := by have := hf 3 _ rfl; simpa [cells3] using this
      have f4 : DataW.trod enc Tryz.prog w base sp held m 3 [c4] = some x4 := by have := hf 4 _ rfl; simpa [cells3] using this
      obtain ⟨s0, e0, rfl, _⟩ := DataW.trod_string Tryz.underlying9 f0
      obtain ⟨b1, e1, rfl⟩ := DataW.trod_bool Tryz.underlying4 f1
      obtain ⟨n2, e2, rfl, _⟩ := DataW.trod_int Tryz.underlying3 f2
      obtain ⟨n3, e3, rfl, _⟩ := DataW.trod_int Tryz.underlying3 f3
      obtain ⟨n4, e4, rfl, _⟩ := DataW.trod_int Tryz.underlying3 f4
      simp only [List.cons.injEq, and_true] at e0 e1 e2 e3 e4
      subst e0 e1 e2 e3 e4
      exact ⟨⟨s0, b1, n2, n3, n4⟩, rfl, rfl⟩

set_option maxRecDepth 100000 in
theorem ents_open {b0 : Nat} {H : Type} {enc : TypeId × Value → H} {w : World} {n : Nat} {v : Value} {x : DataW H × List MemPlace} (h : DataW.trod enc Tryz.prog w 0 (fun _ => true) true n 22 [v] = some x) (hok : Value.okWide Tryz.prog w .any b0 22 v) :
    ∃ l : List EntD, RowAt w v l ∧ (l = [] ∨ ∃ rest : List (DataW H), x.1 = .slice (l.map EntD.datum) rest) := by
  rcases open_slice Tryz.underlying22 h with ⟨hv, _⟩ | ⟨a, len, cap, m, k, D, Pl, hv, _, hlc, hcm, hm, rfl, hel⟩
  · have : v = .slice none 0 0 := by simpa using hv
    subst this
    exact ⟨[], .nil, .inl rfl⟩
  · simp only [if_true] at hm
    subst hm
    have hv' : v = .slice (some a) len m := by simpa using hv
    subst hv'
    by_cases h0 : m = 0
    · subst h0
      obtain rfl : len = 0 := by omega
      obtain ⟨b, off, sub⟩ := a
      obtain ⟨_, _, hs0, hlt0⟩ := ok_slice Tryz.underlying22 hok
      have hs1 : sub = none := hs0
      subst hs1
      exact ⟨[], .row b off 0 [] hlt0 (Nat.le_refl _) (Nat.zero_le _) (fun k hk => by simp at hk), .inl rfl⟩
    · rw [cells54] at hel
      haveI : Inhabited EntD := ⟨⟨.empty, false, 0, 0, 0⟩⟩
      obtain ⟨O, hO⟩ := choose_lt (α := EntD) (n := m) (p := fun i o => w.cells? 0 (a.add (i * 5)) 5 = some o.cells ∧ D i = o.datum) (fun i hi => by
        obtain ⟨cs', h1, h2⟩ := hel i hi
        obtain ⟨o, rfl, h3⟩ := ent_open h2
        exact ⟨o, h1, h3⟩)
      have c0 := (World.cells?_some (hO 0 (by omega)).1).2.2 0 (by omega)
      obtain ⟨b, off, sub⟩ := a
      have hsub : sub = none := by simpa [Addr.add] using World.cell?_spot (c0.trans (rfl : (O 0).cells[0]? = some (Value.string (O 0).path)))
      subst hsub
      have hlen : ((List.range len).map O).length = len := by simp
      have hrow : RowAt w (.slice (some ⟨b, off, none⟩) ((List.range len).map O).length m) ((List.range len).map O) := by
        refine .row b off m _ ?_ (by simp; omega) hcm ?_
        · have := World.cells?_block (hO 0 (by omega)).1 (by omega)
          simpa [Addr.add] using this
        · intro i hi j u hu
          have hi' : i < len := by simpa using hi
          have hc := (World.cells?_some (hO i (by omega)).1).2.2 j (by
            have := (List.getElem?_eq_some_iff.1 hu).1
            simpa [EntD.cells] using this)
          rw [Addr.add_lit, Addr.add_lit] at hc
          rw [hc]
          simpa using hu
      rw [hlen] at hrow
      refine ⟨(List.range len).map O, hrow, .inr ⟨(List.range (m - len)).map fun j => D (len + j), ?_⟩⟩
      simp only [List.map_map]
      congr 1
      refine List.map_congr_left fun i hi => ?_
      have hi' : i < len := by simpa using hi
      exact (hO i (by omega)).2

def OpD.datum {H : Type} (o : OpD) : DataW H := .agg [.lit (.int .i64 o.kind), .lit (.string o.path.data.toList), .lit (.string o.dest.data.toList), .lit (.int .i64 o.id), .lit (.int .i64 o.size), .lit (.int .i64 o.mode)]

def needDatum {H : Type} (n : Need) : DataW H := .agg [.lit (.string n.word.data.toList), .lit (.bool n.sp), .lit (.bool n.td), .lit (.bool n.fi), .lit (.bool n.mo)]

set_option maxRecDepth 100000 in
theorem need_open {H : Type} {enc : TypeId × Value → H} {w : World} {base : Nat} {sp : Nat → Bool} {held : Bool} {m : Nat} {cs : List Value} {p : List MemPlace} {nd : Need} (h : DataW.trod enc Tryz.prog w base sp held m 131 cs = some (needDatum nd, p)) : cs = nd.cells := by
  obtain ⟨xs, m, rfl, hx, hl, hxl, hf⟩ := DataW.trod_struct Tryz.underlying131 h
  rw [cells141] at hl
  match cs, hl with
  | [c0, c1, c2, c3, c4], _ =>
    match xs, hxl with
    | [x0, x1, x2, x3, x4], _ =>
      have f0 : DataW.trod enc Tryz.prog w base sp held m 9 [c0] = some x0 := by have := hf 0 _ rfl; simpa [cells9] using this
      have f1 : DataW.trod enc Tryz.prog w base sp held m 4 [c1] = some x1 := by have := hf 1 _ rfl; simpa [cells4] using this
      have f2 : DataW.trod enc Tryz.prog w base sp held m 4 [c2] = some x2 := by have := hf 2 _ rfl; simpa [cells4] using this
      have f3 : DataW.trod enc Tryz.prog w base sp held m 4 [c3] = some x3 := by have := hf 3 _ rfl; simpa [cells4] using this
      have f4 : DataW.trod enc Tryz.prog w base sp held m 4 [c4] = some x4 := by have := hf 4 _ rfl; simpa [cells4] using this
      obtain ⟨s0, e0, rfl, _⟩ := DataW.trod_string Tryz.underlying9 f0
      obtain ⟨b1, e1, rfl⟩ := DataW.trod_bool Tryz.underlying4 f1
      obtain ⟨b2, e2, rfl⟩ := DataW.trod_bool Tryz.underlying4 f2
      obtain ⟨b3, e3, rfl⟩ := DataW.trod_bool Tryz.underlying4 f3
      obtain ⟨b4, e4, rfl⟩ := DataW.trod_bool Tryz.underlying4 f4
      simp only [List.cons.injEq, and_true] at e0 e1 e2 e3 e4
      subst e0 e1 e2 e3 e4
      simp only [needDatum, Prod.mk.injEq, List.map_cons, List.map_nil, DataW.agg.injEq, List.cons.injEq, DataW.lit.injEq, Lit.string.injEq, Lit.bool.injEq, and_true] at hx
      obtain ⟨⟨h0, rfl, rfl, rfl, rfl⟩, _⟩ := hx
      have hs : s0 = nd.word := by
        obtain ⟨⟨l⟩⟩ := s0
        obtain ⟨⟨⟨l'⟩⟩, _, _, _, _⟩ := nd
        simp at h0
        simp [h0]
      subst hs
      rfl

theorem needs_datum {H : Type} : (Rows.laid_convoy_scripts_needs : DataW H) = .agg ((List.range 8).map fun k => needDatum (needOf k)) := rfl

theorem needs_cells {w : World} {sp : Nat → Bool} {held : Bool} {fuel : Nat} {cs : List Value} {p : List MemPlace} (h : DataW.trod (fun _ => ()) Tryz.prog w 0 sp held fuel 132 cs = some (Rows.laid_convoy_scripts_needs, p)) :
    ∀ k, k < 8 → ∀ j v, (needOf k).cells[j]? = some v → cs[k * 5 + j]? = some v := by
  rw [needs_datum] at h
  cases fuel with
  | zero => simp [DataW.trod] at h
  | succ fuel =>
    simp only [DataW.trod, Tryz.underlying132, cells141, cells142] at h
    split at h
    · rename_i hl
      obtain ⟨xs, hm, hx⟩ := Option.map_eq_some_iff.1 h
      have hxs : xs.map (·.1) = (List.range 8).map fun k => needDatum (needOf k) := by
        have := congrArg Prod.fst hx
        simpa using this
      intro k hk j v hv
      obtain ⟨b, hb, hf⟩ := Lib.mapM_at hm k k (by simp [hk])
      have hb1 : b.1 = needDatum (needOf k) := by
        have h2 : (xs.map (·.1))[k]? = some b.1 := by simp [hb]
        rw [hxs] at h2
        simp [hk] at h2
        exact h2.symm
      have hf2 : DataW.trod (fun _ => ()) Tryz.prog w 0 sp held fuel 131 ((cs.drop (k * 5)).take 5) = some (needDatum (needOf k), b.2) := by rw [hf, ← hb1]
      have e := need_open hf2
      have hj : j < 5 := by have := (List.getElem?_eq_some_iff.1 hv).1; simpa [Need.cells] using this
      rw [← e] at hv
      rw [List.getElem?_take, if_pos hj, List.getElem?_drop] at hv
      exact hv
    · cases h

set_option maxRecDepth 100000 in
theorem ground {W : World} (h : laidMetH Tryz.prog Rows.reachesRow.laid W) (hsh : W.ShapedOpen Tryz.prog) (hbig : 4 ≤ W.heap.size) : Gd W := by
  have h' : laidMet Tryz.prog Rows.reachesRow.laid W := h
  obtain ⟨ps, ⟨_, _, _, _, _, _, _, _, _, _, ⟨_, _, _, _, _, _, _, _, _, _, ⟨_, _, _, _, _, _, _, _, _, _, ⟨_, _, _, _, _, _, _, _, _, _, ⟨g5, t5, cs5, fu5, p5, q5, hg5, ht5, hv5, hd5, _, _⟩, _⟩, _⟩, _⟩, _⟩, _⟩ := h'
  refine ⟨hbig, Tryz.laysM219.s1_3 W hsh, ?_⟩
  obtain rfl := Option.some.inj (gNeeds.symm.trans hg5)
  obtain rfl := Option.some.inj (gNeedsType.symm.trans ht5)
  intro k hk j v hv
  have h1 := needs_cells hd5 k hk j v hv
  have h2 := World.var?_cell gNeeds hv5 (k * 5 + j)
  rw [h2]; simpa using h1

theorem bulk_part {H : Type} {d : DataW H} {l : List (DataW H)} (h : d ∈ l) : Rows.uptoBulk d ≤ Rows.uptoBulkAll l := by
  induction l with
  | nil => cases h
  | cons x r ih =>
    simp only [Rows.uptoBulkAll]
    cases List.mem_cons.1 h with
    | inl e => subst e; omega
    | inr e => have := ih e; omega
theorem bulk_ent {H : Type} (o : EntD) : o.path.size + 3 ≤ Rows.uptoBulk (H := H) o.datum := by
  have h1 := lenD o.path
  simp only [EntD.datum, Rows.uptoBulk, Rows.uptoBulkAll]
  omega
theorem bulk_ents {H : Type} (l : List EntD) : l.length ≤ Rows.uptoBulkAll (H := H) (l.map EntD.datum) := by
  induction l with
  | nil => simp
  | cons o l ih =>
    have := bulk_ent (H := H) o
    simp only [List.map_cons, Rows.uptoBulkAll, List.length_cons]
    omega
theorem bulk_bound {H : Type} {l : List EntD} {d : DataW H} (hx : l = [] ∨ ∃ rest : List (DataW H), d = .slice (l.map EntD.datum) rest) (hk : Rows.uptoBulk d ≤ 1048576) : l.length ≤ 2000000 ∧ ∀ o ∈ l, o.small := by
  rcases hx with rfl | ⟨rest, rfl⟩
  · exact ⟨by simp, fun o ho => by simp at ho⟩
  · simp only [Rows.uptoBulk] at hk
    have h1 := bulk_ents (H := H) l
    refine ⟨by omega, fun o ho => ?_⟩
    have h2 : Rows.uptoBulk (H := H) o.datum ≤ Rows.uptoBulkAll (l.map EntD.datum) := bulk_part (List.mem_map.2 ⟨o, ho, rfl⟩)
    have h3 := bulk_ent (H := H) o
    unfold EntD.small
    omega

end Go.Proofs.YtpjjagalekolaaaGreatDoor

