/- The arguments of the law Does, opened. -/
import Derived.Test.YtehkdjdflgknnaaGreatDoorY24LC
import Derived.Test.YtehkdjdflgknnaaGreatDoorZMB
namespace Go.Proofs.YtehkdjdflgknnaaGreatDoor
open Go.RowKit Go.Deep
set_option linter.unusedVariables false
set_option linter.unusedSimpArgs false

theorem cells22 : Tryz.prog.cellsOf 22 = 1 := by kernel_rfl
theorem cells49 : Tryz.prog.cellsOf 49 = 4 := by kernel_rfl
theorem cells60 : Tryz.prog.cellsOf 60 = 8 := by kernel_rfl

set_option maxRecDepth 100000 in
theorem ents_openZ {H : Type} {enc : TypeId × Value → H} {w : World} {n : Nat} {v : Value} {x : DataW H × List MemPlace} (h : DataW.trod enc Tryz.prog w 0 (fun _ => true) true n 22 [v] = some x) :
    ∃ l : List EntD, RowZ w v l ∧ (l = [] ∨ ∃ rest : List (DataW H), x.1 = .slice (l.map EntD.datum) rest) := by
  rcases open_slice Tryz.underlying22 h with ⟨hv, _⟩ | ⟨a, len, cap, m, k, D, Pl, hv, _, hlc, hcm, hm, rfl, hel⟩
  · have : v = .slice none 0 0 := by simpa using hv
    subst this
    exact ⟨[], .inl .nil, .inl rfl⟩
  · simp only [if_true] at hm
    subst hm
    have hv' : v = .slice (some a) len m := by simpa using hv
    subst hv'
    by_cases h0 : m = 0
    · subst h0
      obtain rfl : len = 0 := by omega
      exact ⟨[], .inr ⟨a, rfl, rfl⟩, .inl rfl⟩
    · rw [cells75] at hel
      haveI : Inhabited EntD := ⟨⟨.empty, false, 0, 0, 0⟩⟩
      obtain ⟨O, hO⟩ := choose_lt (α := EntD) (n := m) (p := fun i o => w.cells? 0 (a.add (i * 5)) 5 = some o.cells ∧ D i = o.datum) (fun i hi => by
        obtain ⟨cs', h1, h2⟩ := hel i hi
        obtain ⟨o, rfl, h3⟩ := ent_open h2
        exact ⟨o, h1, h3⟩)
      have c0 := (World.cells?_some (hO 0 (by omega)).1).2.2 0 (by omega)
      obtain ⟨b, off, sub⟩ := a
      have hsub : sub = none := by simpa [Addr.add] using World.cell?_spot (c0.trans (rfl : (O 0).cells[0]? = some (Value.string (O 0).path)))
      subst hsub
      have hlen : ((List.range len).map O).length = len := by simp
      have hrow : RowAt w (.slice (some ⟨b, off, none⟩) ((List.range len).map O).length m) ((List.range len).map O) := by
        refine .row b off m _ ?_ (by simp; omega) hcm ?_
        · have := World.cells?_block (hO 0 (by omega)).1 (by omega)
          simpa [Addr.add] using this
        · intro i hi j u hu
          have hi' : i < len := by simpa using hi
          have hc := (World.cells?_some (hO i (by omega)).1).2.2 j (by
            have := (List.getElem?_eq_some_iff.1 hu).1
            simpa [EntD.cells] using this)
          rw [Addr.add_lit, Addr.add_lit] at hc
          rw [hc]
          simpa using hu
      rw [hlen] at hrow
      refine ⟨(List.range len).map O, .inl hrow, .inr ⟨(List.range (m - len)).map fun j => D (len + j), ?_⟩⟩
      simp only [List.map_map]
      congr 1
      refine List.map_congr_left fun i hi => ?_
      have hi' : i < len := by simpa using hi
      exact (hO i (by omega)).2



def DiskD.cells (d : DiskD) : List Value := [d.v, .bool d.fold, .int .i64 d.space, .string d.jn]
/-- How a disk reads. -/
def DiskD.dat {H : Type} (d : DiskD) (x : DataW H) : Prop := ∃ dl, x = .agg [dl, .lit (.bool d.fold), .lit (.int .i64 d.space), .lit (.string d.jn.data.toList)] ∧ (d.L = [] ∨ ∃ rest : List (DataW H), dl = .slice (d.L.map EntD.datum) rest)

set_option maxRecDepth 100000 in
theorem disk_open {H : Type} {enc : TypeId × Value → H} {w : World} {n : Nat} {cs : List Value} {x : DataW H × List MemPlace} (h : DataW.trod enc Tryz.prog w 0 (fun _ => true) true n 49 cs = some x) :
    ∃ d : DiskD, cs = d.cells ∧ RowZ w d.v d.L ∧ d.dat x.1 := by
  obtain ⟨xs, m, rfl, rfl, hl, hxl, hf⟩ := DataW.trod_struct Tryz.underlying49 h
  rw [cells49] at hl
  match cs, hl with
  | [c0, c1, c2, c3], _ =>
    match xs, hxl with
    | [x0, x1, x2, x3], _ =>
      have f0 : DataW.trod enc Tryz.prog w 0 (fun _ => true) true m 22 [c0] = some x0 := by have := hf 0 _ rfl; simpa [cells22] using this
      have f1 : DataW.trod enc Tryz.prog w 0 (fun _ => true) true m 4 [c1] = some x1 := by have := hf 1 _ rfl; simpa [cells4] using this
      have f2 : DataW.trod enc Tryz.prog w 0 (fun _ => true) true m 3 [c2] = some x2 := by have := hf 2 _ rfl; simpa [cells3] using this
      have f3 : DataW.trod enc Tryz.prog w 0 (fun _ => true) true m 9 [c3] = some x3 := by have := hf 3 _ rfl; simpa [cells9] using this
      obtain ⟨l, hr, hx⟩ := ents_openZ f0
      obtain ⟨b1, e1, rfl⟩ := DataW.trod_bool Tryz.underlying4 f1
      obtain ⟨n2, e2, rfl, _⟩ := DataW.trod_int Tryz.underlying3 f2
      obtain ⟨s3, e3, rfl, _⟩ := DataW.trod_string Tryz.underlying9 f3
      simp only [List.cons.injEq, and_true] at e1 e2 e3
      subst e1 e2 e3
      exact ⟨⟨c0, l, b1, n2, s3⟩, rfl, hr, x0.1, rfl, hx⟩

set_option maxRecDepth 100000 in
theorem disks_open {b0 : Nat} {H : Type} {enc : TypeId × Value → H} {w : World} {n : Nat} {v : Value} {x : DataW H × List MemPlace} (h : DataW.trod enc Tryz.prog w 0 (fun _ => true) true n 43 [v] = some x) (hok : Value.okWide Tryz.prog w .any b0 43 v) :
    ∃ l : List DiskD, DiskRow w v l ∧ (∀ d ∈ l, RowZ w d.v d.L) ∧ (l = [] ∨ ∃ (xs rest : List (DataW H)), x.1 = .slice xs rest ∧ xs.length = l.length ∧ ∀ (i : Nat) (h : i < l.length) (h' : i < xs.length), l[i].dat xs[i]) := by
  rcases open_slice Tryz.underlying43 h with ⟨hv, _⟩ | ⟨a, len, cap, m, k, D, Pl, hv, _, hlc, hcm, hm, rfl, hel⟩
  · have : v = .slice none 0 0 := by simpa using hv
    subst this
    exact ⟨[], .nil, fun d hd => by simp at hd, .inl rfl⟩
  · simp only [if_true] at hm
    subst hm
    have hv' : v = .slice (some a) len m := by simpa using hv
    subst hv'
    by_cases h0 : m = 0
    · subst h0
      obtain rfl : len = 0 := by omega
      obtain ⟨b, off, sub⟩ := a
      obtain ⟨_, _, hs0, hlt0⟩ := ok_slice Tryz.underlying43 hok
      have hs1 : sub = none := hs0
      subst hs1
      exact ⟨[], .row b off 0 [] hlt0 (fun k hk => by simp at hk), fun d hd => by simp at hd, .inl rfl⟩
    · rw [cells49] at hel
      haveI : Inhabited DiskD := ⟨⟨.slice none 0 0, [], false, 0, .empty⟩⟩
      obtain ⟨O, hO⟩ := choose_lt (α := DiskD) (n := m) (p := fun i o => w.cells? 0 (a.add (i * 4)) 4 = some o.cells ∧ RowZ w o.v o.L ∧ o.dat (D i)) (fun i hi => by
        obtain ⟨cs', h1, h2⟩ := hel i hi
        obtain ⟨o, rfl, h3, h4⟩ := disk_open h2
        exact ⟨o, h1, h3, h4⟩)
      have c0 := (World.cells?_some (hO 0 (by omega)).1).2.2 0 (by omega)
      obtain ⟨b, off, sub⟩ := a
      have hsub : sub = none := by simpa [Addr.add] using World.cell?_spot (c0.trans (rfl : (O 0).cells[0]? = some (O 0).v))
      subst hsub
      have hlen : ((List.range len).map O).length = len := by simp
      have hrow : DiskRow w (.slice (some ⟨b, off, none⟩) ((List.range len).map O).length m) ((List.range len).map O) := by
        refine .row b off m _ ?_ ?_
        · have := World.cells?_block (hO 0 (by omega)).1 (by omega)
          simpa [Addr.add] using this
        · intro i hi
          have hi' : i < len := by simpa using hi
          have hc := fun j (hj : j < 4) => (World.cells?_some (hO i (by omega)).1).2.2 j hj
          have g : ∀ j (hj : j < 4), w.cell? ⟨b, off + i * 4 + j, none⟩ = (O i).cells[j]? := fun j hj => by
            have := hc j hj
            rw [Addr.add_lit, Addr.add_lit] at this
            exact this
          simp only [List.getElem_map, List.getElem_range]
          exact ⟨g 0 (by omega), g 1 (by omega), g 2 (by omega), g 3 (by omega)⟩
      rw [hlen] at hrow
      refine ⟨(List.range len).map O, hrow, ?_, .inr ⟨(List.range len).map D, (List.range (m - len)).map fun j => D (len + j), rfl, by simp, fun i h h' => ?_⟩⟩
      · intro d hd
        simp only [List.mem_map, List.mem_range] at hd
        obtain ⟨i, hi, rfl⟩ := hd
        exact (hO i (by omega)).2.1
      · have hi' : i < len := by simpa using h
        simp only [List.getElem_map, List.getElem_range]
        exact (hO i (by omega)).2.2

def StepD.cells (s : StepD) : List Value := .int .i64 s.kind :: .int .i64 s.a :: s.o.cells
def StepD.dat {H : Type} (s : StepD) (x : DataW H) : Prop := x = .agg [.lit (.int .i64 s.kind), .lit (.int .i64 s.a), s.o.datum]

set_option maxRecDepth 100000 in
theorem step_open {H : Type} {enc : TypeId × Value → H} {w : World} {n : Nat} {cs : List Value} {x : DataW H × List MemPlace} (h : DataW.trod enc Tryz.prog w 0 (fun _ => true) true n 60 cs = some x) :
    ∃ s : StepD, cs = s.cells ∧ s.dat x.1 ∧ -9223372036854775808 ≤ s.a ∧ s.a ≤ 9223372036854775807 := by
  obtain ⟨xs, m, rfl, rfl, hl, hxl, hf⟩ := DataW.trod_struct Tryz.underlying60 h
  rw [cells60] at hl
  match cs, hl with
  | [c0, c1, c2, c3, c4, c5, c6, c7], _ =>
    match xs, hxl with
    | [x0, x1, x2], _ =>
      have f0 : DataW.trod enc Tryz.prog w 0 (fun _ => true) true m 3 [c0] = some x0 := by have := hf 0 _ rfl; simpa [cells3] using this
      have f1 : DataW.trod enc Tryz.prog w 0 (fun _ => true) true m 3 [c1] = some x1 := by have := hf 1 _ rfl; simpa [cells3] using this
      have f2 : DataW.trod enc Tryz.prog w 0 (fun _ => true) true m 58 [c2, c3, c4, c5, c6, c7] = some x2 := by have := hf 2 _ rfl; simpa [cells58] using this
      obtain ⟨n0, e0, rfl, _⟩ := DataW.trod_int Tryz.underlying3 f0
      obtain ⟨n1, e1, rfl, hw1⟩ := DataW.trod_int Tryz.underlying3 f1
      obtain ⟨o, e2, hx2⟩ := op_open f2
      simp only [List.cons.injEq, and_true] at e0 e1
      subst e0 e1
      have hr : -9223372036854775808 ≤ n1 ∧ n1 ≤ 9223372036854775807 := by
        have h2 : (decide (IntKind.i64.min ≤ n1) && decide (n1 ≤ IntKind.i64.max)) = true := hw1
        rw [Bool.and_eq_true, decide_eq_true_eq, decide_eq_true_eq, show IntKind.i64.min = -9223372036854775808 from rfl, show IntKind.i64.max = 9223372036854775807 from rfl] at h2
        exact h2
      exact ⟨⟨n0, n1, o⟩, by simp only [StepD.cells]; rw [← e2], by simp only [StepD.dat]; rw [← hx2]; rfl, hr.1, hr.2⟩

set_option maxRecDepth 100000 in
theorem steps_open {b0 : Nat} {H : Type} {enc : TypeId × Value → H} {w : World} {n : Nat} {v : Value} {x : DataW H × List MemPlace} (h : DataW.trod enc Tryz.prog w 0 (fun _ => true) true n 44 [v] = some x) (hok : Value.okWide Tryz.prog w .any b0 44 v) :
    ∃ l : List StepD, StepRow w v l ∧ (∀ s ∈ l, -9223372036854775808 ≤ s.a ∧ s.a ≤ 9223372036854775807) ∧ (l = [] ∨ ∃ (xs rest : List (DataW H)), x.1 = .slice xs rest ∧ xs.length = l.length ∧ ∀ (i : Nat) (h : i < l.length) (h' : i < xs.length), l[i].dat xs[i]) := by
  rcases open_slice Tryz.underlying44 h with ⟨hv, _⟩ | ⟨a, len, cap, m, k, D, Pl, hv, _, hlc, hcm, hm, rfl, hel⟩
  · have : v = .slice none 0 0 := by simpa using hv
    subst this
    exact ⟨[], .nil, fun d hd => by simp at hd, .inl rfl⟩
  · simp only [if_true] at hm
    subst hm
    have hv' : v = .slice (some a) len m := by simpa using hv
    subst hv'
    by_cases h0 : m = 0
    · subst h0
      obtain rfl : len = 0 := by omega
      obtain ⟨b, off, sub⟩ := a
      obtain ⟨_, _, hs0, hlt0⟩ := ok_slice Tryz.underlying44 hok
      have hs1 : sub = none := hs0
      subst hs1
      exact ⟨[], .row b off 0 [] hlt0 (fun k hk => by simp at hk), fun d hd => by simp at hd, .inl rfl⟩
    · rw [cells60] at hel
      haveI : Inhabited StepD := ⟨⟨0, 0, ⟨0, .empty, .empty, 0, 0, 0⟩⟩⟩
      obtain ⟨O, hO⟩ := choose_lt (α := StepD) (n := m) (p := fun i o => w.cells? 0 (a.add (i * 8)) 8 = some o.cells ∧ o.dat (D i) ∧ -9223372036854775808 ≤ o.a ∧ o.a ≤ 9223372036854775807) (fun i hi => by
        obtain ⟨cs', h1, h2⟩ := hel i hi
        obtain ⟨o, rfl, h3, h4, h5⟩ := step_open h2
        exact ⟨o, h1, h3, h4, h5⟩)
      have c0 := (World.cells?_some (hO 0 (by omega)).1).2.2 0 (by omega)
      obtain ⟨b, off, sub⟩ := a
      have hsub : sub = none := by simpa [Addr.add] using World.cell?_spot (c0.trans (rfl : (O 0).cells[0]? = some (Value.int .i64 (O 0).kind)))
      subst hsub
      have hlen : ((List.range len).map O).length = len := by simp
      have hrow : StepRow w (.slice (some ⟨b, off, none⟩) ((List.range len).map O).length m) ((List.range len).map O) := by
        refine .row b off m _ ?_ ?_
        · have := World.cells?_block (hO 0 (by omega)).1 (by omega)
          simpa [Addr.add] using this
        · intro i hi
          have hi' : i < len := by simpa using hi
          have hc := fun j (hj : j < 8) => (World.cells?_some (hO i (by omega)).1).2.2 j hj
          have g : ∀ j (hj : j < 8), w.cell? ⟨b, off + i * 8 + j, none⟩ = (O i).cells[j]? := fun j hj => by
            have := hc j hj
            rw [Addr.add_lit, Addr.add_lit] at this
            exact this
          simp only [List.getElem_map, List.getElem_range]
          refine ⟨g 0 (by omega), g 1 (by omega), fun j u hu => ?_⟩
          have hj : j < 6 := by have := (List.getElem?_eq_some_iff.1 hu).1; simpa [OpD.cells] using this
          have := g (j + 2) (by omega)
          rw [show off + i * 8 + 2 + j = off + i * 8 + (j + 2) by omega, this]
          exact hu
      rw [hlen] at hrow
      refine ⟨(List.range len).map O, hrow, ?_, .inr ⟨(List.range len).map D, (List.range (m - len)).map fun j => D (len + j), rfl, by simp, fun i h h' => ?_⟩⟩
      · intro d hd
        simp only [List.mem_map, List.mem_range] at hd
        obtain ⟨i, hi, rfl⟩ := hd
        exact (hO i (by omega)).2.2
      · have hi' : i < len := by simpa using h
        simp only [List.getElem_map, List.getElem_range]
        exact (hO i (by omega)).2.1

theorem bulk_at {H : Type} : ∀ (xs : List (DataW H)) (i : Nat) (h : i < xs.length), Rows.uptoBulk xs[i] ≤ Rows.uptoBulkAll xs := fun xs i h => bulk_part (List.getElem_mem h)
theorem bulk_len {H : Type} (xs : List (DataW H)) (h : ∀ x ∈ xs, 2 ≤ Rows.uptoBulk x) : 2 * xs.length ≤ Rows.uptoBulkAll xs := by
  induction xs with
  | nil => simp
  | cons x xs ih =>
    have h1 := h x (by simp)
    have h2 := ih (fun y hy => h y (by simp [hy]))
    simp only [Rows.uptoBulkAll, List.length_cons]
    omega
theorem bulk_disk {H : Type} {d : DiskD} {x : DataW H} (h : d.dat x) (hk : Rows.uptoBulk x ≤ 1048576) : SmallL d.L ∧ d.jn.size ≤ 1500000 ∧ 2 ≤ Rows.uptoBulk x := by
  obtain ⟨dl, rfl, hx⟩ := h
  have hj := lenD d.jn
  simp only [Rows.uptoBulk, Rows.uptoBulkAll] at hk ⊢
  have := bulk_bound hx (by omega)
  exact ⟨this, by omega, by omega⟩
theorem bulk_step {H : Type} {s : StepD} {x : DataW H} (h : s.dat x) (hk : Rows.uptoBulk x ≤ 1048576) : s.o.small ∧ 2 ≤ Rows.uptoBulk x := by
  have hx : x = .agg [.lit (.int .i64 s.kind), .lit (.int .i64 s.a), s.o.datum] := h
  subst hx
  have := bulk_op (H := H) s.o
  simp only [Rows.uptoBulk, Rows.uptoBulkAll] at hk ⊢
  exact ⟨⟨by omega, by omega⟩, by omega⟩
theorem bulk_disks {H : Type} {l : List DiskD} {d : DataW H} (hx : l = [] ∨ ∃ (xs rest : List (DataW H)), d = .slice xs rest ∧ xs.length = l.length ∧ ∀ (i : Nat) (h : i < l.length) (h' : i < xs.length), l[i].dat xs[i]) (hk : Rows.uptoBulk d ≤ 1048576) : 2 * l.length ≤ Rows.uptoBulk d ∧ ∀ o ∈ l, SmallL o.L ∧ o.jn.size ≤ 1500000 := by
  rcases hx with rfl | ⟨xs, rest, rfl, hl, hd⟩
  · exact ⟨by simp, fun o ho => by simp at ho⟩
  · simp only [Rows.uptoBulk] at hk ⊢
    have each : ∀ (i : Nat) (h : i < l.length), SmallL l[i].L ∧ l[i].jn.size ≤ 1500000 ∧ 2 ≤ Rows.uptoBulk (xs[i]'(by omega)) := fun i h => bulk_disk (hd i h (by omega)) (by have := bulk_at xs i (by omega); omega)
    have := bulk_len xs (fun x hx => by
      obtain ⟨i, hi, rfl⟩ := List.mem_iff_getElem.1 hx
      exact (each i (by omega)).2.2)
    refine ⟨by omega, fun o ho => ?_⟩
    obtain ⟨i, hi, rfl⟩ := List.mem_iff_getElem.1 ho
    exact ⟨(each i hi).1, (each i hi).2.1⟩
theorem bulk_steps {H : Type} {l : List StepD} {d : DataW H} (hx : l = [] ∨ ∃ (xs rest : List (DataW H)), d = .slice xs rest ∧ xs.length = l.length ∧ ∀ (i : Nat) (h : i < l.length) (h' : i < xs.length), l[i].dat xs[i]) (hk : Rows.uptoBulk d ≤ 1048576) : 2 * l.length ≤ Rows.uptoBulk d ∧ ∀ o ∈ l, o.o.small := by
  rcases hx with rfl | ⟨xs, rest, rfl, hl, hd⟩
  · exact ⟨by simp, fun o ho => by simp at ho⟩
  · simp only [Rows.uptoBulk] at hk ⊢
    have each : ∀ (i : Nat) (h : i < l.length), l[i].o.small ∧ 2 ≤ Rows.uptoBulk (xs[i]'(by omega)) := fun i h => bulk_step (hd i h (by omega)) (by have := bulk_at xs i (by omega); omega)
    have := bulk_len xs (fun x hx => by
      obtain ⟨i, hi, rfl⟩ := List.mem_iff_getElem.1 hx
      exact (each i (by omega)).2)
    refine ⟨by omega, fun o ho => ?_⟩
    obtain ⟨i, hi, rfl⟩ := List.mem_iff_getElem.1 ho
    exact (each i hi).1
end Go.Proofs.YtehkdjdflgknnaaGreatDoor
