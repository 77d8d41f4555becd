/- KA, KB, KC, KD, OC0: in one text. -/
import Derived.Test.YtpjjagalekolaaaGreatDoorP09
import Derived.LoopN
import Derived.Laws.OwnMore
import Derived.Deep.RegionHeld3
import Derived.Laws.CopyRow
import Derived.Deep.WholeRow
import Derived.WalkMore
import Derived.Deep.RegionHeld
/- Small things of the planner: a file's entry, an entry by its content, numbers. -/
namespace Go.Proofs.YtpjjagalekolaaaGreatDoor
open Go.RowKit
set_option linter.unusedVariables false
set_option linter.unusedSimpArgs false

theorem results_cell1 {fn : Func} {p : Tmp} {ty : TypeId} (h : fn.results = #[.cell p ty]) (tmps : Array Value) (P : Program) (w : World) :
    (results fn tmps).run P w = ((asAddr (tmps.getD p undef)).run P w).andThen fun a w₁ => (loadVar ty a).run P w₁ := by
  simp only [results, h]
  simp [Sem.run_bind, Result.andThen]

def fileE (p : ByteArray) (id : Int) : EntD := ⟨p, false, id, 3, 0⟩
theorem cells_box (w : World) (cs : Array Value) (t : TypeId) (j : Nat) : (w.alloc (.cells cs t)).cell? ⟨w.heap.size, j, none⟩ = cs[j]? := Lib.cell_of_heap (heap_alloc_new w _) j
/-- FindId's question. -/
theorem findId1 (P : Nat) (id : Int) (o : EntD) (w : World) (hc : w.cell? ⟨P, 0, none⟩ = some (.int .i64 id)) (hP : P < w.heap.size) :
    Calls Tryz.prog 182 #[.agg #[.string o.path, .bool o.dir, .int .i64 o.id, .int .i64 o.size, .int .i64 o.mode], .pointer (some ⟨P, 0, none⟩)] w fun e w' => e = .returned (.bool (o.id == id)) ∧ Below w.heap.size w w' := by
  have hc' := past1 hP hc
  go_enter Tryz.func182, Tryz.ntmps182
  go_wp2
  go_ret
  exact ⟨rfl, (Below.refl _ _).alloc (Nat.le_refl _) _⟩
set_option maxHeartbeats 1000000 in
theorem indexFunc76 (b off cap : Nat) (l : List EntD) (pr : EntD → Bool) (P0 : Addr) (w : World) (hl : l.length ≤ 2000000) (hs : ∀ o ∈ l, o.small) (hb : b < w.heap.size) (hc : EntsAt w b off l)
    (hcl : ∀ (o : EntD) (wr : World), o.small → Below w.heap.size w wr → Calls Tryz.prog 182 #[.agg #[.string o.path, .bool o.dir, .int .i64 o.id, .int .i64 o.size, .int .i64 o.mode], .pointer (some P0)] wr fun e w' => e = .returned (.bool (pr o)) ∧ Below wr.heap.size wr w') :
    Calls Tryz.prog 181 #[.slice (some ⟨b, off, none⟩) l.length cap, .func (.func 182) #[] #[.pointer (some P0)]] w fun e w' => e = .returned (.int .i64 (fstI pr l)) ∧ Below w.heap.size w w' := by
  have HCL : Hid (∀ (o : EntD) (wr : World), o.small → Below w.heap.size w wr → Calls Tryz.prog 182 #[.agg #[.string o.path, .bool o.dir, .int .i64 o.id, .int .i64 o.size, .int .i64 o.mode], .pointer (some P0)] wr fun e w' => e = .returned (.bool (pr o)) ∧ Below wr.heap.size wr w') := hcl
  clear hcl
  go_enter Tryz.func181, Tryz.ntmps181
  go_wp2
  go_loopw [8] (fun i wr => ∃ k : Nat, k ≤ l.length ∧ i = .int .i64 k ∧ (l.take k).any pr = false ∧ Below w.heap.size w wr) (fun i _ => l.length - (intOf i).toNat)
  case atStart => exact ⟨0, Nat.zero_le _, rfl, rfl, Below.refl _ _⟩
  case round =>
    obtain ⟨k, hk, rfl, hd, hbw⟩ := hrel
    have HD : Hid ((l.take k).any pr = false) := hd
    clear hd
    have hbs := hbw.size
    by_cases hlt : k < l.length
    · have HSN : Hid ((l.take (k + 1)).any pr = ((l.take k).any pr || pr l[k])) := any_snoc pr l k hlt
      have HHT : Hid (pr l[k] = true → fstI pr l = k) := fun h => fstI_hit pr l k hlt h HD.out
      have hcw := (hc.below hbw hb) k hlt
      have hsm := hs _ (List.getElem_mem hlt)
      generalize l[k] = o at *
      have c0 := hcw 0 _ rfl
      have c1 := hcw 1 _ rfl
      have c2 := hcw 2 _ rfl
      have c3 := hcw 3 _ rfl
      have c4 := hcw 4 _ rfl
      simp only [Nat.add_zero] at c0
      clear hcw
      by_cases hp : pr o = true
      · go_wp2_with (go_at_call 182; refine (HCL.out o _ hsm hbw).mono ?_; rintro e w1 ⟨rfl, hb1⟩; rw [hp])
        go_ret
        exact ⟨by rw [HHT.out hp]; rfl, hbw.trans (hb1.mono hbs)⟩
      · simp only [Bool.not_eq_true] at hp
        go_wp2_with (go_at_call 182; refine (HCL.out o _ hsm hbw).mono ?_; rintro e w1 ⟨rfl, hb1⟩; rw [hp])
        exact ⟨⟨k + 1, by omega, by go_num, by rw [HSN.out, HD.out, hp]; rfl, hbw.trans (hb1.mono hbs)⟩, by simp [intOf]; omega⟩
    · go_wp2
      go_ret
      refine ⟨?_, hbw⟩
      have h := HD.out
      rw [List.take_of_length_le (by omega)] at h
      rw [fstI_none pr l h]; rfl

theorem findId_any (b off cap : Nat) (l : List EntD) (id : Int) (w : World) (hl : l.length ≤ 2000000) (hs : ∀ o ∈ l, o.small) (hb : b < w.heap.size) (hc : EntsAt w b off l) :
    Calls Tryz.prog 139 #[.slice (some ⟨b, off, none⟩) l.length cap, .int .i64 id] w fun e w' => e = .returned (.int .i64 (fstI (fun o => o.id == id) l)) ∧ Below w.heap.size w w' := by
  have hmf : ∀ (fn : Fn) (first cap : Array Value) (w : World), (Instr.makeFunc fn first cap).run Tryz.prog w = .ok (.func fn first cap) w := fun _ _ _ _ => rfl
  have hb1 : Below w.heap.size w (w.alloc (.cells #[.int .i64 id] 3)) := (Below.refl _ _).alloc (Nat.le_refl _) _
  have z := cells_box w #[.int .i64 id] 3 0
  have H := hidD (indexFunc76 b off cap l (fun o => o.id == id) ⟨w.heap.size, 0, none⟩ (w.alloc (.cells #[.int .i64 id] 3)) hl hs (by simp; omega) (hc.below hb1 hb) (fun o wr _ hw => findId1 w.heap.size id o wr (cell_kept hw (by simp) z) (by have := hw.size; simp at this; omega)))
  clear z
  go_enter Tryz.func139, Tryz.ntmps139
  go_wp2_with (go_at_call 181; refine H.out.mono ?_; rintro e w1 ⟨rfl, hb2⟩)
  go_ret
  exact ⟨rfl, hb1.trans (hb2.mono (by simp))⟩

end Go.Proofs.YtpjjagalekolaaaGreatDoor

/- The planner at two files that change their names: which entries become which. -/
namespace Go.Proofs.YtpjjagalekolaaaGreatDoor
open Go.RowKit
set_option linter.unusedVariables false
set_option linter.unusedSimpArgs false

/-- What lies in a block: its cells from the front, as far as they are told. -/
def Blk (u : World) (b : Nat) (T : TypeId) (xs : List Value) : Prop := ∃ cur : Array Value, u.heap[b]? = some (.cells cur T (0, 0)) ∧ ∀ (j : Nat) (v : Value), xs[j]? = some v → cur[j]? = some v
theorem Blk.lt {u : World} {b : Nat} {T : TypeId} {xs : List Value} (h : Blk u b T xs) : b < u.heap.size := by
  obtain ⟨cur, h1, _⟩ := h
  exact (Array.getElem?_eq_some_iff.1 h1).1
theorem Blk.cell {u : World} {b : Nat} {T : TypeId} {xs : List Value} (h : Blk u b T xs) (j : Nat) {v : Value} (hv : xs[j]? = some v) : u.cell? ⟨b, j, none⟩ = some v := by
  obtain ⟨cur, h1, h2⟩ := h
  rw [Lib.cell_of_heap h1]
  exact h2 j v hv
theorem Blk.frozen {u : World} {b : Nat} {T : TypeId} {xs : List Value} (h : Blk u b T xs) (j : Nat) : u.frozen? ⟨b, j, none⟩ = false := by
  obtain ⟨cur, h1, _⟩ := h
  exact frozen_of_row u b j cur T h1
theorem Blk.ne {u : World} {b b' : Nat} {T T' : TypeId} {xs ys : List Value} (h : Blk u b T xs) (h' : Blk u b' T' ys) (hT : T ≠ T') : b ≠ b' := by
  rintro rfl
  obtain ⟨c, h1, _⟩ := h
  obtain ⟨c', h2, _⟩ := h'
  rw [h1] at h2
  simp only [Option.some.injEq, Obj.cells.injEq] at h2
  exact hT h2.2.1
theorem Blk.of {u : World} {b : Nat} {T : TypeId} {cs : Array Value} (h : u.heap[b]? = some (.cells cs T (0, 0))) : Blk u b T cs.toList := ⟨cs, h, fun j v hv => by simpa using hv⟩
theorem Blk.new (u : World) (T : TypeId) (xs : List Value) : Blk (u.alloc (.cells xs.toArray T)) u.heap.size T xs := ⟨xs.toArray, heap_alloc_new u _, fun j v hv => by simpa using hv⟩
theorem Blk.kept {u u' : World} {b : Nat} {T : TypeId} {xs : List Value} (h : Blk u b T xs) {row : Option Nat} (hg : u.grownBy u' row) (hne : some b ≠ row) : Blk u' b T xs := by
  have hl := h.lt
  obtain ⟨cur, h1, h2⟩ := h
  exact ⟨cur, (hg.block b hl hne).trans h1, h2⟩
theorem Blk.below {u u' : World} {b : Nat} {T : TypeId} {xs : List Value} (h : Blk u b T xs) (hb : Below u.heap.size u u') : Blk u' b T xs := by
  have hl := h.lt
  obtain ⟨cur, h1, h2⟩ := h
  exact ⟨cur, (hb.block b hl).trans h1, h2⟩
theorem Blk.set {u : World} {b : Nat} {T : TypeId} {xs : List Value} (h : Blk u b T xs) (j : Nat) (v : Value) (hj : j < xs.length) : Blk (u.setCell ⟨b, j, none⟩ v) b T (xs.set j v) := by
  obtain ⟨cur, h1, h2⟩ := h
  refine ⟨cur.setIfInBounds j v, heap_setCell_same u b j cur T v h1, fun i x hx => ?_⟩
  rw [Array.getElem?_setIfInBounds]
  rw [List.getElem?_set] at hx
  have hjs : j < cur.size := by
    have := h2 j xs[j] (List.getElem?_eq_getElem hj)
    exact (Array.getElem?_eq_some_iff.1 this).1
  by_cases hij : j = i
  · rw [if_pos hij] at hx ⊢
    rw [if_pos (hij ▸ hj)] at hx
    rw [if_pos (hij ▸ hjs)]
    exact hx
  · rw [if_neg hij] at hx ⊢
    exact h2 i x hx
theorem Blk.other {u : World} {b b' : Nat} {T : TypeId} {xs : List Value} (h : Blk u b T xs) (j : Nat) (v : Value) (hne : b ≠ b') : Blk (u.setCell ⟨b', j, none⟩ v) b T xs := h.kept (gb_set u b' j v) (by simpa using hne)

def sD : List EntD := [fileE ⟨#[97]⟩ 1, fileE ⟨#[98]⟩ 2]
set_option maxHeartbeats 2000000 in
/-- join. -/
theorem join_any {u : World} {P A B : Nat} {T : TypeId} {sv tv : Value} {to fr : List Value} (hp : Blk u P T [sv, tv, .bool false, .slice (some ⟨A, 0, none⟩) 2 2, .slice (some ⟨B, 0, none⟩) 2 2]) (ha : Blk u A 3 to) (hb : Blk u B 3 fr) (hta : to.length = 2) (hfb : fr.length = 2) (i j : Nat) (hi : i < 2) (hj : j < 2) (hne : A ≠ B) (hT : T ≠ 3) :
    Calls Tryz.prog 187 #[.pointer (some ⟨P, 0, none⟩), .int .i64 i, .int .i64 j] u fun e w' => e = .returned (.tuple #[]) ∧ Blk w' A 3 (to.set i (.int .i64 j)) ∧ Blk w' B 3 (fr.set j (.int .i64 i)) ∧ ∃ u1, u.grownBy u1 (some A) ∧ u1.grownBy w' (some B) := by
  have c0 := hp.cell 0 rfl
  have c3 := hp.cell 3 rfl
  have c4 := hp.cell 4 rfl
  have x1 := ha.cell i (List.getElem?_eq_getElem (by omega))
  have x2 := hb.cell j (List.getElem?_eq_getElem (by omega))
  have y2 := (hb.other (b' := A) i (.int .i64 j) (fun e => hne e.symm)).cell j (List.getElem?_eq_getElem (by omega))
  have f1 := ha.frozen i
  have f2 := (hb.other (b' := A) i (.int .i64 j) (fun e => hne e.symm)).frozen j
  have n1 := hp.ne ha hT
  have n2 := hp.ne hb hT
  have n3 : ¬ A = P := fun e => n1 e.symm
  have n4 : ¬ B = P := fun e => n2 e.symm
  have hi0 : (0 : Int) ≤ (i : Int) := by omega
  have hi1 : (i : Int) < 2 := by omega
  have hj0 : (0 : Int) ≤ (j : Int) := by omega
  have hj1 : (j : Int) < 2 := by omega
  go_enter Tryz.func187, Tryz.ntmps187
  go_wp2
  go_region_held3 (fun u => u.cell? ⟨P, 3, none⟩ = some (.slice (some ⟨A, 0, none⟩) 2 2) ∧ u.cell? ⟨P, 4, none⟩ = some (.slice (some ⟨B, 0, none⟩) 2 2)) (go_keep) (first | fail)
  refine bodyPost_end (results_none rfl _ _ _) rfl ?_
  have e1 := ha.set i (.int .i64 j) (by omega)
  have e2 := hb.other (b' := A) i (.int .i64 j) (fun e => hne e.symm)
  have e3 := e1.other (b' := B) j (.int .i64 i) hne
  have e4 := e2.set j (.int .i64 i) (by omega)
  exact ⟨rfl, e3, e4, u.setCell ⟨A, i, none⟩ (.int .i64 j), gb_set _ _ _ _, (gb_set _ B j (.int .i64 i)).trans ⟨rfl, rfl, rfl, Nat.le_refl _, fun _ _ _ => rfl⟩⟩

def sC : List Value := [.string ⟨#[97]⟩, .bool false, .int .i64 1, .int .i64 3, .int .i64 0, .string ⟨#[98]⟩, .bool false, .int .i64 2, .int .i64 3, .int .i64 0]
def tC : List Value := [.string ⟨#[97]⟩, .bool false, .int .i64 2, .int .i64 3, .int .i64 0, .string ⟨#[98]⟩, .bool false, .int .i64 1, .int .i64 3, .int .i64 0]
/-- The two trees, where they lie. -/
structure Inp (u : World) (bs bt : Nat) : Prop where
  s : Blk u bs 56 sC
  t : Blk u bt 56 tC
theorem Inp.below {u u' : World} {bs bt : Nat} (h : Inp u bs bt) (hb : Below u.heap.size u u') : Inp u' bs bt := ⟨h.s.below hb, h.t.below hb⟩
theorem Inp.kept {u u' : World} {bs bt : Nat} (h : Inp u bs bt) {row : Option Nat} (hg : u.grownBy u' row) (h1 : some bs ≠ row) (h2 : some bt ≠ row) : Inp u' bs bt := ⟨h.s.kept hg h1, h.t.kept hg h2⟩
theorem ents_of {u : World} {b : Nat} {x y : EntD} (h : Blk u b 56 (x.cells ++ y.cells)) : EntsAt u b 0 [x, y] := by
  intro k hk j v hv
  have hk' : k < 2 := hk
  match k, hk' with
  | 0, _ =>
    have hj : j < 5 := by have := (List.getElem?_eq_some_iff.1 hv).1; simpa [EntD.cells] using this
    have e : 0 + 0 * 5 + j = j := by omega
    rw [e]
    refine h.cell j ?_
    rw [List.getElem?_append_left (by simpa [EntD.cells] using hj)]
    exact hv
  | 1, _ =>
    have e : 0 + 1 * 5 + j = 5 + j := by omega
    rw [e]
    refine h.cell (5 + j) ?_
    rw [List.getElem?_append_right (by simp [EntD.cells])]
    have e2 : 5 + j - x.cells.length = j := by simp [EntD.cells]
    rw [e2]
    exact hv
theorem Inp.es {u : World} {bs bt : Nat} (h : Inp u bs bt) : EntsAt u bs 0 sD := ents_of h.s
theorem below_drewNB {B : Nat} (u : World) (n : Nat) : Below B u (u.drewN n) := ⟨rfl, rfl, rfl, Nat.le_refl _, fun _ _ => rfl⟩
theorem below_drewB (u : World) : Below u.heap.size u u.drew := ⟨rfl, rfl, rfl, Nat.le_refl _, fun _ _ => rfl⟩
/-- An entry's own box. -/
theorem box_below (u : World) (cs : Array Value) (T : TypeId) : Below u.heap.size u (u.alloc (.cells cs T)) := (Below.refl _ _).alloc (Nat.le_refl _) _

end Go.Proofs.YtpjjagalekolaaaGreatDoor

/- The planner at two files that change their names: each becomes the other. -/
namespace Go.Proofs.YtpjjagalekolaaaGreatDoor
open Go.RowKit
set_option linter.unusedVariables false
set_option linter.unusedSimpArgs false

/-- A match in memory. -/
structure Mst (u : World) (P A B bs bt : Nat) (T : TypeId) (to fr : List Value) : Prop where
  p : Blk u P T [.slice (some ⟨bs, 0, none⟩) 2 2, .slice (some ⟨bt, 0, none⟩) 2 2, .bool false, .slice (some ⟨A, 0, none⟩) 2 2, .slice (some ⟨B, 0, none⟩) 2 2]
  a : Blk u A 3 to
  b : Blk u B 3 fr
  i : Inp u bs bt
theorem Mst.below {u u' : World} {P A B bs bt : Nat} {T : TypeId} {to fr : List Value} (h : Mst u P A B bs bt T to fr) (hb : Below u.heap.size u u') : Mst u' P A B bs bt T to fr := ⟨h.p.below hb, h.a.below hb, h.b.below hb, h.i.below hb⟩
/-- Number i becomes number j. -/
theorem Mst.join {u : World} {P A B bs bt : Nat} {T : TypeId} {to fr : List Value} (h : Mst u P A B bs bt T to fr) (hta : to.length = 2) (hfb : fr.length = 2) (i j : Nat) (hi : i < 2) (hj : j < 2) (hne : A ≠ B) (hT : T ≠ 3) :
    Calls Tryz.prog 187 #[.pointer (some ⟨P, 0, none⟩), .int .i64 i, .int .i64 j] u fun e w' => e = .returned (.tuple #[]) ∧ Mst w' P A B bs bt T (to.set i (.int .i64 j)) (fr.set j (.int .i64 i)) ∧ ∃ u1, u.grownBy u1 (some A) ∧ u1.grownBy w' (some B) := by
  refine (join_any h.p h.a h.b hta hfb i j hi hj hne hT).mono ?_
  rintro e w' ⟨rfl, ha, hb, u1, g1, g2⟩
  have n1 := h.p.ne h.a hT
  have n2 := h.p.ne h.b hT
  have n3 := h.i.s.ne h.a (by decide)
  have n4 := h.i.s.ne h.b (by decide)
  have n5 := h.i.t.ne h.a (by decide)
  have n6 := h.i.t.ne h.b (by decide)
  exact ⟨rfl, ⟨(h.p.kept g1 (by simpa using n1)).kept g2 (by simpa using n2), ha, hb, (h.i.kept g1 (by simpa using n3) (by simpa using n5)).kept g2 (by simpa using n4) (by simpa using n6)⟩, u1, g1, g2⟩
theorem grown2_below {w0 u u1 w' : World} {A B : Nat} (hb : Below w0.heap.size w0 u) (g1 : u.grownBy u1 (some A)) (g2 : u1.grownBy w' (some B)) (hA : w0.heap.size ≤ A) (hB : w0.heap.size ≤ B) : Below w0.heap.size w0 w' := by
  have h1 := hb.grown g1 hb.size (fun k e => by cases e; exact hA)
  exact h1.grown g2 h1.size (fun k e => by cases e; exact hB)

end Go.Proofs.YtpjjagalekolaaaGreatDoor

/- The planner at two files that change their names: the match, and a draft in memory. -/
namespace Go.Proofs.YtpjjagalekolaaaGreatDoor
open Go.RowKit
set_option linter.unusedVariables false
set_option linter.unusedSimpArgs false

theorem below_set {B : Nat} {w u : World} (h : Below B w u) (b j : Nat) (v : Value) (hB : B ≤ u.heap.size) (hb : B ≤ b) : Below B w (u.setCell ⟨b, j, none⟩ v) := h.grown (gb_set u b j v) hB (fun k e => by cases e; exact hb)

end Go.Proofs.YtpjjagalekolaaaGreatDoor

/- Looking for a content where there is nothing. -/
namespace Go.Proofs.YtpjjagalekolaaaGreatDoor
open Go.RowKit
set_option linter.unusedVariables false
set_option linter.unusedSimpArgs false

set_option maxHeartbeats 1000000 in
theorem indexFunc107_nil (P0 : Addr) (w : World) :
    Calls Tryz.prog 181 #[.slice none 0 0, .func (.func 182) #[] #[.pointer (some P0)]] w fun e w' => e = .returned (.int .i64 (-1)) ∧ w' = w := by
  go_enter Tryz.func181, Tryz.ntmps181
  go_wp2
  refine wp_loop_rounds 1 ?_
  rw [rounds_succ]
  go_wp2
  go_ret
  exact ⟨rfl, rfl⟩
set_option maxHeartbeats 1000000 in
theorem findId_nil (id : Int) (w : World) :
    Calls Tryz.prog 139 #[.slice none 0 0, .int .i64 id] w fun e w' => e = .returned (.int .i64 (-1)) ∧ Below w.heap.size w w' := by
  have hmf : ∀ (fn : Fn) (first cap : Array Value) (w : World), (Instr.makeFunc fn first cap).run Tryz.prog w = .ok (.func fn first cap) w := fun _ _ _ _ => rfl
  go_enter Tryz.func139, Tryz.ntmps139
  go_wp2_with (go_at_call 181; refine (indexFunc107_nil _ _).mono ?_; rintro e w1 ⟨rfl, rfl⟩)
  go_ret
  exact ⟨rfl, (Below.refl _ _).alloc (Nat.le_refl _) _⟩
end Go.Proofs.YtpjjagalekolaaaGreatDoor

