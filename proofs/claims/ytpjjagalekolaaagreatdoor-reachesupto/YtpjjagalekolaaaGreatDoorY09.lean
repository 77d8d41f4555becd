/- KA, KB, KC, KD, OC0: in one text. -/
import Derived.Test.YtpjjagalekolaaaGreatDoorY07
import Derived.LoopN
import Derived.Laws.OwnMore
import Derived.Deep.RegionHeld3
import Derived.Laws.CopyRow
import Derived.Deep.WholeRow
import Derived.WalkMore
import Derived.Deep.RegionHeld
/- Small things of the planner: a file's entry, an entry by its content, numbers. -/
namespace Go.Proofs.YtpjjagalekolaaaGreatDoor
open Go.RowKit
set_option linter.unusedVariables false
set_option linter.unusedSimpArgs false

theorem results_cell1 {fn : Func} {p : Tmp} {ty : TypeId} (h : fn.results = #[.cell p ty]) (tmps : Array Value) (P : Program) (w : World) :
    (results fn tmps).run P w = ((asAddr (tmps.getD p undef)).run P w).andThen fun a w₁ => (loadVar ty a).run P w₁ := by
  simp only [results, h]
  simp [Sem.run_bind, Result.andThen]

def fileE (p : ByteArray) (id : Int) : EntD := ⟨p, false, id, 3, 0⟩
theorem cells_box (w : World) (cs : Array Value) (t : TypeId) (j : Nat) : (w.alloc (.cells cs t)).cell? ⟨w.heap.size, j, none⟩ = cs[j]? := Lib.cell_of_heap (heap_alloc_new w _) j
set_option maxHeartbeats 1000000 in
theorem file_any (p : ByteArray) (id : Int) (w : World) :
    Calls Tryz.prog 47 #[.string p, .int .i64 id] w fun e w' => e = .returned (.agg #[.string p, .bool false, .int .i64 id, .int .i64 3, .int .i64 0]) ∧ Below w.heap.size w w' := by
  go_enter Tryz.func47, Tryz.ntmps47
  go_wp2
  refine bodyPost_ret (v := .agg #[.string p, .bool false, .int .i64 id, .int .i64 3, .int .i64 0]) ?_ rfl ⟨rfl, (Below.refl _ _).alloc (Nat.le_refl _) _⟩
  rw [results_cell1 rfl]
  have z := cells_box w #[.string p, .bool false, .int .i64 id, .int .i64 3, .int .i64 0] 56
  have z0 := z 0
  have z1 := z 1
  have z2 := z 2
  have z3 := z 3
  have z4 := z 4
  simp at z0 z1 z2 z3 z4
  clear z
  go_simp

/-- FindId's question. -/
theorem findId1 (P : Nat) (id : Int) (o : EntD) (w : World) (hc : w.cell? ⟨P, 0, none⟩ = some (.int .i64 id)) (hP : P < w.heap.size) :
    Calls Tryz.prog 182 #[.agg #[.string o.path, .bool o.dir, .int .i64 o.id, .int .i64 o.size, .int .i64 o.mode], .pointer (some ⟨P, 0, none⟩)] w fun e w' => e = .returned (.bool (o.id == id)) ∧ Below w.heap.size w w' := by
  have hc' := past1 hP hc
  go_enter Tryz.func182, Tryz.ntmps182
  go_wp2
  go_ret
  exact ⟨rfl, (Below.refl _ _).alloc (Nat.le_refl _) _⟩
set_option maxHeartbeats 1000000 in
theorem indexFunc76 (b off cap : Nat) (l : List EntD) (pr : EntD → Bool) (P0 : Addr) (w : World) (hl : l.length ≤ 2000000) (hs : ∀ o ∈ l, o.small) (hb : b < w.heap.size) (hc : EntsAt w b off l)
    (hcl : ∀ (o : EntD) (wr : World), o.small → Below w.heap.size w wr → Calls Tryz.prog 182 #[.agg #[.string o.path, .bool o.dir, .int .i64 o.id, .int .i64 o.size, .int .i64 o.mode], .pointer (some P0)] wr fun e w' => e = .returned (.bool (pr o)) ∧ Below wr.heap.size wr w') :
    Calls Tryz.prog 181 #[.slice (some ⟨b, off, none⟩) l.length cap, .func (.func 182) #[] #[.pointer (some P0)]] w fun e w' => e = .returned (.int .i64 (fstI pr l)) ∧ Below w.heap.size w w' := by
  have HCL : Hid (∀ (o : EntD) (wr : World), o.small → Below w.heap.size w wr → Calls Tryz.prog 182 #[.agg #[.string o.path, .bool o.dir, .int .i64 o.id, .int .i64 o.size, .int .i64 o.mode], .pointer (some P0)] wr fun e w' => e = .returned (.bool (pr o)) ∧ Below wr.heap.size wr w') := hcl
  clear hcl
  go_enter Tryz.func181, Tryz.ntmps181
  go_wp2
  go_loopw [8] (fun i wr => ∃ k : Nat, k ≤ l.length ∧ i = .int .i64 k ∧ (l.take k).any pr = false ∧ Below w.heap.size w wr) (fun i _ => l.length - (intOf i).toNat)
  case atStart => exact ⟨0, Nat.zero_le _, rfl, rfl, Below.refl _ _⟩
  case round =>
    obtain ⟨k, hk, rfl, hd, hbw⟩ := hrel
    have HD : Hid ((l.take k).any pr = false) := hd
    clear hd
    have hbs := hbw.size
    by_cases hlt : k < l.length
    · have HSN : Hid ((l.take (k + 1)).any pr = ((l.take k).any pr || pr l[k])) := any_snoc pr l k hlt
      have HHT : Hid (pr l[k] = true → fstI pr l = k) := fun h => fstI_hit pr l k hlt h HD.out
      have hcw := (hc.below hbw hb) k hlt
      have hsm := hs _ (List.getElem_mem hlt)
      generalize l[k] = o at *
      have c0 := hcw 0 _ rfl
      have c1 := hcw 1 _ rfl
      have c2 := hcw 2 _ rfl
      have c3 := hcw 3 _ rfl
      have c4 := hcw 4 _ rfl
      simp only [Nat.add_zero] at c0
      clear hcw
      by_cases hp : pr o = true
      · go_wp2_with (go_at_call 182; refine (HCL.out o _ hsm hbw).mono ?_; rintro e w1 ⟨rfl, hb1⟩; rw [hp])
        go_ret
        exact ⟨by rw [HHT.out hp]; rfl, hbw.trans (hb1.mono hbs)⟩
      · simp only [Bool.not_eq_true] at hp
        go_wp2_with (go_at_call 182; refine (HCL.out o _ hsm hbw).mono ?_; rintro e w1 ⟨rfl, hb1⟩; rw [hp])
        exact ⟨⟨k + 1, by omega, by go_num, by rw [HSN.out, HD.out, hp]; rfl, hbw.trans (hb1.mono hbs)⟩, by simp [intOf]; omega⟩
    · go_wp2
      go_ret
      refine ⟨?_, hbw⟩
      have h := HD.out
      rw [List.take_of_length_le (by omega)] at h
      rw [fstI_none pr l h]; rfl

theorem findId_any (b off cap : Nat) (l : List EntD) (id : Int) (w : World) (hl : l.length ≤ 2000000) (hs : ∀ o ∈ l, o.small) (hb : b < w.heap.size) (hc : EntsAt w b off l) :
    Calls Tryz.prog 139 #[.slice (some ⟨b, off, none⟩) l.length cap, .int .i64 id] w fun e w' => e = .returned (.int .i64 (fstI (fun o => o.id == id) l)) ∧ Below w.heap.size w w' := by
  have hmf : ∀ (fn : Fn) (first cap : Array Value) (w : World), (Instr.makeFunc fn first cap).run Tryz.prog w = .ok (.func fn first cap) w := fun _ _ _ _ => rfl
  have hb1 : Below w.heap.size w (w.alloc (.cells #[.int .i64 id] 3)) := (Below.refl _ _).alloc (Nat.le_refl _) _
  have z := cells_box w #[.int .i64 id] 3 0
  have H := hidD (indexFunc76 b off cap l (fun o => o.id == id) ⟨w.heap.size, 0, none⟩ (w.alloc (.cells #[.int .i64 id] 3)) hl hs (by simp; omega) (hc.below hb1 hb) (fun o wr _ hw => findId1 w.heap.size id o wr (cell_kept hw (by simp) z) (by have := hw.size; simp at this; omega)))
  clear z
  go_enter Tryz.func139, Tryz.ntmps139
  go_wp2_with (go_at_call 181; refine H.out.mono ?_; rintro e w1 ⟨rfl, hb2⟩)
  go_ret
  exact ⟨rfl, hb1.trans (hb2.mono (by simp))⟩

/-- Two entries in a row of their own. -/
theorem two_at (w : World) (a b : EntD) : EntsAt (w.alloc (.cells #[.string a.path, .bool a.dir, .int .i64 a.id, .int .i64 a.size, .int .i64 a.mode, .string b.path, .bool b.dir, .int .i64 b.id, .int .i64 b.size, .int .i64 b.mode] 56)) w.heap.size 0 [a, b] := by
  intro k hk j v hv
  have z := cells_box w #[.string a.path, .bool a.dir, .int .i64 a.id, .int .i64 a.size, .int .i64 a.mode, .string b.path, .bool b.dir, .int .i64 b.id, .int .i64 b.size, .int .i64 b.mode] 56
  have hk' : k < 2 := hk
  rw [z]
  match k, hk' with
  | 0, _ =>
    match j with
    | 0 => simpa [EntD.cells] using hv
    | 1 => simpa [EntD.cells] using hv
    | 2 => simpa [EntD.cells] using hv
    | 3 => simpa [EntD.cells] using hv
    | 4 => simpa [EntD.cells] using hv
    | n + 5 => simp [EntD.cells] at hv
  | 1, _ =>
    match j with
    | 0 => simpa [EntD.cells] using hv
    | 1 => simpa [EntD.cells] using hv
    | 2 => simpa [EntD.cells] using hv
    | 3 => simpa [EntD.cells] using hv
    | 4 => simpa [EntD.cells] using hv
    | n + 5 => simp [EntD.cells] at hv

set_option maxHeartbeats 2000000 in
theorem mul64_12 (w : World) : Calls Tryz.prog 210 #[.int .u64 1, .int .u64 2] w fun e w' => e = .returned (.tuple #[.int .u64 0, .int .u64 2]) ∧ w' = w := by
  go_enter Tryz.func210, Tryz.ntmps210
  go_wp2
  go_ret2
  exact ⟨by kernel_rfl, rfl⟩
set_option maxHeartbeats 2000000 in
theorem mul_12 (w : World) : Calls Tryz.prog 188 #[.int .u64 1, .int .u64 2] w fun e w' => e = .returned (.tuple #[.int .u64 0, .int .u64 2]) ∧ w' = w := by
  go_enter Tryz.func188, Tryz.ntmps188
  go_wp2_with (go_at_call 210; refine (mul64_12 _).mono ?_; rintro e w' ⟨rfl, hw⟩; rw [hw]; clear hw w')
  go_ret2
  exact ⟨rfl, rfl⟩
set_option maxHeartbeats 4000000 in
set_option maxRecDepth 100000 in
/-- So many numbers, none so far: two. -/
theorem repeat2 (w : World) (g : Nat) (hg : w.heap[g]? = some (.cells #[.int .i64 (-1)] 3 (0, 0))) :
    Calls Tryz.prog 149 #[.slice (some ⟨g, 0, none⟩) 1 1, .int .i64 2] w fun e w' => ∃ a, e = .returned (.slice (some ⟨a, 0, none⟩) 2 2) ∧ w.heap.size ≤ a ∧ w'.heap[a]? = some (.cells #[.int .i64 (-1), .int .i64 (-1)] 3 (0, 0)) ∧ Below w.heap.size w w' := by
  have hlt : g < w.heap.size := (Array.getElem?_eq_some_iff.1 hg).1
  have hmk : (Instr.makeSlice 23 (.int .i64 2) (.int .i64 2)).run Tryz.prog w = .ok (.slice (some ⟨w.heap.size, 0, none⟩) 2 2) (w.alloc (.cells #[.int .i64 0, .int .i64 0] 3)) := by kernel_rfl
  have hcp1 : (Builtin.copy_ #[23, 23] 3 #[.slice (some ⟨w.heap.size, 0, none⟩) 2 2, .slice (some ⟨g, 0, none⟩) 1 1]).run Tryz.prog (w.alloc (.cells #[.int .i64 0, .int .i64 0] 3)) = .ok (.int .i64 1) (w.alloc (.cells #[.int .i64 (-1), .int .i64 0] 3)) := by
    have := run_copy_row (P := Tryz.prog) (w.alloc (.cells #[.int .i64 0, .int .i64 0] 3)) 23 23 3 3 w.heap.size 0 2 2 ⟨g, 0, none⟩ 1 1 #[.int .i64 0, .int .i64 0] 3 [.int .i64 (-1)] Tryz.underlying23 (by kernel_rfl) (heap_alloc_new w _) rfl (fun j v hv => by
      match j with
      | 0 =>
        have e : Value.int .i64 (-1) = v := by simpa using hv
        subst e
        have z := Lib.cell_of_heap ((Below.heap_alloc w (.cells #[.int .i64 0, .int .i64 0] 3) g hlt).trans hg) 0
        simpa [Addr.add] using z
      | n + 1 => simp at hv) (by simp) (by simp [Value.oneCell'])
    rw [World.setRow_alloc_new] at this
    exact this
  have hcp2 : (Builtin.copy_ #[23, 23] 3 #[.slice (some ⟨w.heap.size, 1, none⟩) 1 1, .slice (some ⟨w.heap.size, 0, none⟩) 1 2]).run Tryz.prog (w.alloc (.cells #[.int .i64 (-1), .int .i64 0] 3)).drew = .ok (.int .i64 1) ((w.alloc (.cells #[.int .i64 (-1), .int .i64 0] 3)).drew.setRow w.heap.size #[.int .i64 (-1), .int .i64 (-1)]) := by
    exact run_copy_row (P := Tryz.prog) (w.alloc (.cells #[.int .i64 (-1), .int .i64 0] 3)).drew 23 23 3 3 w.heap.size 1 1 1 ⟨w.heap.size, 0, none⟩ 1 2 #[.int .i64 (-1), .int .i64 0] 3 [.int .i64 (-1)] Tryz.underlying23 (by kernel_rfl) (heap_alloc_new w _) rfl (fun j v hv => by
      match j with
      | 0 =>
        have e : Value.int .i64 (-1) = v := by simpa using hv
        subst e
        exact cells_box w #[.int .i64 (-1), .int .i64 0] 3 0
      | n + 1 => simp at hv) (by simp) (by simp [Value.oneCell'])
  have hW : ∃ W3 : World, (w.alloc (.cells #[.int .i64 (-1), .int .i64 0] 3)).drew.setRow w.heap.size #[.int .i64 (-1), .int .i64 (-1)] = W3 ∧ W3.heap[w.heap.size]? = some (.cells #[.int .i64 (-1), .int .i64 (-1)] 3 (0, 0)) ∧ Below w.heap.size w W3 := by
    refine ⟨_, rfl, ?_, ?_⟩
    · have e : ((w.alloc (.cells #[.int .i64 (-1), .int .i64 0] 3)).drew.setRow w.heap.size #[.int .i64 (-1), .int .i64 (-1)]).heap = ((w.alloc (.cells #[.int .i64 (-1), .int .i64 0] 3)).setRow w.heap.size #[.int .i64 (-1), .int .i64 (-1)]).heap := rfl
      rw [e, World.setRow_alloc_new]
      exact heap_alloc_new w _
    · have hb : Below w.heap.size w ((w.alloc (.cells #[.int .i64 (-1), .int .i64 0] 3)).setRow w.heap.size #[.int .i64 (-1), .int .i64 (-1)]) := by
        rw [World.setRow_alloc_new]
        exact (Below.refl _ _).alloc (Nat.le_refl _) _
      exact ⟨hb.os, hb.tape, hb.output, hb.size, hb.block⟩
  obtain ⟨W3, hW3, hr3, hb3⟩ := hW
  rw [hW3] at hcp2
  clear hW3
  go_enter Tryz.func149, Tryz.ntmps149
  go_wp2_with (go_at_call 188; refine (mul_12 _).mono ?_; rintro e w' ⟨rfl, hw⟩; rw [hw]; clear hw w')
  refine wp_loop_rounds 2 ?_
  rw [rounds_succ]
  go_wp2
  go_region
  all_goals
    go_wp2
    rw [rounds_succ]
    go_wp2
    go_ret
    exact ⟨w.heap.size, rfl, Nat.le_refl _, hr3, hb3⟩
theorem numbers2 (w : World) :
    Calls Tryz.prog 98 #[.int .i64 2] w fun e w' => ∃ a, e = .returned (.slice (some ⟨a, 0, none⟩) 2 2) ∧ w.heap.size ≤ a ∧ w'.heap[a]? = some (.cells #[.int .i64 (-1), .int .i64 (-1)] 3 (0, 0)) ∧ Below w.heap.size w w' := by
  have H := hidD (repeat2 (w.alloc (.cells #[.int .i64 (-1)] 3)) w.heap.size (heap_alloc_new w _))
  go_enter Tryz.func98, Tryz.ntmps98
  go_wp2_with (go_at_call 149; refine H.out.mono ?_; rintro e w1 ⟨a, rfl, ha, hr, hb⟩)
  go_ret
  simp only [World.size_alloc] at ha
  exact ⟨a, rfl, by omega, hr, ((Below.refl _ _).alloc (Nat.le_refl _) _).trans (hb.mono (by simp))⟩
end Go.Proofs.YtpjjagalekolaaaGreatDoor

/- The planner at two files that change their names: which entries become which. -/
namespace Go.Proofs.YtpjjagalekolaaaGreatDoor
open Go.RowKit
set_option linter.unusedVariables false
set_option linter.unusedSimpArgs false

/-- What lies in a block: its cells from the front, as far as they are told. -/
def Blk (u : World) (b : Nat) (T : TypeId) (xs : List Value) : Prop := ∃ cur : Array Value, u.heap[b]? = some (.cells cur T (0, 0)) ∧ ∀ (j : Nat) (v : Value), xs[j]? = some v → cur[j]? = some v
theorem Blk.lt {u : World} {b : Nat} {T : TypeId} {xs : List Value} (h : Blk u b T xs) : b < u.heap.size := by
  obtain ⟨cur, h1, _⟩ := h
  exact (Array.getElem?_eq_some_iff.1 h1).1
theorem Blk.cell {u : World} {b : Nat} {T : TypeId} {xs : List Value} (h : Blk u b T xs) (j : Nat) {v : Value} (hv : xs[j]? = some v) : u.cell? ⟨b, j, none⟩ = some v := by
  obtain ⟨cur, h1, h2⟩ := h
  rw [Lib.cell_of_heap h1]
  exact h2 j v hv
theorem Blk.frozen {u : World} {b : Nat} {T : TypeId} {xs : List Value} (h : Blk u b T xs) (j : Nat) : u.frozen? ⟨b, j, none⟩ = false := by
  obtain ⟨cur, h1, _⟩ := h
  exact frozen_of_row u b j cur T h1
theorem Blk.ne {u : World} {b b' : Nat} {T T' : TypeId} {xs ys : List Value} (h : Blk u b T xs) (h' : Blk u b' T' ys) (hT : T ≠ T') : b ≠ b' := by
  rintro rfl
  obtain ⟨c, h1, _⟩ := h
  obtain ⟨c', h2, _⟩ := h'
  rw [h1] at h2
  simp only [Option.some.injEq, Obj.cells.injEq] at h2
  exact hT h2.2.1
theorem Blk.of {u : World} {b : Nat} {T : TypeId} {cs : Array Value} (h : u.heap[b]? = some (.cells cs T (0, 0))) : Blk u b T cs.toList := ⟨cs, h, fun j v hv => by simpa using hv⟩
theorem Blk.new (u : World) (T : TypeId) (xs : List Value) : Blk (u.alloc (.cells xs.toArray T)) u.heap.size T xs := ⟨xs.toArray, heap_alloc_new u _, fun j v hv => by simpa using hv⟩
theorem Blk.kept {u u' : World} {b : Nat} {T : TypeId} {xs : List Value} (h : Blk u b T xs) {row : Option Nat} (hg : u.grownBy u' row) (hne : some b ≠ row) : Blk u' b T xs := by
  have hl := h.lt
  obtain ⟨cur, h1, h2⟩ := h
  exact ⟨cur, (hg.block b hl hne).trans h1, h2⟩
theorem Blk.below {u u' : World} {b : Nat} {T : TypeId} {xs : List Value} (h : Blk u b T xs) (hb : Below u.heap.size u u') : Blk u' b T xs := by
  have hl := h.lt
  obtain ⟨cur, h1, h2⟩ := h
  exact ⟨cur, (hb.block b hl).trans h1, h2⟩
theorem Blk.set {u : World} {b : Nat} {T : TypeId} {xs : List Value} (h : Blk u b T xs) (j : Nat) (v : Value) (hj : j < xs.length) : Blk (u.setCell ⟨b, j, none⟩ v) b T (xs.set j v) := by
  obtain ⟨cur, h1, h2⟩ := h
  refine ⟨cur.setIfInBounds j v, heap_setCell_same u b j cur T v h1, fun i x hx => ?_⟩
  rw [Array.getElem?_setIfInBounds]
  rw [List.getElem?_set] at hx
  have hjs : j < cur.size := by
    have := h2 j xs[j] (List.getElem?_eq_getElem hj)
    exact (Array.getElem?_eq_some_iff.1 this).1
  by_cases hij : j = i
  · rw [if_pos hij] at hx ⊢
    rw [if_pos (hij ▸ hj)] at hx
    rw [if_pos (hij ▸ hjs)]
    exact hx
  · rw [if_neg hij] at hx ⊢
    exact h2 i x hx
theorem Blk.other {u : World} {b b' : Nat} {T : TypeId} {xs : List Value} (h : Blk u b T xs) (j : Nat) (v : Value) (hne : b ≠ b') : Blk (u.setCell ⟨b', j, none⟩ v) b T xs := h.kept (gb_set u b' j v) (by simpa using hne)

def sD : List EntD := [fileE ⟨#[97]⟩ 1, fileE ⟨#[98]⟩ 2]
def tD : List EntD := [fileE ⟨#[97]⟩ 2, fileE ⟨#[98]⟩ 1]
theorem sD_small : ∀ o ∈ sD, o.small := by
  intro o ho
  simp only [sD, List.mem_cons, List.not_mem_nil, or_false] at ho
  rcases ho with rfl | rfl <;> (unfold EntD.small; decide)
theorem tD_small : ∀ o ∈ tD, o.small := by
  intro o ho
  simp only [tD, List.mem_cons, List.not_mem_nil, or_false] at ho
  rcases ho with rfl | rfl <;> (unfold EntD.small; decide)

set_option maxHeartbeats 2000000 in
/-- join. -/
theorem join_any {u : World} {P A B : Nat} {T : TypeId} {sv tv : Value} {to fr : List Value} (hp : Blk u P T [sv, tv, .bool false, .slice (some ⟨A, 0, none⟩) 2 2, .slice (some ⟨B, 0, none⟩) 2 2]) (ha : Blk u A 3 to) (hb : Blk u B 3 fr) (hta : to.length = 2) (hfb : fr.length = 2) (i j : Nat) (hi : i < 2) (hj : j < 2) (hne : A ≠ B) (hT : T ≠ 3) :
    Calls Tryz.prog 187 #[.pointer (some ⟨P, 0, none⟩), .int .i64 i, .int .i64 j] u fun e w' => e = .returned (.tuple #[]) ∧ Blk w' A 3 (to.set i (.int .i64 j)) ∧ Blk w' B 3 (fr.set j (.int .i64 i)) ∧ ∃ u1, u.grownBy u1 (some A) ∧ u1.grownBy w' (some B) := by
  have c0 := hp.cell 0 rfl
  have c3 := hp.cell 3 rfl
  have c4 := hp.cell 4 rfl
  have x1 := ha.cell i (List.getElem?_eq_getElem (by omega))
  have x2 := hb.cell j (List.getElem?_eq_getElem (by omega))
  have y2 := (hb.other (b' := A) i (.int .i64 j) (fun e => hne e.symm)).cell j (List.getElem?_eq_getElem (by omega))
  have f1 := ha.frozen i
  have f2 := (hb.other (b' := A) i (.int .i64 j) (fun e => hne e.symm)).frozen j
  have n1 := hp.ne ha hT
  have n2 := hp.ne hb hT
  have n3 : ¬ A = P := fun e => n1 e.symm
  have n4 : ¬ B = P := fun e => n2 e.symm
  have hi0 : (0 : Int) ≤ (i : Int) := by omega
  have hi1 : (i : Int) < 2 := by omega
  have hj0 : (0 : Int) ≤ (j : Int) := by omega
  have hj1 : (j : Int) < 2 := by omega
  go_enter Tryz.func187, Tryz.ntmps187
  go_wp2
  go_region_held3 (fun u => u.cell? ⟨P, 3, none⟩ = some (.slice (some ⟨A, 0, none⟩) 2 2) ∧ u.cell? ⟨P, 4, none⟩ = some (.slice (some ⟨B, 0, none⟩) 2 2)) (go_keep) (first | fail)
  refine bodyPost_end (results_none rfl _ _ _) rfl ?_
  have e1 := ha.set i (.int .i64 j) (by omega)
  have e2 := hb.other (b' := A) i (.int .i64 j) (fun e => hne e.symm)
  have e3 := e1.other (b' := B) j (.int .i64 i) hne
  have e4 := e2.set j (.int .i64 i) (by omega)
  exact ⟨rfl, e3, e4, u.setCell ⟨A, i, none⟩ (.int .i64 j), gb_set _ _ _ _, (gb_set _ B j (.int .i64 i)).trans ⟨rfl, rfl, rfl, Nat.le_refl _, fun _ _ _ => rfl⟩⟩

def sC : List Value := [.string ⟨#[97]⟩, .bool false, .int .i64 1, .int .i64 3, .int .i64 0, .string ⟨#[98]⟩, .bool false, .int .i64 2, .int .i64 3, .int .i64 0]
def tC : List Value := [.string ⟨#[97]⟩, .bool false, .int .i64 2, .int .i64 3, .int .i64 0, .string ⟨#[98]⟩, .bool false, .int .i64 1, .int .i64 3, .int .i64 0]
/-- The two trees, where they lie. -/
structure Inp (u : World) (bs bt : Nat) : Prop where
  s : Blk u bs 56 sC
  t : Blk u bt 56 tC
theorem Inp.below {u u' : World} {bs bt : Nat} (h : Inp u bs bt) (hb : Below u.heap.size u u') : Inp u' bs bt := ⟨h.s.below hb, h.t.below hb⟩
theorem Inp.kept {u u' : World} {bs bt : Nat} (h : Inp u bs bt) {row : Option Nat} (hg : u.grownBy u' row) (h1 : some bs ≠ row) (h2 : some bt ≠ row) : Inp u' bs bt := ⟨h.s.kept hg h1, h.t.kept hg h2⟩
theorem ents_of {u : World} {b : Nat} {x y : EntD} (h : Blk u b 56 (x.cells ++ y.cells)) : EntsAt u b 0 [x, y] := by
  intro k hk j v hv
  have hk' : k < 2 := hk
  match k, hk' with
  | 0, _ =>
    have hj : j < 5 := by have := (List.getElem?_eq_some_iff.1 hv).1; simpa [EntD.cells] using this
    have e : 0 + 0 * 5 + j = j := by omega
    rw [e]
    refine h.cell j ?_
    rw [List.getElem?_append_left (by simpa [EntD.cells] using hj)]
    exact hv
  | 1, _ =>
    have e : 0 + 1 * 5 + j = 5 + j := by omega
    rw [e]
    refine h.cell (5 + j) ?_
    rw [List.getElem?_append_right (by simp [EntD.cells])]
    have e2 : 5 + j - x.cells.length = j := by simp [EntD.cells]
    rw [e2]
    exact hv
theorem Inp.es {u : World} {bs bt : Nat} (h : Inp u bs bt) : EntsAt u bs 0 sD := ents_of h.s
theorem Inp.et {u : World} {bs bt : Nat} (h : Inp u bs bt) : EntsAt u bt 0 tD := ents_of h.t
theorem find_s0 : fstI (fun o => sameB false o.path.data.toList (⟨#[97]⟩ : ByteArray).data.toList) sD = 0 := by kernel_rfl
theorem find_s1 : fstI (fun o => sameB false o.path.data.toList (⟨#[98]⟩ : ByteArray).data.toList) sD = 1 := by kernel_rfl
theorem Inp.find0 {u : World} {bs bt : Nat} (h : Inp u bs bt) : Calls Tryz.prog 155 #[.slice (some ⟨bs, 0, none⟩) 2 2, .string ⟨#[97]⟩, .bool false] u fun e w' => e = .returned (.int .i64 0) ∧ Below u.heap.size u w' := by
  have := find_any bs 0 2 sD ⟨#[97]⟩ false u (by decide) sD_small (by decide) h.s.lt h.es
  rwa [find_s0] at this
theorem Inp.find1 {u : World} {bs bt : Nat} (h : Inp u bs bt) : Calls Tryz.prog 155 #[.slice (some ⟨bs, 0, none⟩) 2 2, .string ⟨#[98]⟩, .bool false] u fun e w' => e = .returned (.int .i64 1) ∧ Below u.heap.size u w' := by
  have := find_any bs 0 2 sD ⟨#[98]⟩ false u (by decide) sD_small (by decide) h.s.lt h.es
  rwa [find_s1] at this
theorem below_drewNB {B : Nat} (u : World) (n : Nat) : Below B u (u.drewN n) := ⟨rfl, rfl, rfl, Nat.le_refl _, fun _ _ => rfl⟩
theorem below_drewB (u : World) : Below u.heap.size u u.drew := ⟨rfl, rfl, rfl, Nat.le_refl _, fun _ _ => rfl⟩
/-- An entry's own box. -/
theorem box_below (u : World) (cs : Array Value) (T : TypeId) : Below u.heap.size u (u.alloc (.cells cs T)) := (Below.refl _ _).alloc (Nat.le_refl _) _

set_option maxHeartbeats 4000000 in
set_option maxRecDepth 100000 in
/-- Nothing stays in its place. -/
theorem joinInPlace_swap {u : World} {P A B bs bt : Nat} (hp : Blk u P 160 [.slice (some ⟨bs, 0, none⟩) 2 2, .slice (some ⟨bt, 0, none⟩) 2 2, .bool false, .slice (some ⟨A, 0, none⟩) 2 2, .slice (some ⟨B, 0, none⟩) 2 2]) (I : Inp u bs bt) :
    Calls Tryz.prog 147 #[.pointer (some ⟨P, 0, none⟩)] u fun e w' => e = .returned (.tuple #[]) ∧ Below u.heap.size u w' := by
  have HP := hidD hp
  have HI := hidD I
  have HB := hidD (Below.refl u.heap.size u)
  have c1 := hp.cell 1 rfl
  have t0 := HI.out.t.cell 0 rfl
  have t1 := HI.out.t.cell 1 rfl
  have t2 := HI.out.t.cell 2 rfl
  have t3 := HI.out.t.cell 3 rfl
  have t4 := HI.out.t.cell 4 rfl
  have X := hidD (Blk.new u 56 [.string ⟨#[97]⟩, .bool false, .int .i64 2, .int .i64 3, .int .i64 0])
  have BB := hidD (box_below u #[.string ⟨#[97]⟩, .bool false, .int .i64 2, .int .i64 3, .int .i64 0] 56)
  have HP1 := hidD (HP.out.below BB.out)
  have HI1 := hidD (HI.out.below BB.out)
  have q0 := HP1.out.cell 0 rfl
  have q2 := HP1.out.cell 2 rfl
  have y0 := X.out.cell 0 rfl
  clear hp I
  go_enter Tryz.func147, Tryz.ntmps147
  go_wp2
  refine wp_loop_rounds 3 ?_
  rw [rounds_succ]
  go_wp2
  go_region_held3 (fun v => v.cell? ⟨P, 0, none⟩ = some (.slice (some ⟨bs, 0, none⟩) 2 2) ∧ v.cell? ⟨P, 2, none⟩ = some (.bool false) ∧ v.cell? ⟨u.heap.size, 0, none⟩ = some (.string ⟨#[97]⟩)) (go_keep) (first | (go_at_call 155; refine ((HI1.out.below (below_drewB _)).find0).mono ?_; rintro e w1 ⟨rfl, hb⟩; have HB2 : Hid (Below u.heap.size u w1) := BB.out.trans (((below_drewB _).trans hb).mono BB.out.size); have X2 := hidD (X.out.below ((below_drewB _).trans hb)); have HP2 := hidD (HP.out.below HB2.out); have HI2 := hidD (HI.out.below HB2.out); have r0 := HP2.out.cell 0 rfl; have r2 := HP2.out.cell 2 rfl; have z0 := X2.out.cell 0 rfl; have z1 := X2.out.cell 1 rfl; have z2 := X2.out.cell 2 rfl; have s1 := HI2.out.s.cell 1 rfl; have s2 := HI2.out.s.cell 2 rfl; clear hb))
  go_wp2
  go_quiet (fail)
  go_wp2
  have HB3 : Hid (Below u.heap.size u (w1.drewN nq)) := HB2.out.trans ⟨rfl, rfl, rfl, Nat.le_refl _, fun _ _ => rfl⟩
  have HP3 := hidD (HP.out.below HB3.out)
  have HI3 := hidD (HI.out.below HB3.out)
  clear HP HI X BB HP1 HI1 X2 HP2 HI2 q0 q2 y0 r0 r2 z0 z1 z2 s1 s2 t0 t1 t2 t3 t4 HB2 c1
  generalize w1.drewN nq = u2 at *
  have HP := HP3
  have HI := HI3
  clear HP3 HI3
  have t0 := HI.out.t.cell 5 rfl
  have t1 := HI.out.t.cell 6 rfl
  have t2 := HI.out.t.cell 7 rfl
  have t3 := HI.out.t.cell 8 rfl
  have t4 := HI.out.t.cell 9 rfl
  have X := hidD (Blk.new u2 56 [.string ⟨#[98]⟩, .bool false, .int .i64 1, .int .i64 3, .int .i64 0])
  have BB := hidD (box_below u2 #[.string ⟨#[98]⟩, .bool false, .int .i64 1, .int .i64 3, .int .i64 0] 56)
  have HP1 := hidD (HP.out.below BB.out)
  have HI1 := hidD (HI.out.below BB.out)
  have q0 := HP1.out.cell 0 rfl
  have q2 := HP1.out.cell 2 rfl
  have y0 := X.out.cell 0 rfl
  rw [rounds_succ]
  go_wp2
  go_region_held3 (fun v => v.cell? ⟨P, 0, none⟩ = some (.slice (some ⟨bs, 0, none⟩) 2 2) ∧ v.cell? ⟨P, 2, none⟩ = some (.bool false) ∧ v.cell? ⟨u2.heap.size, 0, none⟩ = some (.string ⟨#[98]⟩)) (go_keep) (first | (go_at_call 155; refine ((HI1.out.below (below_drewB _)).find1).mono ?_; rintro e w2 ⟨rfl, hb⟩; have HB2 : Hid (Below u2.heap.size u2 w2) := BB.out.trans (((below_drewB _).trans hb).mono BB.out.size); have X2 := hidD (X.out.below ((below_drewB _).trans hb)); have HP2 := hidD (HP.out.below HB2.out); have HI2 := hidD (HI.out.below HB2.out); have r0 := HP2.out.cell 0 rfl; have r2 := HP2.out.cell 2 rfl; have z0 := X2.out.cell 0 rfl; have z1 := X2.out.cell 1 rfl; have z2 := X2.out.cell 2 rfl; have s1 := HI2.out.s.cell 6 rfl; have s2 := HI2.out.s.cell 7 rfl; clear hb))
  go_wp2
  go_quiet (fail)
  go_wp2
  rw [rounds_succ]
  go_wp2
  refine bodyPost_end (results_none rfl _ _ _) rfl ?_
  exact ⟨rfl, HB3.out.trans ((HB2.out.trans (below_drewNB w2 _)).mono HB3.out.size)⟩
end Go.Proofs.YtpjjagalekolaaaGreatDoor

/- The planner at two files that change their names: each becomes the other. -/
namespace Go.Proofs.YtpjjagalekolaaaGreatDoor
open Go.RowKit
set_option linter.unusedVariables false
set_option linter.unusedSimpArgs false

/-- A match in memory. -/
structure Mst (u : World) (P A B bs bt : Nat) (T : TypeId) (to fr : List Value) : Prop where
  p : Blk u P T [.slice (some ⟨bs, 0, none⟩) 2 2, .slice (some ⟨bt, 0, none⟩) 2 2, .bool false, .slice (some ⟨A, 0, none⟩) 2 2, .slice (some ⟨B, 0, none⟩) 2 2]
  a : Blk u A 3 to
  b : Blk u B 3 fr
  i : Inp u bs bt
theorem Mst.below {u u' : World} {P A B bs bt : Nat} {T : TypeId} {to fr : List Value} (h : Mst u P A B bs bt T to fr) (hb : Below u.heap.size u u') : Mst u' P A B bs bt T to fr := ⟨h.p.below hb, h.a.below hb, h.b.below hb, h.i.below hb⟩
/-- Number i becomes number j. -/
theorem Mst.join {u : World} {P A B bs bt : Nat} {T : TypeId} {to fr : List Value} (h : Mst u P A B bs bt T to fr) (hta : to.length = 2) (hfb : fr.length = 2) (i j : Nat) (hi : i < 2) (hj : j < 2) (hne : A ≠ B) (hT : T ≠ 3) :
    Calls Tryz.prog 187 #[.pointer (some ⟨P, 0, none⟩), .int .i64 i, .int .i64 j] u fun e w' => e = .returned (.tuple #[]) ∧ Mst w' P A B bs bt T (to.set i (.int .i64 j)) (fr.set j (.int .i64 i)) ∧ ∃ u1, u.grownBy u1 (some A) ∧ u1.grownBy w' (some B) := by
  refine (join_any h.p h.a h.b hta hfb i j hi hj hne hT).mono ?_
  rintro e w' ⟨rfl, ha, hb, u1, g1, g2⟩
  have n1 := h.p.ne h.a hT
  have n2 := h.p.ne h.b hT
  have n3 := h.i.s.ne h.a (by decide)
  have n4 := h.i.s.ne h.b (by decide)
  have n5 := h.i.t.ne h.a (by decide)
  have n6 := h.i.t.ne h.b (by decide)
  exact ⟨rfl, ⟨(h.p.kept g1 (by simpa using n1)).kept g2 (by simpa using n2), ha, hb, (h.i.kept g1 (by simpa using n3) (by simpa using n5)).kept g2 (by simpa using n4) (by simpa using n6)⟩, u1, g1, g2⟩
theorem grown2_below {w0 u u1 w' : World} {A B : Nat} (hb : Below w0.heap.size w0 u) (g1 : u.grownBy u1 (some A)) (g2 : u1.grownBy w' (some B)) (hA : w0.heap.size ≤ A) (hB : w0.heap.size ≤ B) : Below w0.heap.size w0 w' := by
  have h1 := hb.grown g1 hb.size (fun k e => by cases e; exact hA)
  exact h1.grown g2 h1.size (fun k e => by cases e; exact hB)

set_option maxHeartbeats 4000000 in
set_option maxRecDepth 100000 in
theorem joinElsewhere_swap {w0 u : World} {P A B bs bt : Nat} (M : Mst u P A B bs bt 160 [.int .i64 (-1), .int .i64 (-1)] [.int .i64 (-1), .int .i64 (-1)]) (hne : A ≠ B) (hbw : Below w0.heap.size w0 u) (hA : w0.heap.size ≤ A) (hB : w0.heap.size ≤ B) :
    Calls Tryz.prog 148 #[.pointer (some ⟨P, 0, none⟩)] u fun e w' => e = .returned (.tuple #[]) ∧ Mst w' P A B bs bt 160 [.int .i64 1, .int .i64 0] [.int .i64 1, .int .i64 0] ∧ Below w0.heap.size w0 w' := by
  have M0 := hidD M
  have HBW := hidD hbw
  have c1 := M.p.cell 1 rfl
  clear M hbw
  have t0 := M0.out.i.t.cell 0 rfl
  have t1 := M0.out.i.t.cell 1 rfl
  have t2 := M0.out.i.t.cell 2 rfl
  have t3 := M0.out.i.t.cell 3 rfl
  have t4 := M0.out.i.t.cell 4 rfl
  have X1 := hidD (Blk.new u 56 [.string ⟨#[97]⟩, .bool false, .int .i64 2, .int .i64 3, .int .i64 0])
  have BB1 := hidD (box_below u #[.string ⟨#[97]⟩, .bool false, .int .i64 2, .int .i64 3, .int .i64 0] 56)
  have M1 := hidD (M0.out.below BB1.out)
  have a1 := X1.out.cell 1 rfl
  have a4 := M1.out.p.cell 4 rfl
  have ab := M1.out.b.cell 0 rfl
  have a0 := M1.out.p.cell 0 rfl
  go_enter Tryz.func148, Tryz.ntmps148
  go_wp2
  go_step3
  go_wp2
  go_step3
  go_wp2
  refine wp_loop_rounds 3 ?_
  rw [rounds_succ]
  go_wp2
  generalize hU1 : u.alloc (.cells #[.string ⟨#[97]⟩, .bool false, .int .i64 2, .int .i64 3, .int .i64 0] 56) = u1 at *
  have s00 := M1.out.i.s.cell 0 rfl
  have s01 := M1.out.i.s.cell 1 rfl
  have s02 := M1.out.i.s.cell 2 rfl
  have s03 := M1.out.i.s.cell 3 rfl
  have s04 := M1.out.i.s.cell 4 rfl
  have X2 := hidD (Blk.new u1 56 [.string ⟨#[97]⟩, .bool false, .int .i64 1, .int .i64 3, .int .i64 0])
  have BB2 := hidD (box_below u1 #[.string ⟨#[97]⟩, .bool false, .int .i64 1, .int .i64 3, .int .i64 0] 56)
  have M2 := hidD (M1.out.below BB2.out)
  have X2b := hidD (X1.out.below BB2.out)
  have d2 := X2.out.cell 2 rfl
  have d3 := X2b.out.cell 2 rfl
  refine wp_loop_rounds 3 ?_
  rw [rounds_succ]
  go_wp2
  generalize hU2 : u1.alloc (.cells #[.string ⟨#[97]⟩, .bool false, .int .i64 1, .int .i64 3, .int .i64 0] 56) = u2 at *
  clear d2 d3
  have s10 := M2.out.i.s.cell 5 rfl
  have s11 := M2.out.i.s.cell 6 rfl
  have s12 := M2.out.i.s.cell 7 rfl
  have s13 := M2.out.i.s.cell 8 rfl
  have s14 := M2.out.i.s.cell 9 rfl
  have X3 := hidD (Blk.new u2 56 [.string ⟨#[98]⟩, .bool false, .int .i64 2, .int .i64 3, .int .i64 0])
  have BB3 := hidD (box_below u2 #[.string ⟨#[98]⟩, .bool false, .int .i64 2, .int .i64 3, .int .i64 0] 56)
  have M3 := hidD (M2.out.below BB3.out)
  have X3b := hidD (X2b.out.below BB3.out)
  have d2 := X3.out.cell 2 rfl
  have d3 := X3b.out.cell 2 rfl
  have a3 := M3.out.p.cell 3 rfl
  have aa := M3.out.a.cell 1 rfl
  have HB3 := hidD (((HBW.out.trans (BB1.out.mono HBW.out.size)).trans (BB2.out.mono (Nat.le_trans HBW.out.size BB1.out.size))).trans (BB3.out.mono (Nat.le_trans (Nat.le_trans HBW.out.size BB1.out.size) BB2.out.size)))
  rw [rounds_succ]
  go_wp2_with fail
  refine (M3.out.join rfl rfl 1 0 (by decide) (by decide) hne (by decide)).mono ?_
  rintro e v ⟨rfl, M4, v1, g1, g2⟩
  have HBV := hidD (grown2_below HB3.out g1 g2 hA hB)
  have N0 : Hid (Mst v P A B bs bt 160 [.int .i64 (-1), .int .i64 0] [.int .i64 1, .int .i64 (-1)]) := M4
  clear M4 g1 g2 HB3 M0 M1 M2 M3 X1 X2 X2b X3 X3b BB1 BB2 BB3 d2 d3 a0 a1 a3 a4 aa ab t0 t1 t2 t3 t4 s00 s01 s02 s03 s04 s10 s11 s12 s13 s14 c1 HBW hU1 hU2
  go_wp2
  have t0 := N0.out.i.t.cell 5 rfl
  have t1 := N0.out.i.t.cell 6 rfl
  have t2 := N0.out.i.t.cell 7 rfl
  have t3 := N0.out.i.t.cell 8 rfl
  have t4 := N0.out.i.t.cell 9 rfl
  have X1 := hidD (Blk.new v 56 [.string ⟨#[98]⟩, .bool false, .int .i64 1, .int .i64 3, .int .i64 0])
  have BB1 := hidD (box_below v #[.string ⟨#[98]⟩, .bool false, .int .i64 1, .int .i64 3, .int .i64 0] 56)
  have N1 := hidD (N0.out.below BB1.out)
  have a1 := X1.out.cell 1 rfl
  have a4 := N1.out.p.cell 4 rfl
  have ab := N1.out.b.cell 1 rfl
  have a0 := N1.out.p.cell 0 rfl
  rw [rounds_succ]
  go_wp2
  generalize hU1 : v.alloc (.cells #[.string ⟨#[98]⟩, .bool false, .int .i64 1, .int .i64 3, .int .i64 0] 56) = v2 at *
  have s00 := N1.out.i.s.cell 0 rfl
  have s01 := N1.out.i.s.cell 1 rfl
  have s02 := N1.out.i.s.cell 2 rfl
  have s03 := N1.out.i.s.cell 3 rfl
  have s04 := N1.out.i.s.cell 4 rfl
  have X2 := hidD (Blk.new v2 56 [.string ⟨#[97]⟩, .bool false, .int .i64 1, .int .i64 3, .int .i64 0])
  have BB2 := hidD (box_below v2 #[.string ⟨#[97]⟩, .bool false, .int .i64 1, .int .i64 3, .int .i64 0] 56)
  have N2 := hidD (N1.out.below BB2.out)
  have X2b := hidD (X1.out.below BB2.out)
  have d2 := X2.out.cell 2 rfl
  have d3 := X2b.out.cell 2 rfl
  have a3 := N2.out.p.cell 3 rfl
  have aa := N2.out.a.cell 0 rfl
  have HB3 := hidD ((HBV.out.trans (BB1.out.mono HBV.out.size)).trans (BB2.out.mono (Nat.le_trans HBV.out.size BB1.out.size)))
  refine wp_loop_rounds 3 ?_
  rw [rounds_succ]
  go_wp2_with fail
  refine (N2.out.join rfl rfl 0 1 (by decide) (by decide) hne (by decide)).mono ?_
  rintro e v3 ⟨rfl, N3, v4, g1, g2⟩
  have HBV3 := hidD (grown2_below HB3.out g1 g2 hA hB)
  go_wp2
  rw [rounds_succ]
  go_wp2
  rw [Exit.noGoto_normal]
  refine bodyPost_end (results_none rfl _ _ _) rfl ?_
  exact ⟨rfl, N3, HBV3.out⟩
end Go.Proofs.YtpjjagalekolaaaGreatDoor

/- The planner at two files that change their names: the match, and a draft in memory. -/
namespace Go.Proofs.YtpjjagalekolaaaGreatDoor
open Go.RowKit
set_option linter.unusedVariables false
set_option linter.unusedSimpArgs false

theorem below_set {B : Nat} {w u : World} (h : Below B w u) (b j : Nat) (v : Value) (hB : B ≤ u.heap.size) (hb : B ≤ b) : Below B w (u.setCell ⟨b, j, none⟩ v) := h.grown (gb_set u b j v) hB (fun k e => by cases e; exact hb)

set_option maxHeartbeats 4000000 in
set_option maxRecDepth 100000 in
theorem newMatch_swap {w : World} {bs bt : Nat} (I : Inp w bs bt) :
    Calls Tryz.prog 97 #[.slice (some ⟨bs, 0, none⟩) 2 2, .slice (some ⟨bt, 0, none⟩) 2 2, .bool false] w fun e w' => ∃ A B, e = .returned (.agg #[.slice (some ⟨bs, 0, none⟩) 2 2, .slice (some ⟨bt, 0, none⟩) 2 2, .bool false, .slice (some ⟨A, 0, none⟩) 2 2, .slice (some ⟨B, 0, none⟩) 2 2]) ∧ A ≠ B ∧ w.heap.size ≤ A ∧ w.heap.size ≤ B ∧ Blk w' A 3 [.int .i64 1, .int .i64 0] ∧ Blk w' B 3 [.int .i64 1, .int .i64 0] ∧ Below w.heap.size w w' := by
  have HI := hidD I
  have BR := hidD (box_below w #[.slice none 0 0, .slice none 0 0, .bool false, .slice none 0 0, .slice none 0 0] 160)
  have XR := hidD (Blk.new w 160 [.slice none 0 0, .slice none 0 0, .bool false, .slice none 0 0, .slice none 0 0])
  clear I
  go_enter Tryz.func97, Tryz.ntmps97
  go_wp2_with fail
  refine (numbers2 _).mono ?_
  rintro e w2 ⟨A, rfl, hA, rA, hb2⟩
  have BA := hidD (Blk.of rA)
  have HB2 := hidD hb2
  clear rA hb2
  go_wp2_with fail
  refine (numbers2 _).mono ?_
  rintro e w3 ⟨B, rfl, hB, rB, hb3⟩
  have hAlt := BA.out.lt
  have BA3 := hidD (BA.out.below hb3)
  have BB3 := hidD (Blk.of rB)
  have HB3 := hidD (HB2.out.trans (hb3.mono HB2.out.size))
  have hne : A ≠ B := by omega
  clear rB hb3 BA
  generalize hw1 : w.alloc (.cells #[.slice none 0 0, .slice none 0 0, .bool false, .slice none 0 0, .slice none 0 0] 160) = w1 at *
  have hs1 : w1.heap.size = w.heap.size + 1 := by rw [← hw1]; simp
  have h13 := HB3.out.size
  have BM := hidD (box_below w3 #[.slice (some ⟨bs, 0, none⟩) 2 2, .slice (some ⟨bt, 0, none⟩) 2 2, .bool false, .slice (some ⟨A, 0, none⟩) 2 2, .slice (some ⟨B, 0, none⟩) 2 2] 160)
  have XM := hidD (Blk.new w3 160 [.slice (some ⟨bs, 0, none⟩) 2 2, .slice (some ⟨bt, 0, none⟩) 2 2, .bool false, .slice (some ⟨A, 0, none⟩) 2 2, .slice (some ⟨B, 0, none⟩) 2 2])
  have HB4 := hidD (HB3.out.trans (BM.out.mono HB3.out.size))
  have M4 : Hid (Mst (w3.alloc (.cells #[.slice (some ⟨bs, 0, none⟩) 2 2, .slice (some ⟨bt, 0, none⟩) 2 2, .bool false, .slice (some ⟨A, 0, none⟩) 2 2, .slice (some ⟨B, 0, none⟩) 2 2] 160)) w3.heap.size A B bs bt 160 [.int .i64 (-1), .int .i64 (-1)] [.int .i64 (-1), .int .i64 (-1)]) := ⟨XM.out, BA3.out.below BM.out, BB3.out.below BM.out, HI.out.below (BR.out.trans (HB4.out.mono BR.out.size))⟩
  go_wp2_with fail
  refine (joinInPlace_swap M4.out.p M4.out.i).mono ?_
  rintro e w5 ⟨rfl, hb5⟩
  have M5 := hidD (M4.out.below hb5)
  have HB5 := hidD (HB4.out.trans (hb5.mono HB4.out.size))
  clear hb5
  go_wp2_with fail
  refine (joinElsewhere_swap M5.out hne HB5.out (by omega) (by omega)).mono ?_
  rintro e w6 ⟨rfl, M6, hb6⟩
  have HM6 := hidD M6
  have HB6 := hidD hb6
  have HR6 := hidD (XR.out.below hb6)
  have m0 := M6.p.cell 0 rfl
  have m1 := M6.p.cell 1 rfl
  have m2 := M6.p.cell 2 rfl
  have m3 := M6.p.cell 3 rfl
  have m4 := M6.p.cell 4 rfl
  have r0 := HR6.out.cell 0 rfl
  have r1 := HR6.out.cell 1 rfl
  have r2 := HR6.out.cell 2 rfl
  have r3 := HR6.out.cell 3 rfl
  have r4 := HR6.out.cell 4 rfl
  have f0 := HR6.out.frozen 0
  have f1 := HR6.out.frozen 1
  have f2 := HR6.out.frozen 2
  have f3 := HR6.out.frozen 3
  have f4 := HR6.out.frozen 4
  clear M6 hb6
  go_wp2
  have HR7 := ((((HR6.out.set 0 (.slice (some ⟨bs, 0, none⟩) 2 2) (by simp)).set 1 (.slice (some ⟨bt, 0, none⟩) 2 2) (by simp)).set 2 (.bool false) (by simp)).set 3 (.slice (some ⟨A, 0, none⟩) 2 2) (by simp)).set 4 (.slice (some ⟨B, 0, none⟩) 2 2) (by simp)
  have na : A ≠ w.heap.size := fun e => HR6.out.ne HM6.out.a (by decide) e.symm
  have nb : B ≠ w.heap.size := fun e => HR6.out.ne HM6.out.b (by decide) e.symm
  have HA7 := ((((HM6.out.a.other 0 (.slice (some ⟨bs, 0, none⟩) 2 2) na).other 1 (.slice (some ⟨bt, 0, none⟩) 2 2) na).other 2 (.bool false) na).other 3 (.slice (some ⟨A, 0, none⟩) 2 2) na).other 4 (.slice (some ⟨B, 0, none⟩) 2 2) na
  have HB7 := ((((HM6.out.b.other 0 (.slice (some ⟨bs, 0, none⟩) 2 2) nb).other 1 (.slice (some ⟨bt, 0, none⟩) 2 2) nb).other 2 (.bool false) nb).other 3 (.slice (some ⟨A, 0, none⟩) 2 2) nb).other 4 (.slice (some ⟨B, 0, none⟩) 2 2) nb
  have HW6 : Below w.heap.size w w6 := BR.out.trans (HB6.out.mono BR.out.size)
  have hz6 := HW6.size
  refine bodyPost_ret (v := .agg #[.slice (some ⟨bs, 0, none⟩) 2 2, .slice (some ⟨bt, 0, none⟩) 2 2, .bool false, .slice (some ⟨A, 0, none⟩) 2 2, .slice (some ⟨B, 0, none⟩) 2 2]) ?_ rfl ⟨A, B, rfl, hne, by omega, by omega, HA7, HB7, ?_⟩
  · rw [results_cell1 rfl]
    have z0 := HR7.cell 0 rfl
    have z1 := HR7.cell 1 rfl
    have z2 := HR7.cell 2 rfl
    have z3 := HR7.cell 3 rfl
    have z4 := HR7.cell 4 rfl
    clear HR7 HA7 HB7 m0 m1 m2 m3 m4 r0 r1 r2 r3 r4 f0 f1 f2 f3 f4
    generalize World.setCell _ _ _ = W at *
    go_simp
  · exact below_set (below_set (below_set (below_set (below_set HW6 _ _ _ hz6 (Nat.le_refl _)) _ _ _ (by simpa using hz6) (Nat.le_refl _)) _ _ _ (by simpa using hz6) (Nat.le_refl _)) _ _ _ (by simpa using hz6) (Nat.le_refl _)) _ _ _ (by simpa using hz6) (Nat.le_refl _)
end Go.Proofs.YtpjjagalekolaaaGreatDoor

/- Looking for a content where there is nothing. -/
namespace Go.Proofs.YtpjjagalekolaaaGreatDoor
open Go.RowKit
set_option linter.unusedVariables false
set_option linter.unusedSimpArgs false

set_option maxHeartbeats 1000000 in
theorem indexFunc107_nil (P0 : Addr) (w : World) :
    Calls Tryz.prog 181 #[.slice none 0 0, .func (.func 182) #[] #[.pointer (some P0)]] w fun e w' => e = .returned (.int .i64 (-1)) ∧ w' = w := by
  go_enter Tryz.func181, Tryz.ntmps181
  go_wp2
  refine wp_loop_rounds 1 ?_
  rw [rounds_succ]
  go_wp2
  go_ret
  exact ⟨rfl, rfl⟩
set_option maxHeartbeats 1000000 in
theorem findId_nil (id : Int) (w : World) :
    Calls Tryz.prog 139 #[.slice none 0 0, .int .i64 id] w fun e w' => e = .returned (.int .i64 (-1)) ∧ Below w.heap.size w w' := by
  have hmf : ∀ (fn : Fn) (first cap : Array Value) (w : World), (Instr.makeFunc fn first cap).run Tryz.prog w = .ok (.func fn first cap) w := fun _ _ _ _ => rfl
  go_enter Tryz.func139, Tryz.ntmps139
  go_wp2_with (go_at_call 181; refine (indexFunc107_nil _ _).mono ?_; rintro e w1 ⟨rfl, rfl⟩)
  go_ret
  exact ⟨rfl, (Below.refl _ _).alloc (Nat.le_refl _) _⟩
end Go.Proofs.YtpjjagalekolaaaGreatDoor

