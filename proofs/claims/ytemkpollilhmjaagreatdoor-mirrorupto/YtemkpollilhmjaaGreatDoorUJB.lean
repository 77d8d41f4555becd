/- The program's parts of Diff: where a content comes from, which side is next, what a change is. -/
import Derived.Test.YtemkpollilhmjaaGreatDoorUJA
import Derived.Test.YtemkpollilhmjaaGreatDoorU09
import Derived.Deep.RegionHeld
import Derived.Deep.RegionHeld3
namespace Go.Proofs.YtemkpollilhmjaaGreatDoor
open Go.RowKit
set_option linter.unusedVariables false
set_option linter.unusedSimpArgs false

def EntD.agg (o : EntD) : Value := .agg #[.string o.path, .bool o.dir, .int .i64 o.id, .int .i64 o.size, .int .i64 o.mode]
theorem idIs_eq (id : Int) : (fun o : EntD => o.id == id) = idIs id := by
  funext o
  rw [Bool.eq_iff_iff]; simp [idIs]

set_option maxHeartbeats 1000000 in
theorem indexFunc107_nil (P0 : Addr) (w : World) :
    Calls Tryz.prog 75 #[.slice none 0 0, .func (.func 76) #[] #[.pointer (some P0)]] w fun e w' => e = .returned (.int .i64 (-1)) ∧ w' = w := by
  go_enter Tryz.func75, Tryz.ntmps75
  go_wp2
  refine wp_loop_rounds 1 ?_
  rw [rounds_succ]
  go_wp2
  go_ret
  exact ⟨rfl, rfl⟩
set_option maxHeartbeats 1000000 in
theorem findId_nil (id : Int) (w : World) :
    Calls Tryz.prog 50 #[.slice none 0 0, .int .i64 id] w fun e w' => e = .returned (.int .i64 (-1)) ∧ Below w.heap.size w w' := by
  have hmf : ∀ (fn : Fn) (first cap : Array Value) (w : World), (Instr.makeFunc fn first cap).run Tryz.prog w = .ok (.func fn first cap) w := fun _ _ _ _ => rfl
  go_enter Tryz.func50, Tryz.ntmps50
  go_wp2_with (go_at_call 75; refine (indexFunc107_nil _ _).mono ?_; rintro e w1 ⟨rfl, rfl⟩)
  go_ret
  exact ⟨rfl, (Below.refl _ _).alloc (Nat.le_refl _) _⟩

set_option maxHeartbeats 1000000 in
theorem source_any (b off cap : Nat) (S : List EntD) (e : EntD) (w : World) (hl : S.length ≤ 2000000) (hs : ∀ o ∈ S, o.small) (hb : b < w.heap.size) (hc : EntsAt w b off S) :
    Calls Tryz.prog 35 #[.slice (some ⟨b, off, none⟩) S.length cap, .agg #[.string e.path, .bool e.dir, .int .i64 e.id, .int .i64 e.size, .int .i64 e.mode]] w fun r w' => r = .returned (.string (srcB S e)) ∧ Below w.heap.size w w' := by
  obtain ⟨p, d, q, z, m⟩ := e
  have hbx : Below w.heap.size w (w.alloc (.cells #[.string p, .bool d, .int .i64 q, .int .i64 z, .int .i64 m] 54)) := (Below.refl _ _).alloc (Nat.le_refl _) _
  cases d
  · rcases fstI_find (fun o : EntD => o.id == q) S with ⟨hi, hf⟩ | ⟨i, hlt, hi, hf⟩
    · have hv : srcB S ⟨p, false, q, z, m⟩ = ⟨#[]⟩ := by simp only [srcB, ← idIs_eq, hf]; rfl
      have HC := findId_any b off cap S q _ hl hs (by simp; omega) (hc.below hbx hb)
      go_enter Tryz.func35, Tryz.ntmps35
      go_wp2_with (go_at_call 50; refine HC.mono ?_; rintro e w1 ⟨rfl, hb1⟩; rw [hi])
      go_ret
      exact ⟨by rw [hv]; rfl, hbx.trans (hb1.mono (by simp))⟩
    · have hv : srcB S ⟨p, false, q, z, m⟩ = S[i].path := by simp only [srcB, ← idIs_eq, hf]; rfl
      have HC := findId_any b off cap S q _ hl hs (by simp; omega) (hc.below hbx hb)
      have hcell : Hid (∀ u : World, Below w.heap.size w u → u.cell? ⟨b, off + i * 5, none⟩ = some (.string S[i].path)) := fun u hu => (hc.below hu hb) i hlt 0 _ rfl
      go_enter Tryz.func35, Tryz.ntmps35
      go_wp2_with (go_at_call 50; refine HC.mono ?_; rintro e w1 ⟨rfl, hb1⟩; rw [hi]; have k0 := hcell.out w1 (hbx.trans (hb1.mono (by simp))))
      go_ret
      exact ⟨by rw [hv]; rfl, hbx.trans (hb1.mono (by simp))⟩
  · have hv : srcB S ⟨p, true, q, z, m⟩ = ⟨#[]⟩ := rfl
    go_enter Tryz.func35, Tryz.ntmps35
    go_wp2
    go_ret
    exact ⟨by rw [hv]; rfl, hbx⟩
set_option maxHeartbeats 1000000 in
theorem source_nil (e : EntD) (w : World) :
    Calls Tryz.prog 35 #[.slice none 0 0, .agg #[.string e.path, .bool e.dir, .int .i64 e.id, .int .i64 e.size, .int .i64 e.mode]] w fun r w' => r = .returned (.string (srcB [] e)) ∧ Below w.heap.size w w' := by
  obtain ⟨p, d, q, z, m⟩ := e
  have hbx : Below w.heap.size w (w.alloc (.cells #[.string p, .bool d, .int .i64 q, .int .i64 z, .int .i64 m] 54)) := (Below.refl _ _).alloc (Nat.le_refl _) _
  cases d
  · have hv : srcB [] ⟨p, false, q, z, m⟩ = ⟨#[]⟩ := rfl
    go_enter Tryz.func35, Tryz.ntmps35
    go_wp2_with (go_at_call 50; refine (findId_nil _ _).mono ?_; rintro e w1 ⟨rfl, hb1⟩)
    go_ret
    exact ⟨by rw [hv]; rfl, hbx.trans (hb1.mono (by simp))⟩
  · have hv : srcB [] ⟨p, true, q, z, m⟩ = ⟨#[]⟩ := rfl
    go_enter Tryz.func35, Tryz.ntmps35
    go_wp2
    go_ret
    exact ⟨by rw [hv]; rfl, hbx⟩

set_option maxHeartbeats 1000000 in
theorem side_t0 (p1 p2 : Option Addr) (n1 c1 c2 : Nat) (w : World) :
    Calls Tryz.prog 34 #[.slice p1 n1 c1, .slice p2 0 c2] w fun r w' => r = .returned (.int .i64 (-1)) ∧ w' = w := by
  go_enter Tryz.func34, Tryz.ntmps34
  go_wp2
  go_ret
  exact ⟨rfl, rfl⟩
set_option maxHeartbeats 1000000 in
theorem side_s0 (p1 p2 : Option Addr) (n2 c1 c2 : Nat) (w : World) (h : 0 < n2) (hn : n2 ≤ 2000000) :
    Calls Tryz.prog 34 #[.slice p1 0 c1, .slice p2 n2 c2] w fun r w' => r = .returned (.int .i64 1) ∧ w' = w := by
  go_enter Tryz.func34, Tryz.ntmps34
  go_wp2
  go_ret
  exact ⟨rfl, rfl⟩
set_option maxHeartbeats 1000000 in
theorem side_both (b1 o1 b2 o2 n1 n2 c1 c2 : Nat) (p q : ByteArray) (w : World) (h1 : 0 < n1) (h2 : 0 < n2) (hn1 : n1 ≤ 2000000) (hn2 : n2 ≤ 2000000) (hp : p.size ≤ 1500000) (hq : q.size ≤ 1500000)
    (k1 : w.cell? ⟨b1, o1, none⟩ = some (.string p)) (k2 : w.cell? ⟨b2, o2, none⟩ = some (.string q)) :
    Calls Tryz.prog 34 #[.slice (some ⟨b1, o1, none⟩) n1 c1, .slice (some ⟨b2, o2, none⟩) n2 c2] w fun r w' => r = .returned (.int .i64 (cmpL p.data.toList q.data.toList)) ∧ ∃ n, w' = w.drewN n := by
  go_enter Tryz.func34, Tryz.ntmps34
  go_wp2
  go_quiet (first | (go_at_call 49; exact Calls.quiet_of (compare_any _ _ _ (by omega) (by omega))))
  go_wp2
  go_ret
  exact ⟨rfl, _, rfl⟩

set_option maxHeartbeats 2000000 in
theorem change_moded (p1 : Option Addr) (n1 c1 : Nat) (a c : EntD) (w : World) (hd : a.dir = c.dir) (hi : a.id = c.id) (hz : a.size = c.size) :
    Calls Tryz.prog 36 #[.slice p1 n1 c1, .agg #[.string a.path, .bool a.dir, .int .i64 a.id, .int .i64 a.size, .int .i64 a.mode], .agg #[.string c.path, .bool c.dir, .int .i64 c.id, .int .i64 c.size, .int .i64 c.mode]] w fun r w' => r = .returned (.agg #[.string c.path, .int .i64 5, .string ⟨#[]⟩]) ∧ Below w.heap.size w w' := by
  obtain ⟨pa, da, ia, za, ma⟩ := a
  obtain ⟨pc, dc, ic, zc, mc⟩ := c
  dsimp only at *
  subst hd hi hz
  go_enter Tryz.func36, Tryz.ntmps36
  go_wp2
  refine bodyPost_ret (v := .agg #[.string pc, .int .i64 5, .string ⟨#[]⟩]) (by simp [results, Tryz.results36, go_sem]) rfl ⟨rfl, ?_⟩
  exact (((Below.refl _ _).alloc (Nat.le_refl _) _).alloc (by simp) _).alloc (by simp; omega) _

/-- The boxes of the two entries and of the result. -/
structure Bx (w : World) (a c : EntD) (u : World) : Prop where
  bel : Below w.heap.size w u
  bc : u.heap[w.heap.size + 1]? = some (.cells #[.string c.path, .bool c.dir, .int .i64 c.id, .int .i64 c.size, .int .i64 c.mode] 54 (0, 0))
  br : u.heap[w.heap.size + 2]? = some (.cells #[.string ⟨#[]⟩, .int .i64 0, .string ⟨#[]⟩] 45 (0, 0))
theorem Bx.start (w : World) (a c : EntD) : Bx w a c (((w.alloc (.cells #[.string a.path, .bool a.dir, .int .i64 a.id, .int .i64 a.size, .int .i64 a.mode] 54)).alloc (.cells #[.string c.path, .bool c.dir, .int .i64 c.id, .int .i64 c.size, .int .i64 c.mode] 54)).alloc (.cells #[.string ⟨#[]⟩, .int .i64 0, .string ⟨#[]⟩] 45)).drew where
  bel := ((((Below.refl _ _).alloc (Nat.le_refl _) _).alloc (by simp) _).alloc (by simp; omega) _).trans ⟨rfl, rfl, rfl, Nat.le_refl _, fun _ _ => rfl⟩
  bc := by
    show (World.alloc _ _).heap[_]? = _
    rw [(World.grownBy_alloc _ _ none).block _ (by simp) (by simp)]
    have := heap_alloc_new (w.alloc (.cells #[.string a.path, .bool a.dir, .int .i64 a.id, .int .i64 a.size, .int .i64 a.mode] 54)) (.cells #[.string c.path, .bool c.dir, .int .i64 c.id, .int .i64 c.size, .int .i64 c.mode] 54)
    rwa [World.size_alloc] at this
  br := by
    show (World.alloc _ _).heap[_]? = _
    have := heap_alloc_new ((w.alloc (.cells #[.string a.path, .bool a.dir, .int .i64 a.id, .int .i64 a.size, .int .i64 a.mode] 54)).alloc (.cells #[.string c.path, .bool c.dir, .int .i64 c.id, .int .i64 c.size, .int .i64 c.mode] 54)) (.cells #[.string ⟨#[]⟩, .int .i64 0, .string ⟨#[]⟩] 45)
    rwa [World.size_alloc, World.size_alloc] at this
theorem Bx.below {w u u' : World} {a c : EntD} (h : Bx w a c u) (hb : Below u.heap.size u u') : Bx w a c u' :=
  ⟨h.bel.trans (hb.mono h.bel.size), (hb.block _ (Array.getElem?_eq_some_iff.1 h.bc).1).trans h.bc, (hb.block _ (Array.getElem?_eq_some_iff.1 h.br).1).trans h.br⟩
theorem Bx.cell {w u : World} {a c : EntD} (h : Bx w a c u) (j : Nat) : u.cell? ⟨w.heap.size + 1, j, none⟩ = c.cells[j]? := by
  rw [Lib.cell_of_heap h.bc]; simp [EntD.cells]
theorem Bx.res {w u : World} {a c : EntD} (h : Bx w a c u) (j : Nat) : u.cell? ⟨w.heap.size + 2, j, none⟩ = [Value.string ⟨#[]⟩, .int .i64 0, .string ⟨#[]⟩][j]? ∧ u.frozen? ⟨w.heap.size + 2, j, none⟩ = false := by
  refine ⟨by rw [Lib.cell_of_heap h.br]; simp, by simp [World.frozen?, h.br]⟩

set_option maxRecDepth 4000 in
set_option maxHeartbeats 4000000 in
theorem change_turned (p1 : Option Addr) (n1 c1 : Nat) (a c : EntD) (src : ByteArray) (w : World) (hd : a.dir ≠ c.dir)
    (HS : Hid (∀ u : World, Below w.heap.size w u → Calls Tryz.prog 35 #[.slice p1 n1 c1, .agg #[.string c.path, .bool c.dir, .int .i64 c.id, .int .i64 c.size, .int .i64 c.mode]] u fun r w' => r = .returned (.string src) ∧ Below u.heap.size u w')) :
    Calls Tryz.prog 36 #[.slice p1 n1 c1, .agg #[.string a.path, .bool a.dir, .int .i64 a.id, .int .i64 a.size, .int .i64 a.mode], .agg #[.string c.path, .bool c.dir, .int .i64 c.id, .int .i64 c.size, .int .i64 c.mode]] w fun r w' => r = .returned (.agg #[.string c.path, .int .i64 3, .string src]) ∧ Below w.heap.size w w' := by
  have st := Bx.start w a c
  obtain ⟨pa, da, ia, za, ma⟩ := a
  obtain ⟨pc, dc, ic, zc, mc⟩ := c
  dsimp only at *
  have hne : (da == dc) = false := by simpa using hd
  have ht := st.bel
  go_enter Tryz.func36, Tryz.ntmps36
  go_wp2
  go_region_held (fun u => u.cell? ⟨w.heap.size + 1, 0, none⟩ = some (.string pc) ∧ u.cell? ⟨w.heap.size + 1, 1, none⟩ = some (.bool dc) ∧ u.cell? ⟨w.heap.size + 1, 2, none⟩ = some (.int .i64 ic) ∧ u.cell? ⟨w.heap.size + 1, 3, none⟩ = some (.int .i64 zc) ∧ u.cell? ⟨w.heap.size + 1, 4, none⟩ = some (.int .i64 mc)) (go_keep) (first | (go_at_call 35; refine (HS.out _ ht).mono ?_; rintro r w1 ⟨rfl, hb1⟩; have s1 := st.below hb1; have k0 := s1.cell 0; have k1 := s1.cell 1; have k2 := s1.cell 2; have k3 := s1.cell 3; have k4 := s1.cell 4; simp [EntD.cells] at k0 k1 k2 k3 k4; have r0 := s1.res 0; have r1 := s1.res 1; have r2 := s1.res 2; simp at r0 r1 r2; have n0 := r0.2; have n1 := r1.2; have n2 := r2.2; replace r0 := r0.1; replace r1 := r1.1; replace r2 := r2.1))
  all_goals go_wp2
  all_goals refine bodyPost_ret (v := .agg #[.string pc, .int .i64 3, .string src]) (by simp [results, Tryz.results36, go_sem, r0, r1, r2]) rfl ⟨rfl, ?_⟩
  all_goals exact ((s1.bel.setCell (by simp; omega) _).setCell (by simp; omega) _).setCell (by simp; omega) _
set_option maxRecDepth 4000 in
set_option maxHeartbeats 4000000 in
theorem change_id (p1 : Option Addr) (n1 c1 : Nat) (a c : EntD) (src : ByteArray) (w : World) (hd : a.dir = c.dir) (hi : a.id ≠ c.id)
    (HS : Hid (∀ u : World, Below w.heap.size w u → Calls Tryz.prog 35 #[.slice p1 n1 c1, .agg #[.string c.path, .bool c.dir, .int .i64 c.id, .int .i64 c.size, .int .i64 c.mode]] u fun r w' => r = .returned (.string src) ∧ Below u.heap.size u w')) :
    Calls Tryz.prog 36 #[.slice p1 n1 c1, .agg #[.string a.path, .bool a.dir, .int .i64 a.id, .int .i64 a.size, .int .i64 a.mode], .agg #[.string c.path, .bool c.dir, .int .i64 c.id, .int .i64 c.size, .int .i64 c.mode]] w fun r w' => r = .returned (.agg #[.string c.path, .int .i64 4, .string src]) ∧ Below w.heap.size w w' := by
  have st := Bx.start w a c
  obtain ⟨pa, da, ia, za, ma⟩ := a
  obtain ⟨pc, dc, ic, zc, mc⟩ := c
  dsimp only at *
  subst hd
  have hne : (ia == ic) = false := by simpa using hi
  have ht := st.bel
  go_enter Tryz.func36, Tryz.ntmps36
  go_wp2
  go_region_held (fun u => u.cell? ⟨w.heap.size + 1, 0, none⟩ = some (.string pc) ∧ u.cell? ⟨w.heap.size + 1, 1, none⟩ = some (.bool da) ∧ u.cell? ⟨w.heap.size + 1, 2, none⟩ = some (.int .i64 ic) ∧ u.cell? ⟨w.heap.size + 1, 3, none⟩ = some (.int .i64 zc) ∧ u.cell? ⟨w.heap.size + 1, 4, none⟩ = some (.int .i64 mc)) (go_keep) (first | (go_at_call 35; refine (HS.out _ ht).mono ?_; rintro r w1 ⟨rfl, hb1⟩; have s1 := st.below hb1; have k0 := s1.cell 0; have k1 := s1.cell 1; have k2 := s1.cell 2; have k3 := s1.cell 3; have k4 := s1.cell 4; simp [EntD.cells] at k0 k1 k2 k3 k4; have r0 := s1.res 0; have r1 := s1.res 1; have r2 := s1.res 2; simp at r0 r1 r2; have n0 := r0.2; have n1 := r1.2; have n2 := r2.2; replace r0 := r0.1; replace r1 := r1.1; replace r2 := r2.1))
  all_goals go_wp2
  all_goals refine bodyPost_ret (v := .agg #[.string pc, .int .i64 4, .string src]) (by simp [results, Tryz.results36, go_sem, r0, r1, r2]) rfl ⟨rfl, ?_⟩
  all_goals exact ((s1.bel.setCell (by simp; omega) _).setCell (by simp; omega) _).setCell (by simp; omega) _
set_option maxRecDepth 4000 in
set_option maxHeartbeats 4000000 in
theorem change_size (p1 : Option Addr) (n1 c1 : Nat) (a c : EntD) (src : ByteArray) (w : World) (hd : a.dir = c.dir) (hi : a.id = c.id) (hz : a.size ≠ c.size)
    (HS : Hid (∀ u : World, Below w.heap.size w u → Calls Tryz.prog 35 #[.slice p1 n1 c1, .agg #[.string c.path, .bool c.dir, .int .i64 c.id, .int .i64 c.size, .int .i64 c.mode]] u fun r w' => r = .returned (.string src) ∧ Below u.heap.size u w')) :
    Calls Tryz.prog 36 #[.slice p1 n1 c1, .agg #[.string a.path, .bool a.dir, .int .i64 a.id, .int .i64 a.size, .int .i64 a.mode], .agg #[.string c.path, .bool c.dir, .int .i64 c.id, .int .i64 c.size, .int .i64 c.mode]] w fun r w' => r = .returned (.agg #[.string c.path, .int .i64 4, .string src]) ∧ Below w.heap.size w w' := by
  have st := Bx.start w a c
  obtain ⟨pa, da, ia, za, ma⟩ := a
  obtain ⟨pc, dc, ic, zc, mc⟩ := c
  dsimp only at *
  subst hd hi
  have hne : (za == zc) = false := by simpa using hz
  have ht := st.bel
  go_enter Tryz.func36, Tryz.ntmps36
  go_wp2
  go_region_held (fun u => u.cell? ⟨w.heap.size + 1, 0, none⟩ = some (.string pc) ∧ u.cell? ⟨w.heap.size + 1, 1, none⟩ = some (.bool da) ∧ u.cell? ⟨w.heap.size + 1, 2, none⟩ = some (.int .i64 ia) ∧ u.cell? ⟨w.heap.size + 1, 3, none⟩ = some (.int .i64 zc) ∧ u.cell? ⟨w.heap.size + 1, 4, none⟩ = some (.int .i64 mc)) (go_keep) (first | (go_at_call 35; refine (HS.out _ ht).mono ?_; rintro r w1 ⟨rfl, hb1⟩; have s1 := st.below hb1; have k0 := s1.cell 0; have k1 := s1.cell 1; have k2 := s1.cell 2; have k3 := s1.cell 3; have k4 := s1.cell 4; simp [EntD.cells] at k0 k1 k2 k3 k4; have r0 := s1.res 0; have r1 := s1.res 1; have r2 := s1.res 2; simp at r0 r1 r2; have n0 := r0.2; have n1 := r1.2; have n2 := r2.2; replace r0 := r0.1; replace r1 := r1.1; replace r2 := r2.1))
  all_goals go_wp2
  all_goals refine bodyPost_ret (v := .agg #[.string pc, .int .i64 4, .string src]) (by simp [results, Tryz.results36, go_sem, r0, r1, r2]) rfl ⟨rfl, ?_⟩
  all_goals exact ((s1.bel.setCell (by simp; omega) _).setCell (by simp; omega) _).setCell (by simp; omega) _

/-- The program's change of one path. -/
theorem change_any (p1 : Option Addr) (n1 c1 : Nat) (S : List EntD) (a c : EntD) (w : World)
    (HS : Hid (∀ u : World, Below w.heap.size w u → Calls Tryz.prog 35 #[.slice p1 n1 c1, .agg #[.string c.path, .bool c.dir, .int .i64 c.id, .int .i64 c.size, .int .i64 c.mode]] u fun r w' => r = .returned (.string (srcB S c)) ∧ Below u.heap.size u w')) :
    Calls Tryz.prog 36 #[.slice p1 n1 c1, .agg #[.string a.path, .bool a.dir, .int .i64 a.id, .int .i64 a.size, .int .i64 a.mode], .agg #[.string c.path, .bool c.dir, .int .i64 c.id, .int .i64 c.size, .int .i64 c.mode]] w fun r w' => r = .returned (.agg #[.string (chgB S a c).path, .int .i64 (chgB S a c).kind, .string (chgB S a c).src]) ∧ Below w.heap.size w w' := by
  unfold chgB
  by_cases hd : a.dir = c.dir
  · rw [if_neg (by simpa using hd)]
    by_cases hi : a.id = c.id
    · by_cases hz : a.size = c.size
      · rw [if_neg (by simp [hi, hz])]
        exact change_moded p1 n1 c1 a c w hd hi hz
      · rw [if_pos (.inr hz)]
        exact change_size p1 n1 c1 a c _ w hd hi hz HS
    · rw [if_pos (.inl hi)]
      exact change_id p1 n1 c1 a c _ w hd hi HS
  · rw [if_pos hd]
    exact change_turned p1 n1 c1 a c _ w hd HS
set_option maxHeartbeats 1000000 in
theorem isTree_any (b off cap : Nat) (l : List EntD) (w : World) (hl : l.length ≤ 2000000) (hcap : l.length ≤ cap) (hs : ∀ o ∈ l, o.small) (hb : b < w.heap.size) (hc : EntsAt w b off l) :
    Calls Tryz.prog 33 #[.slice (some ⟨b, off, none⟩) l.length cap] w fun e w' => e = .returned (.bool (treeB l)) ∧ Below w.heap.size w w' := by
  go_enter Tryz.func33, Tryz.ntmps33
  go_wp2_with (go_at_call 46; refine (treesCheck_any b off cap l _ hl hcap hs hb hc).mono ?_; rintro e w1 ⟨rfl, hb1⟩)
  go_ret
  exact ⟨rfl, hb1⟩
set_option maxHeartbeats 1000000 in
theorem isTree_nil (w : World) :
    Calls Tryz.prog 33 #[.slice none 0 0] w fun e w' => e = .returned (.bool true) ∧ w' = w := by
  go_enter Tryz.func33, Tryz.ntmps33
  go_wp2_with (go_at_call 46; refine (treesCheck_nil _).mono ?_; rintro e w1 ⟨rfl, rfl⟩)
  go_ret
  exact ⟨rfl, rfl⟩

theorem info64b : (Tryz.prog.info? 45).map (fun i => (i.zero, i.size, i.bytes)) = some (some (.agg #[.string ByteArray.empty, .int .i64 0, .string ByteArray.empty]), 3, 40) := by kernel_rfl
end Go.Proofs.YtemkpollilhmjaaGreatDoor
