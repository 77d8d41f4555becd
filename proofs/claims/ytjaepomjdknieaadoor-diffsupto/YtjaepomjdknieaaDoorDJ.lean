/- The reference's parts of Diff: the place of a path; the change of one. -/
import Derived.Test.YtjaepomjdknieaaDoorDC
namespace Go.Proofs.YtjaepomjdknieaaDoor
open Go.RowKit
set_option linter.unusedVariables false
set_option linter.unusedSimpArgs false

set_option maxHeartbeats 1000000 in
theorem rfind_any (b off cap : Nat) (l : List EntD) (p : ByteArray) (w : World) (hl : l.length ≤ 2000000) (hc : EntsAt w b off l) :
    Calls Tryd.prog 60 #[.slice (some ⟨b, off, none⟩) l.length cap, .string p] w fun e w' => e = .returned (.int .i64 (fstI (pathIs p) l)) ∧ w' = w := by
  go_enter Tryd.func60, Tryd.ntmps60
  go_wp2
  go_loop [5] (fun i => ∃ k : Nat, k ≤ l.length ∧ i = .int .i64 k ∧ (l.take k).any (pathIs p) = false) (fun i => l.length - (intOf i).toNat)
  case atStart => exact ⟨0, Nat.zero_le _, rfl, rfl⟩
  case round =>
    obtain ⟨k, hk, rfl, hd⟩ := hrel
    have HD : Hid ((l.take k).any (pathIs p) = false) := hd
    clear hd
    by_cases hlt : k < l.length
    · have HSN : Hid ((l.take (k + 1)).any (pathIs p) = ((l.take k).any (pathIs p) || pathIs p l[k])) := any_snoc _ l k hlt
      have HHT : Hid (pathIs p l[k] = true → fstI (pathIs p) l = k) := fun h => fstI_hit _ l k hlt h HD.out
      have c0 := hc k hlt 0 _ rfl
      simp only [Nat.add_zero] at c0
      generalize l[k] = o at *
      by_cases hp : pathIs p o = true
      · have hp' : (o.path.toList == p.toList) = true := by rw [ba_toList, ba_toList]; exact hp
        go_wp2
        go_ret
        exact ⟨by rw [HHT.out hp]; rfl, rfl⟩
      · have hp' : (o.path.toList == p.toList) = false := by rw [ba_toList, ba_toList]; simpa [pathIs] using hp
        have hpf : pathIs p o = false := by simpa using hp
        have HPP : Hid (pathIs p o = false) := hpf
        clear hpf hp
        go_wp2
        exact ⟨⟨k + 1, by omega, by go_num, by rw [HSN.out, HD.out, HPP.out]; rfl⟩, by simp [intOf]; omega⟩
    · go_wp2
      go_ret
      refine ⟨?_, rfl⟩
      have h := HD.out
      rw [List.take_of_length_le (by omega)] at h
      rw [fstI_none _ l h]; rfl
set_option maxHeartbeats 1000000 in
theorem rfind_empty (a : Option Addr) (c : Nat) (p : ByteArray) (w : World) :
    Calls Tryd.prog 60 #[.slice a 0 c, .string p] w fun e w' => e = .returned (.int .i64 (-1)) ∧ w' = w := by
  go_enter Tryd.func60, Tryd.ntmps60
  go_wp2
  refine wp_loop_rounds 1 ?_
  rw [rounds_succ]
  go_wp2
  go_ret
  exact ⟨rfl, rfl⟩

set_option maxHeartbeats 1000000 in
theorem rchange_gone (a1 a2 : Option Addr) (n1 m1 n2 m2 : Nat) (p : ByteArray) (i : Int) (w : World)
    (HF1 : Hid (∀ u : World, Below w.heap.size w u → Calls Tryd.prog 60 #[.slice a1 n1 m1, .string p] u fun e w' => e = .returned (.int .i64 i) ∧ w' = u))
    (HF2 : Hid (∀ u : World, Below w.heap.size w u → Calls Tryd.prog 60 #[.slice a2 n2 m2, .string p] u fun e w' => e = .returned (.int .i64 (-1)) ∧ w' = u)) :
    Calls Tryd.prog 35 #[.slice a1 n1 m1, .slice a2 n2 m2, .string p] w fun r w' => r = .returned (.agg #[.string p, .int .i64 2, .string ⟨#[]⟩]) ∧ Below w.heap.size w w' := by
  have hb1 : ∀ ob, Below w.heap.size w (w.alloc ob) := fun ob => (Below.refl _ _).alloc (Nat.le_refl _) ob
  go_enter Tryd.func35, Tryd.ntmps35
  go_wp2_with fail
  refine (HF1.out _ (hb1 _)).mono ?_
  rintro e w1 ⟨rfl, rfl⟩
  go_wp2_with fail
  refine (HF2.out _ (hb1 _)).mono ?_
  rintro e w1 ⟨rfl, rfl⟩
  go_wp2
  refine bodyPost_ret (v := .agg #[.string p, .int .i64 2, .string ⟨#[]⟩]) (by simp [results, Tryd.results35, go_sem]) rfl ⟨rfl, ?_⟩
  exact ((hb1 _).alloc (by simp) _)

def fileIs (id : Int) (o : EntD) : Bool := !o.dir && decide (o.id = id)
def fromL (id : Int) (l : List EntD) : ByteArray := ((l.find? (fileIs id)).map (·.path)).getD ⟨#[]⟩
theorem fromL_at (id : Int) (l : List EntD) (j : Nat) (h : j < l.length) : fromL id (l.drop j) = if fileIs id l[j] then l[j].path else fromL id (l.drop (j + 1)) := by
  rw [List.drop_eq_getElem_cons h, fromL, List.find?_cons]
  split
  · next hx => rw [hx]; rfl
  · next hx => rw [hx]; rfl

/-- The change that is made, and the place of the result. -/
structure Cw (w : World) (p : ByteArray) (kind : Int) (f : ByteArray) (u : World) : Prop where
  bel : Below w.heap.size w u
  res : u.heap[w.heap.size]? = some (.cells #[.string ⟨#[]⟩, .int .i64 0, .string ⟨#[]⟩] 64 (0, 0))
  chg : u.heap[w.heap.size + 1]? = some (.cells #[.string p, .int .i64 kind, .string f] 64 (0, 0))
theorem Cw.start (w : World) (p : ByteArray) (kind : Int) (f : ByteArray) : Cw w p kind f ((w.alloc (.cells #[.string ⟨#[]⟩, .int .i64 0, .string ⟨#[]⟩] 64)).alloc (.cells #[.string p, .int .i64 kind, .string f] 64)) where
  bel := ((Below.refl _ _).alloc (Nat.le_refl _) _).alloc (by simp) _
  res := ((World.grownBy_alloc _ _ none).block _ (by simp) (by simp)).trans (heap_alloc_new w _)
  chg := by
    have := heap_alloc_new (w.alloc (.cells #[.string ⟨#[]⟩, .int .i64 0, .string ⟨#[]⟩] 64)) (.cells #[.string p, .int .i64 kind, .string f] 64)
    rwa [World.size_alloc] at this
theorem Cw.cell {w u : World} {p f : ByteArray} {kind : Int} (h : Cw w p kind f u) (j : Nat) : u.cell? ⟨w.heap.size + 1, j, none⟩ = [Value.string p, .int .i64 kind, .string f][j]? := by
  rw [Lib.cell_of_heap h.chg]; simp
theorem Cw.rcell {w u : World} {p f : ByteArray} {kind : Int} (h : Cw w p kind f u) (j : Nat) : u.cell? ⟨w.heap.size, j, none⟩ = [Value.string ⟨#[]⟩, .int .i64 0, .string ⟨#[]⟩][j]? := by
  rw [Lib.cell_of_heap h.res]; simp
theorem Cw.frz {w u : World} {p f : ByteArray} {kind : Int} (h : Cw w p kind f u) (j : Nat) : u.frozen? ⟨w.heap.size + 1, j, none⟩ = false ∧ u.frozen? ⟨w.heap.size, j, none⟩ = false := by
  refine ⟨by simp [World.frozen?, h.chg], by simp [World.frozen?, h.res]⟩
theorem Cw.drewN {w u : World} {p f : ByteArray} {kind : Int} (h : Cw w p kind f u) (n : Nat) : Cw w p kind f (u.drewN n) := ⟨h.bel.trans ⟨rfl, rfl, rfl, Nat.le_refl _, fun _ _ => rfl⟩, h.res, h.chg⟩
theorem Cw.kind {w u : World} {p f : ByteArray} {kind : Int} (h : Cw w p kind f u) (k : Int) : Cw w p k f (u.setCell ⟨w.heap.size + 1, 1, none⟩ (.int .i64 k)) where
  bel := h.bel.setCell (by simp) _
  res := (heap_setCell_other u ⟨w.heap.size + 1, 1, none⟩ w.heap.size _ (by simp)).trans h.res
  chg := by rw [heap_setCell_same u _ 1 _ _ _ h.chg]; rfl
theorem Cw.set {w u : World} {p f : ByteArray} {kind : Int} (h : Cw w p kind f u) (f' : ByteArray) : Cw w p kind f' (u.setCell ⟨w.heap.size + 1, 2, none⟩ (.string f')) where
  bel := h.bel.setCell (by simp) _
  res := (heap_setCell_other u ⟨w.heap.size + 1, 2, none⟩ w.heap.size _ (by simp)).trans h.res
  chg := by rw [heap_setCell_same u _ 2 _ _ _ h.chg]; rfl


theorem eql61r (p q : ByteArray) (d e : Bool) (i j z y m n : Int) (w : World) : (binOp .eql 61 (.agg #[.string p, .bool d, .int .i64 i, .int .i64 z, .int .i64 m]) (.agg #[.string q, .bool e, .int .i64 j, .int .i64 y, .int .i64 n])).run Tryd.prog w = .ok (.bool (eqB ⟨p, d, i, z, m⟩ ⟨q, e, j, y, n⟩)) w := by
  go_simp
  rw [ba_toList, ba_toList]
  by_cases h1 : p.data.toList = q.data.toList <;> by_cases h2 : d = e <;> by_cases h3 : i = j <;> by_cases h4 : z = y <;> by_cases h5 : m = n <;> simp [eqB, h1, h2, h3, h4, h5]
  all_goals (intro hc; exact h1 (by rw [hc]))

end Go.Proofs.YtjaepomjdknieaaDoor
