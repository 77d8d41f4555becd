/- KR, KS: in one text. -/
import Derived.Test.YtpjjagalekolaaaGreatDoorP11
import Derived.Lib.AppendZerosOnto
/- Rows of numbers: the library's Clone, Grow and Concat at the sizes that a swap wants. -/
namespace Go.Proofs.YtpjjagalekolaaaGreatDoor
open Go.RowKit
set_option linter.unusedVariables false
set_option linter.unusedSimpArgs false

theorem own_emptyI (w : World) : (w.alloc (.cells #[] 3)).ownsRow w.heap.size 3 1 (.slice (some ⟨w.heap.size, 0, none⟩) 0 0) 0 [] :=
  ⟨rfl, .inr ⟨w.heap.size, 0, #[], rfl, Nat.le_refl _, heap_alloc_new w _, Nat.le_refl _, by unfold maxLen; omega, rfl, rfl⟩⟩
theorem run_append_zero {P : Program} (w : World) (base : Nat) (t ty e : TypeId) (i : TypeInfo) (size : Nat) (ht : P.underlying t = some (.slice e)) (hi : P.info? e = some i) (hsize : i.size = size)
    (v : Value) (n : Nat) (xs : List Value) (hown : w.ownsRow base e size v n xs) (a : Option Addr) (c : Nat) : (Builtin.append_ #[t, t] ty #[v, .slice a 0 c]).run P w = .ok v w := by
  rcases hown.2 with ⟨rfl, rfl⟩ | ⟨g, cap, cur, rfl, hB, hg, hn, hm, hs, hx⟩
  · cases a <;> simp [Builtin.append_, run_underlying ht, sizeOf, typeInfo, hi, Builtin.lenOf, Builtin.firstCells, loadCells, loadCellsFrom]
  · cases a <;> simp [Builtin.append_, run_underlying ht, sizeOf, typeInfo, hi, Builtin.lenOf, Builtin.firstCells, loadCells, loadCellsFrom, storeCells, hn]

end Go.Proofs.YtpjjagalekolaaaGreatDoor

/- The planner takes its steps in order: does a step wait for itself? -/
namespace Go.Proofs.YtpjjagalekolaaaGreatDoor
open Go.RowKit
set_option linter.unusedVariables false
set_option linter.unusedSimpArgs false

/-- Another block is written. -/
theorem Rst.other {w0 u : World} {R g c F0 F1 : Nat} {st : List Value} {rdy : Value} {nr : Nat} {rx : List Value} {opv : Value} {no : Nat} {ops : List Value} {sp : Int} (h : Rst w0 u R g c F0 F1 st rdy nr rx opv no ops sp) {M : Nat} {xs : List Value} (hM : Blk u M 4 xs) (hge : w0.heap.size ≤ M) (j : Nat) (v : Value) : Rst w0 (u.setCell ⟨M, j, none⟩ v) R g c F0 F1 st rdy nr rx opv no ops sp :=
  ⟨below_set h.bel _ _ _ h.bel.size hge, h.ge, h.r.other j v (h.r.ne hM (by decide)), row_blk hM h.st (by decide) (gb_set _ _ _ _), row_blk hM h.rd (by decide) (gb_set _ _ _ _), row_blk hM h.op (by decide) (gb_set _ _ _ _), h.f0.other j v (h.f0.ne hM (by decide)), h.f1.other j v (h.f1.ne hM (by decide)), h.nf⟩

theorem own_monoK {w : World} {B B' e s : Nat} {v : Value} {n : Nat} {xs : List Value} (h : w.ownsRow B e s v n xs) (hb : B' ≤ B) : w.ownsRow B' e s v n xs := by
  refine ⟨h.1, ?_⟩
  rcases h.2 with h1 | ⟨g, cap, cur, h1, h2, h3⟩
  · exact .inl h1
  · exact .inr ⟨g, cap, cur, h1, Nat.le_trans hb h2, h3⟩
end Go.Proofs.YtpjjagalekolaaaGreatDoor

