/- The book of the law Plans, between the rounds. -/
import Derived.Test.YtpjjagalekolaaaGreatDoorP43LQA
import Derived.Test.YtpjjagalekolaaaGreatDoorP46DG
namespace Go.Proofs.YtpjjagalekolaaaGreatDoor
open Go.RowKit
set_option linter.unusedVariables false
set_option linter.unusedSimpArgs false

/-! The book between the rounds. -/
def Qs (w : World) (cs : List Value) : Prop := ∀ (i : Nat) (h : i < cs.length), ∃ q n base vl, cs[i] = .slice (some ⟨q, 0, none⟩) 4 4 ∧ Quadob base i n vl q w ∧ n ≤ 3000000
structure LawInv (w0 : World) (bk kk : Nat) (w : World) : Prop where
  bel : Below w0.heap.size w0 w
  lt : w0.heap.size ≤ bk
  ex : ∃ cv cs, w.heap[bk]? = some (.cells #[.slice none 0 0, cv, .slice none 0 0] 30 (0, 0)) ∧ w.ownsRow w0.heap.size 78 1 cv kk cs ∧ cs.length = kk ∧ Qs w cs
theorem row_same {w w' : World} {base e size n : Nat} {v : Value} {xs : List Value} (h : w.ownsRow base e size v n xs) (hk : ∀ b, v.ownBlock = some b → w'.heap[b]? = w.heap[b]?) : w'.ownsRow base e size v n xs := by
  refine ⟨h.1, ?_⟩
  rcases h.2 with hn | ⟨g, cap, cur, rfl, hb, hg, rest⟩
  · exact .inl hn
  · exact .inr ⟨g, cap, cur, rfl, hb, (hk g rfl).trans hg, rest⟩
theorem Quadob.same {w w' : World} {base k n q : Nat} {vl : Value} (h : Quadob base k n vl q w) (hq : ∀ c : Array Value, w.heap[q]? = some (Obj.cells c 33 (0, 0)) → w'.heap[q]? = w.heap[q]?) (hr : ∀ b u p xs, w.ownsRow b 59 6 u p xs → w'.ownsRow b 59 6 u p xs) : Quadob base k n vl q w' := by
  obtain ⟨u1, u2, u6, h0, h1, h2, h3, h4⟩ := h
  exact ⟨u1, u2, u6, (hq _ h0).trans h0, hr _ _ _ _ h1, hr _ _ _ _ h2, hr _ _ _ _ h3, hr _ _ _ _ h4⟩
theorem Qs.same {w w' : World} {cs : List Value} (h : Qs w cs) (hq : ∀ (q : Nat) (c : Array Value), w.heap[q]? = some (Obj.cells c 33 (0, 0)) → w'.heap[q]? = w.heap[q]?) (hr : ∀ b u p xs, w.ownsRow b 59 6 u p xs → w'.ownsRow b 59 6 u p xs) : Qs w' cs := by
  intro i hi
  obtain ⟨q, n, base, vl, e, hQ, hn⟩ := h i hi
  exact ⟨q, n, base, vl, e, hQ.same (hq q) hr, hn⟩
theorem LawInv.below {w0 w w' : World} {bk kk : Nat} (h : LawInv w0 bk kk w) (hb : Below w.heap.size w w') : LawInv w0 bk kk w' := by
  obtain ⟨hbel, hlt, cv, cs, h1, h2, h3, h4⟩ := h
  refine ⟨hbel.trans (hb.mono hbel.size), hlt, cv, cs, (hb.block bk (Array.getElem?_eq_some_iff.1 h1).1).trans h1, own_below hb h2, h3, h4.same (fun q c hc => hb.block q (Array.getElem?_eq_some_iff.1 hc).1) (fun b u p xs hx => own_below hb hx)⟩
theorem LawInv.start (w0 w : World) (hb : Below w0.heap.size w0 w) : LawInv w0 w.heap.size 0 (w.alloc (.cells #[.slice none 0 0, .slice none 0 0, .slice none 0 0] 30)) :=
  ⟨hb.alloc hb.size _, hb.size, _, [], heap_alloc_new w _, World.ownsRow_nil _ _ _ _, rfl, fun i hi => by simp at hi⟩

/-- A list is taken. -/
theorem book_u {w0 wr w : World} {bk kk B n : Nat} {v : Value} {xs : List Value} (h0 : LawInv w0 bk kk wr) (hb : Below wr.heap.size wr w) (hB : wr.heap.size ≤ B) (hBw : B ≤ w.heap.size) (hk : kk ≤ 3000000) (hn : n ≤ 3000000) (hv : w.ownsRow B 59 6 v n xs) :
    Calls Tryz.prog 17 #[.pointer (some ⟨bk, 0, none⟩), v] w fun e w' => e = .returned (.tuple #[]) ∧ LawInv w0 bk (kk + 1) w' ∧ w.heap.size ≤ w'.heap.size := by
  obtain ⟨hbel0, hlt, cv, cs, i1, i2, i3, i4⟩ := h0
  have hsz := hb.size
  have hs00 := hbel0.size
  have hbel := hbel0.trans (hb.mono hs00)
  have h1 := (hb.block bk (Array.getElem?_eq_some_iff.1 i1).1).trans i1
  have h2 := own_below hb i2
  have hs0 := hbel.size
  have key : Calls Tryz.prog 17 #[.pointer (some ⟨bk, 0, none⟩), v] w fun e w' => e = .returned (.tuple #[]) ∧ Tookob B w0.heap.size bk kk n v cv (.slice none 0 0) (.slice none 0 0) cs w w' := by
    rcases hv.2 with ⟨rfl, rfl⟩ | ⟨g, cap, cur, rfl, hrest⟩
    · exact bookOp_nil bk B w0.heap.size kk cv _ _ cs w hk hBw hs0 h1 h2
    · exact bookOp_some bk B w0.heap.size kk n g cap xs cv _ _ cs w hk hn hBw hs0 h1 h2 hv
  refine key.mono ?_
  rintro e w' ⟨rfl, ⟨cv', q, t1, t2, t3, t4⟩, told, tos, ttp, tout, tsz⟩
  refine ⟨rfl, ?_, tsz⟩
  have hvB : ∀ b, v.ownBlock = some b → B ≤ b := fun b e => (hv.lt b e).1
  have hcB : ∀ b, cv.ownBlock = some b → w0.heap.size ≤ b := fun b e => (h2.lt b e).1
  have hbel2 : Below w0.heap.size w0 w' := by
    refine ⟨tos.trans hbel.os, ttp.trans hbel.tape, tout.trans hbel.output, by omega, fun b hb0 => ?_⟩
    refine (told b (by omega) (by omega) (fun e => ?_) (fun e => ?_)).trans (hbel.block b hb0)
    · have := hvB b e; omega
    · have := hcB b e; omega
  have oldB : ∀ b, b < wr.heap.size → b ≠ bk → cv.ownBlock ≠ some b → w'.heap[b]? = wr.heap[b]? := fun b hb0 hne hc =>
    (told b (by omega) hne (fun e => by have := hvB b e; omega) hc).trans (hb.block b hb0)
  have hQ : Qs w' cs := by
    refine i4.same (fun q c hc => ?_) (fun b u p xs hx => ?_)
    · refine oldB q (Array.getElem?_eq_some_iff.1 hc).1 (fun e => ?_) (row_far i2 hc (by decide))
      rw [e, i1] at hc
      simp at hc
    · refine row_same hx (fun b' e => oldB b' (hx.lt b' e).2 (fun e2 => row_far hx i1 (by decide) (by rw [e, e2])) (fun e2 => ?_))
      rcases row_apart hx i2 (by decide) with h | h
      · rw [e] at h; cases h
      · exact h (by rw [e, e2])
  refine ⟨hbel2, hlt, cv', cs ++ [.slice (some ⟨q, 0, none⟩) 4 4], t1, t4, by simp [i3], fun i hi => ?_⟩
  by_cases he : i < cs.length
  · obtain ⟨q', n', base', vl', e, hQ', hn'⟩ := hQ i he
    exact ⟨q', n', base', vl', by rw [List.getElem_append_left he]; exact e, hQ', hn'⟩
  · have hi' : i = kk := by simp at hi; omega
    subst hi'
    exact ⟨q, n, B, v, by rw [List.getElem_append_right (by omega)]; simp [i3], t3, hn⟩
theorem Qs.book {w : World} {cs : List Value} (h : Qs w cs) : Bookob w cs := by
  intro i hi
  obtain ⟨q, n, base, vl, e, hQ, hn⟩ := h i hi
  exact ⟨q, e, quad_marked hQ hn⟩

end Go.Proofs.YtpjjagalekolaaaGreatDoor
