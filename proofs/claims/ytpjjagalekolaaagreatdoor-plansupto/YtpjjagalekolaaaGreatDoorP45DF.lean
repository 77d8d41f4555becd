/- The book takes a list of operations. -/
import Derived.Test.YtpjjagalekolaaaGreatDoorP44DE
namespace Go.Proofs.YtpjjagalekolaaaGreatDoor
open Go.RowKit
set_option linter.unusedVariables false
set_option linter.unusedSimpArgs false

theorem hid {p : Prop} (h : p) : Hid p := h
theorem set_at {α : Type} (A R : List α) (x c : α) (p : Nat) (h : A.length = p) : (A ++ x :: R).set p c = A ++ c :: R := by
  rw [List.set_append_right _ _ (by omega), show p - A.length = 0 by omega]; rfl
theorem row_len {w : World} {base e size n : Nat} {v : Value} {xs : List Value} (h : w.ownsRow base e size v n xs) : ∃ p c, v = .slice p n c := by
  rcases h.2 with ⟨rfl, rfl⟩ | ⟨g, cap, cur, rfl, _⟩
  · exact ⟨_, _, rfl⟩
  · exact ⟨_, _, rfl⟩
theorem ob_marked {w : World} {base n cap g k i : Nat} {xs : List Value} (hx : xs.length = n * 6) (h : w.ownsRow base 59 6 (.slice (some ⟨g, 0, none⟩) n cap) n (repC (obC k) i ++ xs.drop (i * 6))) (hi : i < n) :
    ((((((w.setCell ⟨g, i * 6, none⟩ (.int .i64 (-7000 - (k : Int)))).setCell ⟨g, i * 6 + 1, none⟩ (.string ⟨#[]⟩)).setCell ⟨g, i * 6 + 2, none⟩ (.string ⟨#[]⟩)).setCell ⟨g, i * 6 + 3, none⟩ (.int .i64 0)).setCell ⟨g, i * 6 + 4, none⟩ (.int .i64 0)).setCell ⟨g, i * 6 + 5, none⟩ (.int .i64 0)).ownsRow base 59 6 (.slice (some ⟨g, 0, none⟩) n cap) n (repC (obC k) (i + 1) ++ xs.drop ((i + 1) * 6)) ∧
    w.grownBy ((((((w.setCell ⟨g, i * 6, none⟩ (.int .i64 (-7000 - (k : Int)))).setCell ⟨g, i * 6 + 1, none⟩ (.string ⟨#[]⟩)).setCell ⟨g, i * 6 + 2, none⟩ (.string ⟨#[]⟩)).setCell ⟨g, i * 6 + 3, none⟩ (.int .i64 0)).setCell ⟨g, i * 6 + 4, none⟩ (.int .i64 0)).setCell ⟨g, i * 6 + 5, none⟩ (.int .i64 0)) (some g) := by
  have s0 := h.stored (i * 6) (.int .i64 (-7000 - (k : Int)))
  have s1 := s0.1.stored (i * 6 + 1) (.string ⟨#[]⟩)
  have s2 := s1.1.stored (i * 6 + 2) (.string ⟨#[]⟩)
  have s3 := s2.1.stored (i * 6 + 3) (.int .i64 0)
  have s4 := s3.1.stored (i * 6 + 4) (.int .i64 0)
  have s5 := s4.1.stored (i * 6 + 5) (.int .i64 0)
  refine ⟨?_, ((((s0.2.trans s1.2).trans s2.2).trans s3.2).trans s4.2).trans s5.2⟩
  have e : (((((((repC (obC k) i ++ xs.drop (i * 6)).set (i * 6) (.int .i64 (-7000 - (k : Int)))).set (i * 6 + 1) (.string ⟨#[]⟩)).set (i * 6 + 2) (.string ⟨#[]⟩)).set (i * 6 + 3) (.int .i64 0)).set (i * 6 + 4) (.int .i64 0)).set (i * 6 + 5) (.int .i64 0)) = repC (obC k) (i + 1) ++ xs.drop ((i + 1) * 6) := by
    have hl : (repC (obC k) i).length = i * 6 := repC_len _ _
    rw [List.drop_eq_getElem_cons (by omega : i * 6 < xs.length), List.drop_eq_getElem_cons (by omega : i * 6 + 1 < xs.length), List.drop_eq_getElem_cons (by omega : i * 6 + 1 + 1 < xs.length), List.drop_eq_getElem_cons (by omega : i * 6 + 1 + 1 + 1 < xs.length), List.drop_eq_getElem_cons (by omega : i * 6 + 1 + 1 + 1 + 1 < xs.length), List.drop_eq_getElem_cons (by omega : i * 6 + 1 + 1 + 1 + 1 + 1 < xs.length)]
    rw [set_at _ _ _ _ _ hl]
    have e1 : ∀ (A R : List Value) (x y : Value), A ++ x :: y :: R = (A ++ [x]) ++ y :: R := by simp
    rw [e1, set_at _ _ _ _ _ (by simp [hl]), e1, set_at _ _ _ _ _ (by simp [hl]), e1, set_at _ _ _ _ _ (by simp [hl]), e1, set_at _ _ _ _ _ (by simp [hl]), e1, set_at _ _ _ _ _ (by simp [hl])]
    rw [← repC_add, show (i + 1) * 6 = i * 6 + 1 + 1 + 1 + 1 + 1 + 1 by omega]
    simp [repC, obC]
  rw [← e]
  exact s5.1

/-- What the book's taking of a list leaves. -/
def Tookob (base base0 bk k n : Nat) (vl cv e0 e1 : Value) (cs : List Value) (w w' : World) : Prop :=
  (∃ cv' q, w'.heap[bk]? = some (.cells #[e0, cv', e1] 30 (0, 0)) ∧ w.heap.size ≤ q ∧ Quadob base k n vl q w' ∧ w'.ownsRow base0 78 1 cv' (k + 1) (cs ++ [.slice (some ⟨q, 0, none⟩) 4 4])) ∧
  (∀ b, b < w.heap.size → b ≠ bk → vl.ownBlock ≠ some b → cv.ownBlock ≠ some b → w'.heap[b]? = w.heap[b]?) ∧ w'.os = w.os ∧ w'.tape = w.tape ∧ w'.output = w.output ∧ w.heap.size ≤ w'.heap.size

theorem took_of {base base0 bk k n : Nat} {vl cv e0 e1 : Value} {cs : List Value} {w w1 wz : World} {listed : Array Bool}
    (hW : Wdob base base0 bk w.heap.size k n vl cv e0 e1 cs w1 listed wz) (h29 : listed.getD 29 false = true)
    (h1 : ∀ b, b < w.heap.size → vl.ownBlock ≠ some b → w1.heap[b]? = w.heap[b]?) (h2 : w1.os = w.os) (h3 : w1.tape = w.tape) (h4 : w1.output = w.output) : Tookob base base0 bk k n vl cv e0 e1 cs w wz := by
  refine ⟨hW.fin h29, fun b hb hbk hv hc => (hW.old b hb hbk hv hc).trans (h1 b hb hv), hW.os.trans h2, hW.tape.trans h3, hW.output.trans h4, ?_⟩
  have := hW.lt
  omega

set_option maxHeartbeats 2000000 in
set_option maxRecDepth 100000 in
theorem bookOp_nil (bk base base0 k : Nat) (cv e0 e1 : Value) (cs : List Value) (w : World) (hk : k ≤ 3000000) (hba : base ≤ w.heap.size) (hb0 : base0 ≤ w.heap.size)
    (hbk : w.heap[bk]? = some (.cells #[e0, cv, e1] 30 (0, 0))) (hcv : w.ownsRow base0 78 1 cv k cs) :
    Calls Tryz.prog 17 #[.pointer (some ⟨bk, 0, none⟩), .slice none 0 0] w fun e w' => e = .returned (.tuple #[]) ∧ Tookob base base0 bk k 0 (.slice none 0 0) cv e0 e1 cs w w' := by
  have hbl : bk < w.heap.size := (Array.getElem?_eq_some_iff.1 hbk).1
  have HCN : Hid (∀ b, cv.ownBlock = some b → b < w.heap.size) := fun b hb => (hcv.lt b hb).2
  have HW : Hid (∀ l, Wdob base base0 bk w.heap.size k 0 (.slice none 0 0) cv e0 e1 cs (w.alloc (.cells #[.int .i64 (-7000 - (k : Int)), .string ⟨#[]⟩, .string ⟨#[]⟩, .int .i64 0, .int .i64 0, .int .i64 0] 59)) (Array.replicate l false) (w.alloc (.cells #[.int .i64 (-7000 - (k : Int)), .string ⟨#[]⟩, .string ⟨#[]⟩, .int .i64 0, .int .i64 0, .int .i64 0] 59)).drew) := fun l => by
    refine ⟨World.ownsRow_nil _ _ _ _, heap_alloc_new w _, fun _ => hcv.alloc _, fun _ => ((World.grownBy_alloc w _ none).block _ hbl (by simp)).trans hbk, fun h => ?_, fun b hb _ _ _ => rfl, rfl, rfl, rfl⟩
    unfold Array.getD at h
    split at h <;> simp at h
  have hb2 : w.cell? ⟨bk, 1, none⟩ = some cv := by rw [cell_of_row w bk 1 _ _ _ hbk]; rfl
  clear hbk
  obtain ⟨cp, cc, hcs⟩ := row_len hcv
  clear hcv
  rw [hcs] at hb2
  have HCS : Hid (cv = .slice cp k cc) := hcs
  clear hcs
  go_enter Tryz.func17, Tryz.ntmps17
  go_wp2_with (go_at_call 41; refine (mark_any _ _ (by omega) (by omega)).mono ?_; rintro e w' ⟨rfl, rfl⟩)
  refine wp_loop_rounds 1 ?_
  rw [rounds_succ]
  go_wp2
  refine wp_region_inv (Gob base base0 bk w'.heap.size k 0 (.slice none 0 0) cv cs) (Wdob base base0 bk w'.heap.size k 0 (.slice none 0 0) cv e0 e1 cs (w'.alloc (.cells #[.int .i64 (-7000 - (k : Int)), .string ⟨#[]⟩, .string ⟨#[]⟩, .int .i64 0, .int .i64 0, .int .i64 0] 59))) (by kernel_rfl) (HW.out _) (by kernel_rfl) (by kernel_rfl) ?hstep ?hend
  case hstep =>
    intro listed a w i o hI hr ho
    exact ob_ops ⟨⟨by kernel_rfl, by kernel_rfl, by kernel_rfl⟩, hI, hr, ho, rfl, rfl, rfl, hbl, by omega, hk, hba, hb0, fun b hb => by simp [Value.ownBlock] at hb, HCN.out⟩
  case hend =>
    intro listed a wz hI hall
    have hfin := took_of hI.world (hall 29 (by decide)) (fun b hb _ => (World.grownBy_alloc w' _ none).block b hb (by simp)) rfl rfl rfl
    have hdf := hI.defers
    clear HW HCN HCS hI hall
    (try simp only [Exit.inBlock, Exit.then])
    exact bodyPost_end (results_none rfl _ _ _) hdf ⟨rfl, hfin⟩

set_option maxHeartbeats 2000000 in
set_option maxRecDepth 100000 in
theorem bookOp_some (bk base base0 k n g cap : Nat) (xs : List Value) (cv e0 e1 : Value) (cs : List Value) (w : World) (hk : k ≤ 3000000) (hn : n ≤ 3000000) (hba : base ≤ w.heap.size) (hb0 : base0 ≤ w.heap.size)
    (hbk : w.heap[bk]? = some (.cells #[e0, cv, e1] 30 (0, 0))) (hcv : w.ownsRow base0 78 1 cv k cs) (hl : w.ownsRow base 59 6 (.slice (some ⟨g, 0, none⟩) n cap) n xs) :
    Calls Tryz.prog 17 #[.pointer (some ⟨bk, 0, none⟩), .slice (some ⟨g, 0, none⟩) n cap] w fun e w' => e = .returned (.tuple #[]) ∧ Tookob base base0 bk k n (.slice (some ⟨g, 0, none⟩) n cap) cv e0 e1 cs w w' := by
  have hbl : bk < w.heap.size := (Array.getElem?_eq_some_iff.1 hbk).1
  have hgl : g < w.heap.size := (hl.lt g rfl).2
  have HCN : Hid (∀ b, cv.ownBlock = some b → b < w.heap.size) := fun b hb => (hcv.lt b hb).2
  have hxl : xs.length = n * 6 := hl.1
  have HW : Hid (∀ l u, (w.alloc (.cells #[.int .i64 (-7000 - (k : Int)), .string ⟨#[]⟩, .string ⟨#[]⟩, .int .i64 0, .int .i64 0, .int .i64 0] 59)).grownBy u (some g) → u.ownsRow base 59 6 (.slice (some ⟨g, 0, none⟩) n cap) n (repC (obC k) n) → Wdob base base0 bk w.heap.size k n (.slice (some ⟨g, 0, none⟩) n cap) cv e0 e1 cs u (Array.replicate l false) u.drew) := fun l u hg hr => by
    have hk2 : u.ownsRow base0 78 1 cv k cs := (hcv.alloc (.cells #[.int .i64 (-7000 - (k : Int)), .string ⟨#[]⟩, .string ⟨#[]⟩, .int .i64 0, .int .i64 0, .int .i64 0] 59)).kept hg (row_apart hcv hl (by decide))
    have hgb : bk ≠ g := fun e => row_far hl hbk (by decide) (by rw [e]; rfl)
    refine ⟨hr, (hg.block _ (by simp) (by simp; omega)).trans (heap_alloc_new w _), fun _ => hk2, fun _ => (hg.block bk (by simp; omega) (by simpa using hgb)).trans (((World.grownBy_alloc w _ none).block _ hbl (by simp)).trans hbk), fun h => ?_, fun b hb _ _ _ => rfl, rfl, rfl, rfl⟩
    unfold Array.getD at h
    split at h <;> simp at h
  have HL : Hid ((w.alloc (.cells #[.int .i64 (-7000 - (k : Int)), .string ⟨#[]⟩, .string ⟨#[]⟩, .int .i64 0, .int .i64 0, .int .i64 0] 59)).ownsRow base 59 6 (.slice (some ⟨g, 0, none⟩) n cap) n (repC (obC k) 0 ++ xs.drop (0 * 6))) := by
    show (w.alloc _).ownsRow base 59 6 (.slice (some ⟨g, 0, none⟩) n cap) n (repC (obC k) 0 ++ xs.drop (0 * 6))
    have := hl.alloc (.cells #[.int .i64 (-7000 - (k : Int)), .string ⟨#[]⟩, .string ⟨#[]⟩, .int .i64 0, .int .i64 0, .int .i64 0] 59)
    simpa [repC] using this
  have hb2 : w.cell? ⟨bk, 1, none⟩ = some cv := by rw [cell_of_row w bk 1 _ _ _ hbk]; rfl
  clear hbk hl
  obtain ⟨cp, cc, hcs⟩ := row_len hcv
  clear hcv
  rw [hcs] at hb2
  have HCS : Hid (cv = .slice cp k cc) := hcs
  clear hcs
  go_enter Tryz.func17, Tryz.ntmps17
  go_wp2_with (go_at_call 41; refine (mark_any _ _ (by omega) (by omega)).mono ?_; rintro e w' ⟨rfl, rfl⟩)
  go_loopw [5] (fun i wr => ∃ j : Nat, j ≤ n ∧ i = .int .i64 j ∧ (w'.alloc (.cells #[.int .i64 (-7000 - (k : Int)), .string ⟨#[]⟩, .string ⟨#[]⟩, .int .i64 0, .int .i64 0, .int .i64 0] 59)).grownBy wr (some g) ∧ wr.ownsRow base 59 6 (.slice (some ⟨g, 0, none⟩) n cap) n (repC (obC k) j ++ xs.drop (j * 6))) (fun i _ => n - (intOf i).toNat)
  case atStart => exact ⟨0, Nat.zero_le _, rfl, World.grownBy.refl _ _, HL.out⟩
  case round =>
    obtain ⟨j, hj, rfl, hgr, hrow⟩ := hrel
    by_cases hlt : j < n
    · have hnew : ∀ t, wr.cell? ⟨w'.heap.size, t, none⟩ = (w'.alloc (.cells #[.int .i64 (-7000 - (k : Int)), .string ⟨#[]⟩, .string ⟨#[]⟩, .int .i64 0, .int .i64 0, .int .i64 0] 59)).cell? ⟨w'.heap.size, t, none⟩ := fun t => World.cell?_of_block (hgr.block _ (by simp) (by simp; omega))
      have d0 : wr.cell? ⟨w'.heap.size, 0, none⟩ = some (.int .i64 (-7000 - (k : Int))) := by rw [hnew]; simp
      have d1 : wr.cell? ⟨w'.heap.size, 1, none⟩ = some (.string ⟨#[]⟩) := by rw [hnew]; simp
      have d2 : wr.cell? ⟨w'.heap.size, 2, none⟩ = some (.string ⟨#[]⟩) := by rw [hnew]; simp
      have d3 : wr.cell? ⟨w'.heap.size, 3, none⟩ = some (.int .i64 0) := by rw [hnew]; simp
      have d4 : wr.cell? ⟨w'.heap.size, 4, none⟩ = some (.int .i64 0) := by rw [hnew]; simp
      have d5 : wr.cell? ⟨w'.heap.size, 5, none⟩ = some (.int .i64 0) := by rw [hnew]; simp
      have hlen : (repC (obC k) j ++ xs.drop (j * 6)).length = n * 6 := hrow.1
      obtain ⟨x0, c0⟩ : ∃ x, wr.cell? ⟨g, j * 6, none⟩ = some x := ⟨_, (hrow.cellAt (j * 6) (by omega)).trans (List.getElem?_eq_getElem (by omega))⟩
      obtain ⟨x1, c1⟩ : ∃ x, wr.cell? ⟨g, j * 6 + 1, none⟩ = some x := ⟨_, (hrow.cellAt (j * 6 + 1) (by omega)).trans (List.getElem?_eq_getElem (by omega))⟩
      obtain ⟨x2, c2⟩ : ∃ x, wr.cell? ⟨g, j * 6 + 2, none⟩ = some x := ⟨_, (hrow.cellAt (j * 6 + 2) (by omega)).trans (List.getElem?_eq_getElem (by omega))⟩
      obtain ⟨x3, c3⟩ : ∃ x, wr.cell? ⟨g, j * 6 + 3, none⟩ = some x := ⟨_, (hrow.cellAt (j * 6 + 3) (by omega)).trans (List.getElem?_eq_getElem (by omega))⟩
      obtain ⟨x4, c4⟩ : ∃ x, wr.cell? ⟨g, j * 6 + 4, none⟩ = some x := ⟨_, (hrow.cellAt (j * 6 + 4) (by omega)).trans (List.getElem?_eq_getElem (by omega))⟩
      obtain ⟨x5, c5⟩ : ∃ x, wr.cell? ⟨g, j * 6 + 5, none⟩ = some x := ⟨_, (hrow.cellAt (j * 6 + 5) (by omega)).trans (List.getElem?_eq_getElem (by omega))⟩
      have f0 := hrow.frozenAt (j * 6)
      have f1 := hrow.frozenAt (j * 6 + 1)
      have f2 := hrow.frozenAt (j * 6 + 2)
      have f3 := hrow.frozenAt (j * 6 + 3)
      have f4 := hrow.frozenAt (j * 6 + 4)
      have f5 := hrow.frozenAt (j * 6 + 5)
      have HM := hid (ob_marked hxl hrow hlt)
      have HG := hid hgr
      clear hrow hgr hnew hlen
      go_wp2
      exact ⟨⟨j + 1, by omega, by go_num, HG.out.trans HM.out.2, HM.out.1⟩, by simp [intOf]; omega⟩
    · have hj' : j = n := by omega
      subst hj'
      have HR : Hid (wr.ownsRow base 59 6 (.slice (some ⟨g, 0, none⟩) j cap) j (repC (obC k) j)) := by
        show wr.ownsRow base 59 6 (.slice (some ⟨g, 0, none⟩) j cap) j (repC (obC k) j)
        rwa [List.drop_of_length_le (by omega), List.append_nil] at hrow
      have HG := hid hgr
      clear hrow hgr
      go_wp2
      refine wp_region_inv (Gob base base0 bk w'.heap.size k j (.slice (some ⟨g, 0, none⟩) j cap) cv cs) (Wdob base base0 bk w'.heap.size k j (.slice (some ⟨g, 0, none⟩) j cap) cv e0 e1 cs wr) (by kernel_rfl) (HW.out _ wr HG.out HR.out) (by kernel_rfl) (by kernel_rfl) ?hstep ?hend
      case hstep =>
        intro listed a w i o hI hr ho
        exact ob_ops ⟨⟨by kernel_rfl, by kernel_rfl, by kernel_rfl⟩, hI, hr, ho, rfl, rfl, rfl, hbl, hn, hk, hba, hb0, fun b hb => by simp [Value.ownBlock] at hb; omega, HCN.out⟩
      case hend =>
        intro listed a wz hI hall
        have hg := HG.out
        have hfin := took_of hI.world (hall 29 (by decide)) (fun b hb hv => (hg.block b (by simp; omega) (fun e => hv (by simp [Value.ownBlock]; simp at e; exact e.symm))).trans ((World.grownBy_alloc w' _ none).block b hb (by simp))) hg.os hg.tape hg.output
        have hdf := hI.defers
        clear HW HCN HCS hI hall HR HG HL hg
        (try simp only [Exit.inBlock, Exit.then])
        exact bodyPost_end (results_none rfl _ _ _) hdf ⟨rfl, hfin⟩
end Go.Proofs.YtpjjagalekolaaaGreatDoor

