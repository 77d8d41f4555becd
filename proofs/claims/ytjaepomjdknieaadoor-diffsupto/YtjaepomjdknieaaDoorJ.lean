/- The program's writer of bytes. -/
import Derived.Test.YtjaepomjdknieaaDoorA
import Derived.Maps.AppendAt
import Derived.Lib.Builder
import Derived.Lib.AppendStr
import Derived.Lib.UnsafeStr
namespace Go.Proofs.YtjaepomjdknieaaDoor
open Go.RowKit
set_option linter.unusedVariables false

theorem info5 : (Tryd.prog.info? 5).map (fun i => (i.zero, i.size, i.bytes)) = some (some (.int .u8 0), 1, 1) := by kernel_rfl

/-- A writer of bytes in a block of its own, number b, that holds the cells bs. -/
def BwAt (B b : Nat) (bs : List Value) (w : World) : Prop :=
  B ≤ b ∧ ∃ v, w.heap[b]? = some (.cells #[v] 98 (0, 0)) ∧ w.ownsRow B 5 1 v bs.length bs ∧ v.ownBlock ≠ some b

/-- Every block of cells but b and those of bytes is as it was. -/
def Keeps (b : Nat) (w w' : World) : Prop := ∀ k cs T fr, k ≠ b → T ≠ 5 → w.heap[k]? = some (.cells cs T fr) → w'.heap[k]? = some (.cells cs T fr)

theorem Keeps.refl (b : Nat) (w : World) : Keeps b w w := fun _ _ _ _ _ _ h => h
theorem Keeps.trans {b : Nat} {x y z : World} (h : Keeps b x y) (k : Keeps b y z) : Keeps b x z := fun i cs T fr a c d => k i cs T fr a c (h i cs T fr a c d)
theorem heap_lt {w : World} {b : Nat} {o : Obj} (h : w.heap[b]? = some o) : b < w.heap.size := (Array.getElem?_eq_some_iff.1 h).1
theorem Keeps.alloc (b : Nat) (w : World) (o : Obj) : Keeps b w (w.alloc o) := fun k cs T fr _ _ h => (Lib.alloc_old w o k (heap_lt h)).trans h
theorem Keeps.setCell (b j : Nat) (w : World) (u : Value) : Keeps b w (w.setCell ⟨b, j, none⟩ u) := fun k cs T fr hk _ h => (Below.heap_setCell w ⟨b, j, none⟩ u k hk).trans h
theorem Keeps.grown {b B n : Nat} {w w' : World} {v : Value} {xs : List Value} (hg : w.grownBy w' v.ownBlock) (hown : w.ownsRow B 5 1 v n xs) : Keeps b w w' := by
  intro k cs T fr _ hT h
  refine (hg.block k (heap_lt h) ?_).trans h
  intro e
  rcases hown.2 with ⟨rfl, _⟩ | ⟨g, cap, cur, rfl, _, hgg, _⟩
  · simp [Value.ownBlock] at e
  · simp [Value.ownBlock] at e
    subst e
    rw [h] at hgg
    simp only [Option.some.injEq, Obj.cells.injEq] at hgg
    exact hT hgg.2.1

theorem BwAt.lt {B b : Nat} {bs : List Value} {w : World} (h : BwAt B b bs w) : b < w.heap.size := by
  obtain ⟨_, v, hb, _⟩ := h
  exact heap_lt hb

theorem BwAt.put {B b : Nat} {v v' : Value} {bs' : List Value} {w : World} (hB : B ≤ b) (hb : w.heap[b]? = some (.cells #[v] 98 (0, 0))) (hown : w.ownsRow B 5 1 v' bs'.length bs') :
    BwAt B b bs' (w.setCell ⟨b, 0, none⟩ v') := by
  have hne := Lib.ownBlock_ne hown hb (by decide)
  refine ⟨hB, v', ?_, ?_, hne⟩
  · simp [World.setCell, Array.getElem?_modify, hb]
  · exact hown.kept (row := some b) ⟨rfl, rfl, rfl, by simp [World.setCell], fun k _ hk => Below.heap_setCell _ _ _ _ (fun e => hk (by simp [e]))⟩ (Or.inr hne)

/-- Other blocks come, and draws: the writer stays. -/
theorem BwAt.alloc {B b : Nat} {bs : List Value} {w : World} (h : BwAt B b bs w) (o : Obj) : BwAt B b bs (w.alloc o) := by
  have hl := h.lt
  obtain ⟨hB, v, hb, hown, hne⟩ := h
  exact ⟨hB, v, (Lib.alloc_old w o b hl).trans hb, hown.alloc o, hne⟩

/-- What an append to the buffer leaves, ahead of the store. -/
theorem bw_grown {B b n : Nat} {v : Value} {bs : List Value} {w w2 : World} (hbk : w.heap[b]? = some (.cells #[v] 98 (0, 0))) (hown : w.ownsRow B 5 1 v n bs) (hne : v.ownBlock ≠ some b) (hgrow : w.grownBy w2 v.ownBlock) :
    w2.heap[b]? = some (.cells #[v] 98 (0, 0)) ∧ w2.cell? ⟨b, 0, none⟩ = some v ∧ w2.frozen? ⟨b, 0, none⟩ = false := by
  have hb2 : w2.heap[b]? = some (.cells #[v] 98 (0, 0)) := (hgrow.block b (heap_lt hbk) (fun e => hne e.symm)).trans hbk
  exact ⟨hb2, by rw [Lib.cell_of_heap hb2]; rfl, Lib.frozen_of_heap hb2 0⟩

theorem bw_put {B b n : Nat} {v v' : Value} {bs' : List Value} {w : World} (hb : w.heap[b]? = some (.cells #[v] 98 (0, 0))) (hown : w.ownsRow B 5 1 v' n bs') :
    (w.setCell ⟨b, 0, none⟩ v').heap[b]? = some (.cells #[v'] 98 (0, 0)) ∧ (w.setCell ⟨b, 0, none⟩ v').ownsRow B 5 1 v' n bs' ∧ v'.ownBlock ≠ some b := by
  have hne := Lib.ownBlock_ne hown hb (by decide)
  refine ⟨?_, ?_, hne⟩
  · simp [World.setCell, Array.getElem?_modify, hb]
  · exact hown.kept (row := some b) ⟨rfl, rfl, rfl, by simp [World.setCell], fun k _ hk => Below.heap_setCell _ _ _ _ (fun e => hk (by simp [e]))⟩ (Or.inr hne)

theorem cell_one_at (w : World) (x : Value) (t : TypeId) (n : Nat) (h : n = w.heap.size) : ∀ j u, [x][j]? = some u → (w.alloc (.cells #[x] t)).cell? ((⟨n, 0, none⟩ : Addr).add j) = some u := by
  subst h; exact cell_one_new w x t
theorem size_setCell (w : World) (a : Addr) (v : Value) : (w.setCell a v).heap.size = w.heap.size := by simp [World.setCell]

theorem slice_of_own {w : World} {B n : Nat} {v : Value} {xs : List Value} (h : w.ownsRow B 5 1 v n xs) : ∃ ao cap, v = .slice ao n cap := by
  rcases h.2 with ⟨hv, h0⟩ | ⟨g, cap, cur, hv, _⟩
  · exact ⟨none, 0, by rw [hv, h0]⟩
  · exact ⟨_, _, hv⟩

set_option maxHeartbeats 1000000 in
set_option maxRecDepth 100000 in
theorem number1_any (B b : Nat) (bs : List Value) (n high : Int) (w : World) (h : BwAt B b bs w) (hlen : bs.length ≤ 100000000) (hBw : B ≤ w.heap.size) (hh : high ≤ 255) (hn0 : 0 ≤ n) (hn1 : n ≤ 255) :
    Calls Tryd.prog 62 #[.pointer (some ⟨b, 0, none⟩), .int .i64 n, .int .i64 high] w fun e w' => e = .returned (.tuple #[]) ∧ BwAt B b (bs ++ [.int .u8 n]) w' ∧ Below B w w' ∧ Keeps b w w' := by
  obtain ⟨i0, hi, hz0, hz1, hz2⟩ := info_parts info5
  have hlt := h.lt
  obtain ⟨hB, v, hbk, hown, hne⟩ := h
  have c0 : w.cell? ⟨b, 0, none⟩ = some v := by rw [Lib.cell_of_heap hbk]; rfl
  have hwd : widthI high = 1 := by simp [widthI]; omega
  have hbk1 : ∀ o, (w.alloc o).heap[b]? = some (.cells #[v] 98 (0, 0)) := fun o => (Lib.alloc_old w o b hlt).trans hbk
  go_enter Tryd.func62, Tryd.ntmps62
  go_wp2_with (first | (go_at_call 86; refine (width_any _ _).mono ?_; rintro e w ⟨rfl, rfl⟩) | (at_builtin; refine wpList_append_own _ rfl _ _ 96 rfl B 5 i0 (.int .u8 0) 1 1 Tryd.underlying96 hi hz0 hz1 hz2 rfl (by decide) _ _ _ rfl (hown.alloc _) ⟨_, 0, none⟩ 1 1 [.int .u8 n] rfl rfl (cell_one_new _ _ _) (fun x hx => by simp at hx; subst hx; rfl) (by unfold maxLen; omega) (by omega) (by simp only [World.size_alloc]; omega) ?_; intro v' w2 hown' hgrow _; obtain ⟨hb2, d0, f0⟩ := bw_grown (hbk1 _) (hown.alloc _) hne hgrow; obtain ⟨ao, cap, hv'⟩ := slice_of_own hown'; subst hv'))
  go_end0
  refine ⟨rfl, BwAt.put (bs' := bs ++ [.int .u8 n]) hB hb2 (by simpa using hown'), ?_, ?_⟩
  · exact (((Below.refl B w).alloc hBw _).grown hgrow (by simp only [World.size_alloc]; omega) (fun k hk => (hown.lt k hk).1)).setCell (p := ⟨b, 0, none⟩) hB _
  · exact ((Keeps.alloc b w _).trans (Keeps.grown hgrow (hown.alloc _))).trans (Keeps.setCell b 0 _ _)

set_option maxHeartbeats 1000000 in
set_option maxRecDepth 100000 in
theorem number2_any (B b : Nat) (bs : List Value) (n high : Int) (w : World) (h : BwAt B b bs w) (hlen : bs.length ≤ 100000000) (hBw : B ≤ w.heap.size) (hh : 255 < high) (hn0 : 0 ≤ n) (hn1 : n ≤ 65535) :
    Calls Tryd.prog 62 #[.pointer (some ⟨b, 0, none⟩), .int .i64 n, .int .i64 high] w fun e w' => e = .returned (.tuple #[]) ∧ BwAt B b (bs ++ [.int .u8 (n / 256), .int .u8 (n % 256)]) w' ∧ Below B w w' ∧ Keeps b w w' := by
  obtain ⟨i0, hi, hz0, hz1, hz2⟩ := info_parts info5
  have hlt := h.lt
  obtain ⟨hB, v, hbk, hown, hne⟩ := h
  have c0 : w.cell? ⟨b, 0, none⟩ = some v := by rw [Lib.cell_of_heap hbk]; rfl
  have hwd : widthI high = 2 := by simp [widthI, hh]
  have hbk1 : ∀ o, (w.alloc o).heap[b]? = some (.cells #[v] 98 (0, 0)) := fun o => (Lib.alloc_old w o b hlt).trans hbk
  go_enter Tryd.func62, Tryd.ntmps62
  go_wp2_with (first | (go_at_call 86; refine (width_any _ _).mono ?_; rintro e w ⟨rfl, rfl⟩) | (at_builtin; refine wpList_append_own _ rfl (.tmp 13) (.tmp 17) 96 rfl B 5 i0 (.int .u8 0) 1 1 Tryd.underlying96 hi hz0 hz1 hz2 rfl (by decide) _ _ _ rfl (hown.alloc _) ⟨_, 0, none⟩ 1 1 [.int .u8 (n / 256)] rfl rfl (cell_one_new _ _ _) (fun x hx => by simp at hx; subst hx; rfl) (by unfold maxLen; omega) (by omega) (by simp only [World.size_alloc]; omega) ?_; intro v1 w2 hown' hgrow _; obtain ⟨hb2, d0, f0⟩ := bw_grown (hbk1 _) (hown.alloc _) hne hgrow; obtain ⟨ao, cap, hv'⟩ := slice_of_own hown'; subst hv'; obtain ⟨p1, p2, p3⟩ := bw_put hb2 hown'; have hbel := (((Below.refl B w).alloc hBw _).grown hgrow (by simp only [World.size_alloc]; omega) (fun k hk => (hown.lt k hk).1)).setCell (p := ⟨b, 0, none⟩) hB (.slice ao (bs.length + 1) cap); have hke := ((Keeps.alloc b w _).trans (Keeps.grown hgrow (hown.alloc _))).trans (Keeps.setCell b 0 _ (.slice ao (bs.length + 1) cap)); clear hown' hgrow) | (at_builtin; refine wpList_append_own _ rfl (.tmp 25) (.tmp 28) 96 rfl B 5 i0 (.int .u8 0) 1 1 Tryd.underlying96 hi hz0 hz1 hz2 rfl (by decide) _ _ _ rfl (p2.alloc _) ⟨_, 0, none⟩ 1 1 [.int .u8 (n % 256)] rfl rfl (cell_one_at _ _ _ _ (size_setCell _ _ _).symm) (fun x hx => by simp at hx; subst hx; rfl) (by unfold maxLen; omega) (by omega) (by have := hbel.size; simp only [World.size_alloc]; omega) ?_; intro v2 w3 hown3 hgrow3 _; obtain ⟨hb3, d3, f3⟩ := bw_grown ((Lib.alloc_old _ _ b (heap_lt p1)).trans p1) (p2.alloc _) p3 hgrow3; obtain ⟨ao3, cap3, hv3⟩ := slice_of_own hown3; subst hv3))
  go_end0
  refine ⟨rfl, BwAt.put (bs' := bs ++ [.int .u8 (n / 256), .int .u8 (n % 256)]) hB hb3 (by simpa using hown3), ?_, ?_⟩
  · exact ((hbel.alloc (by have := hbel.size; omega) _).grown hgrow3 (by have := hbel.size; simp only [World.size_alloc]; omega) (fun k hk => (p2.lt k hk).1)).setCell (p := ⟨b, 0, none⟩) hB _
  · exact ((hke.trans (Keeps.alloc b _ _)).trans (Keeps.grown hgrow3 (p2.alloc _))).trans (Keeps.setCell b 0 _ _)

set_option maxHeartbeats 1000000 in
set_option maxRecDepth 100000 in
theorem bwPath_any (B b : Nat) (bs : List Value) (s : ByteArray) (w : World) (h : BwAt B b bs w) (hlen : bs.length ≤ 100000000) (hBw : B ≤ w.heap.size) (hs : s.size ≤ 255) :
    Calls Tryd.prog 165 #[.pointer (some ⟨b, 0, none⟩), .string s] w fun e w' => e = .returned (.tuple #[]) ∧ BwAt B b (bs ++ (.int .u8 s.size :: Lib.strCells s)) w' ∧ Below B w w' ∧ Keeps b w w' := by
  obtain ⟨i0, hi, hz0, hz1, hz2⟩ := info_parts info5
  have hlt := h.lt
  obtain ⟨hB, v, hbk, hown, hne⟩ := h
  have c0 : w.cell? ⟨b, 0, none⟩ = some v := by rw [Lib.cell_of_heap hbk]; rfl
  have hbk1 : ∀ o, (w.alloc o).heap[b]? = some (.cells #[v] 98 (0, 0)) := fun o => (Lib.alloc_old w o b hlt).trans hbk
  go_enter Tryd.func165, Tryd.ntmps165
  go_wp2_with (first | (at_builtin; refine wpList_append_own _ rfl (.tmp 8) (.tmp 12) 96 rfl B 5 i0 (.int .u8 0) 1 1 Tryd.underlying96 hi hz0 hz1 hz2 rfl (by decide) _ _ _ rfl (hown.alloc _) ⟨_, 0, none⟩ 1 1 [.int .u8 s.size] rfl rfl (cell_one_new _ _ _) (fun x hx => by simp at hx; subst hx; rfl) (by unfold maxLen; omega) (by omega) (by simp only [World.size_alloc]; omega) ?_; intro v1 w2 hown' hgrow _; obtain ⟨hb2, d0, f0⟩ := bw_grown (hbk1 _) (hown.alloc _) hne hgrow; obtain ⟨ao, cap, hv'⟩ := slice_of_own hown'; subst hv'; obtain ⟨p1, p2, p3⟩ := bw_put hb2 hown'; have hbel := (((Below.refl B w).alloc hBw _).grown hgrow (by simp only [World.size_alloc]; omega) (fun k hk => (hown.lt k hk).1)).setCell (p := ⟨b, 0, none⟩) hB (.slice ao (bs.length + 1) cap); have hke := ((Keeps.alloc b w _).trans (Keeps.grown hgrow (hown.alloc _))).trans (Keeps.setCell b 0 _ (.slice ao (bs.length + 1) cap)); clear hown' hgrow) | (at_builtin; refine Lib.wpList_append_own_string _ rfl (.tmp 20) (.tmp 21) 96 9 rfl B 5 i0 Tryd.underlying96 Tryd.underlying9 hi hz0 hz1 hz2 _ _ _ rfl p2 s rfl (by unfold maxLen; omega) (by omega) (by have := hbel.size; omega) ?_; intro v2 w3 hown3 hgrow3 _; obtain ⟨hb3, d3, f3⟩ := bw_grown p1 p2 p3 hgrow3; obtain ⟨ao3, cap3, hv3⟩ := slice_of_own hown3; subst hv3))
  go_end0
  refine ⟨rfl, BwAt.put (bs' := bs ++ (.int .u8 s.size :: Lib.strCells s)) hB hb3 ?_, ?_, ?_⟩
  · have e1 : (bs ++ (Value.int .u8 s.size :: Lib.strCells s)).length = bs.length + 1 + s.size := by simp [Lib.strCells_length]; omega
    rw [e1]; simpa using hown3
  · exact (hbel.grown hgrow3 (by have := hbel.size; omega) (fun k hk => (p2.lt k hk).1)).setCell (p := ⟨b, 0, none⟩) hB _
  · exact (hke.trans (Keeps.grown hgrow3 p2)).trans (Keeps.setCell b 0 _ _)
end Go.Proofs.YtjaepomjdknieaaDoor
