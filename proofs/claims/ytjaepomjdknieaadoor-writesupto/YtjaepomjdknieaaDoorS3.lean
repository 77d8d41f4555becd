/- Scripts as text: the plain function. -/
import Derived.Test.YtjaepomjdknieaaDoorQ
namespace Go.Proofs.YtjaepomjdknieaaDoor
open Go.RowKit

def lp8 (s : ByteArray) : List UInt8 := 32 :: s.data.toList
def ln8 (n : Int) : List UInt8 := 32 :: Lib.itoa n
def ltail8 (o : OpD) (n : Need) : List UInt8 := lp8 o.path ++ (if n.td then lp8 o.dest else []) ++ (if n.fi then ln8 o.id ++ ln8 o.size else []) ++ (if n.mo then ln8 o.mode else [])
def line8 (o : OpD) : List UInt8 := (needOf o.kind.toNat).word.data.toList ++ ltail8 o (needOf o.kind.toNat) ++ [10]
def lines8 (l : List OpD) (k : Nat) : List UInt8 := ((l.take k).map line8).flatten
def prt8 (l : List OpD) : List UInt8 := (l.map line8).flatten

theorem lp8_cells (s : ByteArray) : linPath s = Lib.byteCells (lp8 s) := rfl
theorem ln8_cells (n : Int) : linNum n = Lib.byteCells (ln8 n) := by
  simp [linNum, linPath, ln8, Lib.byteCells, Lib.strCells]
theorem ltail8_cells (o : OpD) (n : Need) : linTail o n = Lib.byteCells (ltail8 o n) := by
  unfold linTail ltail8
  rw [byteCells_append, byteCells_append, byteCells_append]
  have e1 : (if n.td = true then linPath o.dest else []) = Lib.byteCells (if n.td = true then lp8 o.dest else []) := by split <;> rfl
  have e2 : (if n.fi = true then linNum o.id ++ linNum o.size else []) = Lib.byteCells (if n.fi = true then ln8 o.id ++ ln8 o.size else []) := by
    split
    · rw [byteCells_append, ln8_cells, ln8_cells]
    · rfl
  have e3 : (if n.mo = true then linNum o.mode else []) = Lib.byteCells (if n.mo = true then ln8 o.mode else []) := by
    split
    · exact ln8_cells _
    · rfl
  rw [lp8_cells, e1, e2, e3]
theorem lines8_succ (l : List OpD) (k : Nat) (h : k < l.length) : lines8 l (k + 1) = lines8 l k ++ line8 l[k] := by
  unfold lines8; rw [List.take_succ_eq_append_getElem h]; simp only [List.map_append, List.map_cons, List.map_nil, List.flatten_append, List.flatten_cons, List.flatten_nil, List.append_nil]
theorem needWord_len (k : Nat) : (needOf k).word.size ≤ 6 := by
  unfold needOf; split <;> decide
theorem ltail8_length (o : OpD) (n : Need) (h : o.fit) : (ltail8 o n).length ≤ 700 := by
  have a1 := h.path
  have a2 := h.dest
  have l1 := lenD o.path
  have l2 := lenD o.dest
  have i1 := Lib.itoa_length_le o.id (by have := h.id0; omega) (by have := h.id1; omega)
  have i2 := Lib.itoa_length_le o.size (by have := h.size0; omega) (by have := h.size1; omega)
  have i3 := Lib.itoa_length_le o.mode (by have := h.mode0; omega) (by have := h.mode1; omega)
  unfold ltail8 lp8 ln8
  split <;> split <;> split <;> simp <;> omega
theorem line8_length (o : OpD) (h : o.fit) : (line8 o).length ≤ 710 := by
  have h1 := ltail8_length o (needOf o.kind.toNat) h
  have h2 := needWord_len o.kind.toNat
  rw [← lenD] at h2
  simp only [line8, List.length_append, List.length_cons, List.length_nil]
  omega
theorem lines8_length (l : List OpD) (h : ∀ o ∈ l, o.fit) : ∀ k, k ≤ l.length → (lines8 l k).length ≤ 710 * k := by
  intro k
  induction k with
  | zero => intro _; simp [lines8]
  | succ k ih =>
    intro hk
    have h1 := ih (by omega)
    rw [lines8_succ l k (by omega), List.length_append]
    have h2 := line8_length l[k] (h _ (List.getElem_mem _))
    omega
theorem line8_ne (o : OpD) : line8 o ≠ [] := by simp [line8]
def prtS (l : List OpD) : ByteArray := if scriptB l then ⟨(prt8 l).toArray⟩ else ⟨#[]⟩
end Go.Proofs.YtjaepomjdknieaaDoor
