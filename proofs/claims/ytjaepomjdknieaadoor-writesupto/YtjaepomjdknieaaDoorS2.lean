/- Scripts as bytes: the plain function. -/
import Derived.Test.YtjaepomjdknieaaDoorK
namespace Go.Proofs.YtjaepomjdknieaaDoor
open Go.RowKit

def b8 (n : Int) : UInt8 := UInt8.ofNat n.toNat
def two8 (n : Int) : List UInt8 := [b8 (n / 256), b8 (n % 256)]
def text8 (s : ByteArray) : List UInt8 := b8 s.size :: s.data.toList
def tail8 (o : OpD) (n : Need) : List UInt8 := text8 o.path ++ (if n.td then text8 o.dest else []) ++ (if n.fi then two8 o.id ++ [b8 o.size] else []) ++ (if n.mo then two8 o.mode else [])
def op8 (o : OpD) : List UInt8 := b8 o.kind :: tail8 o (needOf o.kind.toNat)
def enc8 (l : List OpD) : List UInt8 := two8 l.length ++ (l.map op8).flatten

theorem b8_cell (n : Int) (h0 : 0 ≤ n) (h1 : n ≤ 255) : Value.int .u8 n = .int .u8 ((b8 n).toNat : Int) := by
  congr 1
  unfold b8
  rw [UInt8.toNat_ofNat_of_lt' (by show n.toNat < 256; omega)]
  omega
theorem two8_cells (n : Int) (h0 : 0 ≤ n) (h1 : n ≤ 65535) : enc2 n = Lib.byteCells (two8 n) := by
  simp only [enc2, two8, Lib.byteCells, List.map_cons, List.map_nil]
  rw [b8_cell (n / 256) (by omega) (by omega), b8_cell (n % 256) (by omega) (by omega)]
theorem text8_cells (s : ByteArray) (h : s.size ≤ 255) : encPath s = Lib.byteCells (text8 s) := by
  simp only [encPath, text8, Lib.byteCells, List.map_cons, Lib.strCells]
  rw [b8_cell s.size (by omega) (by omega)]
theorem byteCells_append (a b : List UInt8) : Lib.byteCells (a ++ b) = Lib.byteCells a ++ Lib.byteCells b := by simp [Lib.byteCells]
theorem tail8_cells (o : OpD) (n : Need) (h : o.fit) : encTail o n = Lib.byteCells (tail8 o n) := by
  obtain ⟨p1, p2, p3, p4, p5, p6, p7, p8⟩ := h
  unfold encTail tail8
  simp only [byteCells_append, text8_cells _ p1]
  have e1 : (if n.td = true then encPath o.dest else []) = Lib.byteCells (if n.td = true then text8 o.dest else []) := by
    split
    · exact text8_cells _ p2
    · rfl
  have e2 : (if n.fi = true then enc2 o.id ++ [.int .u8 o.size] else []) = Lib.byteCells (if n.fi = true then two8 o.id ++ [b8 o.size] else []) := by
    split
    · rw [byteCells_append, ← two8_cells _ p3 p4, b8_cell o.size p5 p6]; rfl
    · rfl
  have e3 : (if n.mo = true then enc2 o.mode else []) = Lib.byteCells (if n.mo = true then two8 o.mode else []) := by
    split
    · exact two8_cells _ p7 p8
    · rfl
  rw [e1, e2, e3]

/-- An operation that may be is small. -/
theorem spl_sum (l : List UInt8) : l.length + 1 = ((spl l).map fun p => p.length + 1).sum := by
  have h : ∀ (l : List UInt8) (st : List (List UInt8) × List UInt8), (((l.foldl splStep st).1 ++ [(l.foldl splStep st).2]).map fun p => p.length + 1).sum = ((st.1 ++ [st.2]).map fun p => p.length + 1).sum + l.length := by
    intro l
    induction l with
    | nil => intro st; simp
    | cons c l ih =>
      intro st
      rw [List.foldl_cons, ih]
      have e : (((splStep st c).1 ++ [(splStep st c).2]).map fun p => p.length + 1).sum = ((st.1 ++ [st.2]).map fun p => p.length + 1).sum + 1 := by
        unfold splStep
        split <;> simp <;> omega
      rw [e]; simp; omega
  have := h l ([], [])
  simp only [spl, splSt]
  rw [this]; simp; omega
theorem path_small (l : List UInt8) (h : pathL l = true) : l.length ≤ 255 := by
  simp only [pathL, Bool.and_eq_true, decide_eq_true_eq, List.all_eq_true] at h
  obtain ⟨h6, ha⟩ := h
  have hs := spl_sum l
  have hb : ∀ (L : List (List UInt8)), (∀ p ∈ L, p.length ≤ 8) → (L.map fun p => p.length + 1).sum ≤ 9 * L.length := by
    intro L
    induction L with
    | nil => intro _; simp
    | cons p L ih =>
      intro hp
      have h1 := ih (fun q hq => hp q (by simp [hq]))
      have h2 := hp p (by simp)
      simp; omega
  have := hb (spl l) (fun p hp => by
    have := ha p hp
    simp only [nmL, isNm, Bool.and_eq_true, decide_eq_true_eq] at this
    exact this.1.1.1.2)
  omega
theorem place_small (l : List UInt8) (sp : Bool) (h : placeB l sp = true) : l.length ≤ 255 := by
  simp only [placeB, Bool.or_eq_true, Bool.and_eq_true] at h
  rcases h with h | ⟨_, h⟩
  · exact path_small l h
  · simp only [spareL, Bool.and_eq_true, decide_eq_true_eq] at h
    omega
theorem fits_range {n lo hi : Int} {need : Bool} (h : fitsB n need lo hi = true) (h0 : 0 ≤ lo) (h1 : 0 ≤ hi) : 0 ≤ n ∧ n ≤ hi := by
  unfold fitsB at h
  split at h
  · simp only [withinB, Bool.and_eq_true, decide_eq_true_eq] at h; omega
  · simp only [decide_eq_true_eq] at h; omega
theorem okOp_fit (o : OpD) (h : okOp o = true) : o.fit ∧ 1 ≤ o.kind ∧ o.kind ≤ 7 := by
  simp only [okOp, opFits, Bool.and_eq_true, withinB, decide_eq_true_eq] at h
  obtain ⟨⟨k1, k7⟩, ⟨⟨⟨hp, ht⟩, hi⟩, hs⟩, hm⟩ := h
  have a1 := place_small _ _ hp
  have a2 : o.dest.data.toList.length ≤ 255 := by
    unfold toB at ht
    split at ht
    · exact place_small _ _ ht
    · have : o.dest.data.toList = [] := by simpa using ht
      rw [this]; simp
  rw [lenD] at a1 a2
  have b1 := fits_range hi (by omega) (by omega)
  have b2 := fits_range hs (by omega) (by omega)
  have b3 := fits_range hm (by omega) (by omega)
  exact ⟨⟨a1, a2, b1.1, by omega, b2.1, by omega, b3.1, by omega⟩, k1, k7⟩
end Go.Proofs.YtjaepomjdknieaaDoor
