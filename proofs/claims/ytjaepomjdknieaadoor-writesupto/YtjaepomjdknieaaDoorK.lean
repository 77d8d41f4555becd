/- The program's writing of one operation as bytes. -/
import Derived.Test.YtjaepomjdknieaaDoorG
import Derived.Test.YtjaepomjdknieaaDoorJ
namespace Go.Proofs.YtjaepomjdknieaaDoor
open Go.RowKit
set_option linter.unusedVariables false

def encPath (s : ByteArray) : List Value := .int .u8 s.size :: Lib.strCells s
def enc2 (n : Int) : List Value := [.int .u8 (n / 256), .int .u8 (n % 256)]
def encTail (o : OpD) (n : Need) : List Value := encPath o.path ++ (if n.td then encPath o.dest else []) ++ (if n.fi then enc2 o.id ++ [.int .u8 o.size] else []) ++ (if n.mo then enc2 o.mode else [])

structure OpD.fit (o : OpD) : Prop where
  path : o.path.size ≤ 255
  dest : o.dest.size ≤ 255
  id0 : 0 ≤ o.id
  id1 : o.id ≤ 65535
  size0 : 0 ≤ o.size
  size1 : o.size ≤ 255
  mode0 : 0 ≤ o.mode
  mode1 : o.mode ≤ 65535

theorem meth_bwPath (a : Addr) (w : World) : (method 318 95 (.pointer (some a)) "convoy/scripts.path").run Tryd.prog w = .ok (165, .pointer (some a)) w := by kernel_rfl
theorem meth_bwNumber (a : Addr) (w : World) : (method 318 95 (.pointer (some a)) "convoy/scripts.number").run Tryd.prog w = .ok (62, .pointer (some a)) w := by kernel_rfl

/-- The writer, and the two boxes of the call that writes an operation. -/
structure Wi (B b X : Nat) (cs1 cs2 : Array Value) (w0 : World) (bs : List Value) (w : World) : Prop where
  bw : BwAt B b bs w
  bel : Below B w0 w
  ke : Keeps b w0 w
  one : w.heap[X]? = some (.cells cs1 71 (0, 0))
  two : w.heap[X + 1]? = some (.cells cs2 114 (0, 0))
  hB : B ≤ w.heap.size
  lt : b < X

theorem Wi.next {B b X : Nat} {cs1 cs2 : Array Value} {w0 w w' : World} {bs bs' : List Value} (h : Wi B b X cs1 cs2 w0 bs w) (hbw : BwAt B b bs' w') (hb : Below B w w') (hk : Keeps b w w') :
    Wi B b X cs1 cs2 w0 bs' w' ∧ (∀ j, w'.cell? ⟨X, j, none⟩ = cs1[j]?) ∧ (∀ j, w'.cell? ⟨X + 1, j, none⟩ = cs2[j]?) := by
  have o1 := hk X _ _ _ (by have := h.lt; omega) (by decide) h.one
  have o2 := hk (X + 1) _ _ _ (by have := h.lt; omega) (by decide) h.two
  exact ⟨⟨hbw, h.bel.trans hb, h.ke.trans hk, o1, o2, Nat.le_trans h.hB hb.size, h.lt⟩, fun j => Lib.cell_of_heap o1 j, fun j => Lib.cell_of_heap o2 j⟩

theorem Wi.path {B b X : Nat} {cs1 cs2 : Array Value} {w0 w : World} {bs : List Value} (h : Wi B b X cs1 cs2 w0 bs w) (s : ByteArray) (hlen : bs.length ≤ 100000000) (hs : s.size ≤ 255) :
    Calls Tryd.prog 165 #[.pointer (some ⟨b, 0, none⟩), .string s] w fun e w' => e = .returned (.tuple #[]) ∧ Wi B b X cs1 cs2 w0 (bs ++ encPath s) w' ∧ (∀ j, w'.cell? ⟨X, j, none⟩ = cs1[j]?) ∧ (∀ j, w'.cell? ⟨X + 1, j, none⟩ = cs2[j]?) := by
  refine (bwPath_any B b bs s w h.bw hlen h.hB hs).mono ?_
  rintro e w' ⟨rfl, h1, h2, h3⟩
  exact ⟨rfl, h.next h1 h2 h3⟩
def encN (high n : Int) : List Value := if 255 < high then enc2 n else [.int .u8 n]
def maxN (high : Int) : Int := if 255 < high then 65535 else 255
theorem Wi.num {B b X : Nat} {cs1 cs2 : Array Value} {w0 w : World} {bs : List Value} (h : Wi B b X cs1 cs2 w0 bs w) (n high : Int) (hlen : bs.length ≤ 100000000) (h0 : 0 ≤ n) (h1 : n ≤ maxN high) :
    Calls Tryd.prog 62 #[.pointer (some ⟨b, 0, none⟩), .int .i64 n, .int .i64 high] w fun e w' => e = .returned (.tuple #[]) ∧ Wi B b X cs1 cs2 w0 (bs ++ encN high n) w' ∧ (∀ j, w'.cell? ⟨X, j, none⟩ = cs1[j]?) ∧ (∀ j, w'.cell? ⟨X + 1, j, none⟩ = cs2[j]?) := by
  by_cases hh : 255 < high
  · refine (number2_any B b bs n high w h.bw hlen h.hB hh h0 (by simpa [maxN, hh] using h1)).mono ?_
    rintro e w' ⟨rfl, h1, h2, h3⟩
    exact ⟨rfl, h.next (by simpa [encN, hh, enc2] using h1) h2 h3⟩
  · refine (number1_any B b bs n high w h.bw hlen h.hB (by omega) h0 (by simpa [maxN, hh] using h1)).mono ?_
    rintro e w' ⟨rfl, h1, h2, h3⟩
    exact ⟨rfl, h.next (by simpa [encN, hh] using h1) h2 h3⟩
theorem encN_length (high n : Int) : (encN high n).length ≤ 2 := by unfold encN; split <;> simp [enc2]

theorem Wi.start {B b : Nat} {bs : List Value} {w : World} (h : BwAt B b bs w) (hBw : B ≤ w.heap.size) (cs1 cs2 : Array Value) : Wi B b w.heap.size cs1 cs2 w bs ((w.alloc (.cells cs1 71)).alloc (.cells cs2 114)) where
  bw := (h.alloc _).alloc _
  bel := ((Below.refl _ _).alloc hBw _).alloc (by simp only [World.size_alloc]; omega) _
  ke := (Keeps.alloc b w _).trans (Keeps.alloc b _ _)
  one := by rw [Lib.alloc_old _ _ _ (by simp only [World.size_alloc]; omega)]; exact heap_alloc_new w _
  two := by have := heap_alloc_new (w.alloc (.cells cs1 71)) (.cells cs2 114); simpa only [World.size_alloc] using this
  hB := by simp only [World.size_alloc]; omega
  lt := h.lt

theorem encPath_length (s : ByteArray) : (encPath s).length = s.size + 1 := by simp [encPath, Lib.strCells_length]

set_option maxHeartbeats 2000000 in
set_option maxRecDepth 100000 in
theorem writeOpB_any (o : OpD) (hf : o.fit) (K : Nat) (hK : o.kind = (K : Int)) (h1 : 1 ≤ K) (h7 : K ≤ 7) (wd : ByteArray) (sp td fi mo : Bool) (B b : Nat) (bs : List Value) (w : World) (h : BwAt B b bs w) (hlen : bs.length ≤ 10000000) (hBw : B ≤ w.heap.size) (hB8 : 8 ≤ B)
    (hn : ∀ j v, (Need.cells ⟨wd, sp, td, fi, mo⟩)[j]? = some v → w.cell? ⟨0, K * 5 + j, none⟩ = some v) :
    Calls Tryd.prog 63 #[.iface 95 (.pointer (some ⟨b, 0, none⟩)), .agg #[.int .i64 o.kind, .string o.path, .string o.dest, .int .i64 o.id, .int .i64 o.size, .int .i64 o.mode]] w fun e w' => e = .returned (.tuple #[]) ∧ BwAt B b (bs ++ encTail o ⟨wd, sp, td, fi, mo⟩) w' ∧ Below B w w' ∧ Keeps b w w' := by
  have c0 := past1 (by omega) (hn 0 _ rfl)
  have c1 := past1 (by omega) (hn 1 _ rfl)
  have c2 := past1 (by omega) (hn 2 _ rfl)
  have c3 := past1 (by omega) (hn 3 _ rfl)
  have c4 := past1 (by omega) (hn 4 _ rfl)
  simp only [Nat.add_zero] at c0
  clear hn
  rw [hK]
  obtain ⟨p1, p2, p3, p4, p5, p6, p7, p8⟩ := hf
  have hst := Wi.start h hBw #[.int .i64 (K : Int), .string o.path, .string o.dest, .int .i64 o.id, .int .i64 o.size, .int .i64 o.mode] #[.string wd, .bool sp, .bool td, .bool fi, .bool mo]
  have m1 := meth_bwPath
  have m2 := meth_bwNumber
  have l1 := encPath_length o.path
  have l2 := encPath_length o.dest
  have L1 : Hid ((encPath o.path).length = o.path.size + 1) := l1
  have L2 : Hid ((encPath o.dest).length = o.dest.size + 1) := l2
  clear l1 l2
  have n1 : Hid (∀ high n, (encN high n).length ≤ 2) := encN_length
  have q1 : o.id ≤ maxN 9999 := by simpa [maxN] using p4
  have q2 : o.size ≤ maxN 100 := by simpa [maxN] using p6
  have q3 : o.mode ≤ maxN 511 := by simpa [maxN] using p8
  cases td <;> cases fi <;> cases mo
  all_goals
    go_enter Tryd.func63, Tryd.ntmps63
    go_wp2_with (first | (go_at_call 165; refine (Wi.path (by assumption) _ (by have a1 := L1.out; have a2 := L2.out; have a3 := n1.out 9999 o.id; have a4 := n1.out 100 o.size; (try simp only [List.length_append]); omega) (by assumption)).mono ?_; rintro e w5 ⟨rfl, hwi, hx1, hx2⟩) | (go_at_call 62; refine (Wi.num (by assumption) _ _ (by have a1 := L1.out; have a2 := L2.out; have a3 := n1.out 9999 o.id; have a4 := n1.out 100 o.size; (try simp only [List.length_append]); omega) (by assumption) (by assumption)).mono ?_; rintro e w5 ⟨rfl, hwi, hx1, hx2⟩))
    go_end0
    refine ⟨rfl, ?_, hwi.bel, hwi.ke⟩
    have hh := hwi.bw
    simpa [encTail, encN] using hh
end Go.Proofs.YtjaepomjdknieaaDoor
