/- The program's writing of one operation as a line. -/
import Derived.Test.YtjaepomjdknieaaDoorG
import Derived.Test.YtjaepomjdknieaaDoorP
import Derived.Test.YtjaepomjdknieaaDoorS2
import Derived.WalkSmall
import Derived.Lib.ItoaLen
namespace Go.Proofs.YtjaepomjdknieaaDoor
open Go.RowKit
set_option linter.unusedVariables false

theorem Gd.belowB {B : Nat} {w w' : World} (h : Gd w) (hB : 8 ≤ B) (hb : Below B w w') : Gd w' where
  big := by have := hb.size; have := h.big; omega
  len := by obtain ⟨m, hm⟩ := h.len; exact ⟨m, cell_kept hb (by omega) hm⟩
  need := fun k hk j v hv => cell_kept hb (by omega) (h.need k hk j v hv)
  tab := var?_below hb gPow (by omega) h.tab

theorem below_growK (w : World) (k : Nat) (os : Array Obj) : Below w.heap.size w (Go.Sort.grow (w.drewN k) os) := by
  refine ⟨rfl, rfl, rfl, ?_, fun i hi => ?_⟩
  · simp [Go.Sort.grow, World.drewN]
  · simp only [Go.Sort.grow, World.drewN]
    rw [Array.getElem?_append_left (by simpa using hi)]

theorem itoa_any (n : Int) (w : World) (hg : Gd w) (h0 : 0 ≤ n) (h1 : n ≤ 65535) :
    Calls Tryd.prog 69 #[.int .i64 n] w fun e w' => e = .returned (.string ⟨(Lib.itoa n).toArray⟩) ∧ Below w.heap.size w w' := by
  refine (Tryd.strconv_Itoa n (by omega) (by omega) w hg.tab).mono ?_
  rintro e w' ⟨rfl, k, os, rfl⟩
  exact ⟨rfl, below_growK w k os⟩

theorem LwAt.below {B b : Nat} {bs : List Value} {w w' : World} (h : LwAt B b bs w) (hb : Below w.heap.size w w') : LwAt B b bs w' := by
  have hl := h.lt
  have own : ∀ {v : Value}, w.ownsRow B 5 1 v bs.length bs → w'.ownsRow B 5 1 v bs.length bs := fun {v} ho =>
    ho.kept (row := none) ⟨hb.os, hb.tape, hb.output, hb.size, fun k hk _ => hb.block k hk⟩ (by cases hv : v.ownBlock <;> simp)
  rcases h with ⟨hB, v, hbk, hown, hne⟩ | ⟨hB, v, hbk, hown, hne⟩
  · exact Or.inl ⟨hB, v, (hb.block b hl).trans hbk, own hown, hne⟩
  · exact Or.inr ⟨hB, v, (hb.block b hl).trans hbk, own hown, hne⟩
theorem Keeps.below {b : Nat} {w w' : World} (hb : Below w.heap.size w w') : Keeps b w w' := fun k cs T fr _ _ h => (hb.block k (heap_lt h)).trans h

def linPath (s : ByteArray) : List Value := .int .u8 32 :: Lib.strCells s
def linNum (n : Int) : List Value := linPath ⟨(Lib.itoa n).toArray⟩

set_option maxHeartbeats 2000000 in
set_option maxRecDepth 100000 in
theorem lwNumber_any (B b : Nat) (bs : List Value) (n high : Int) (w : World) (hg : Gd w) (h : LwAt B b bs w) (hlen : bs.length ≤ 90000000) (hBw : B ≤ w.heap.size) (h0 : 0 ≤ n) (h1 : n ≤ 65535) :
    Calls Tryd.prog 166 #[.pointer (some ⟨b, 0, none⟩), .int .i64 n, .int .i64 high] w fun e w' => e = .returned (.tuple #[]) ∧ (LwUsed B b (bs ++ linNum n) w' ∧ Below B w w' ∧ Keeps b w w') := by
  go_enter Tryd.func166, Tryd.ntmps166
  go_wp2_with fail
  refine (itoa_any n w hg h0 h1).mono ?_
  rintro e w1 ⟨rfl, hb1⟩
  have hz1 := hb1.size
  have hil := Lib.itoa_length_le n (by omega) (by omega)
  go_wp2_with fail
  refine (lwPath_any B b bs ⟨(Lib.itoa n).toArray⟩ w1 (h.below hb1) hlen (by show (Lib.itoa n).toArray.size ≤ _; simp; omega) (by omega)).mono ?_
  rintro e w2 ⟨rfl, h2, hb2, hk2⟩
  go_wp2
  go_end0
  exact ⟨rfl, h2, (hb1.mono hBw).trans hb2, (Keeps.below hb1).trans hk2⟩

theorem meth_lwPath (a : Addr) (w : World) : (method 318 103 (.pointer (some a)) "convoy/scripts.path").run Tryd.prog w = .ok (167, .pointer (some a)) w := by kernel_rfl
theorem meth_lwNumber (a : Addr) (w : World) : (method 318 103 (.pointer (some a)) "convoy/scripts.number").run Tryd.prog w = .ok (166, .pointer (some a)) w := by kernel_rfl

/-- The writer, and the two boxes of the call that writes an operation. -/
structure WiL (B b X : Nat) (cs1 cs2 : Array Value) (w0 : World) (bs : List Value) (w : World) : Prop where
  lw : LwAt B b bs w
  bel : Below B w0 w
  ke : Keeps b w0 w
  one : w.heap[X]? = some (.cells cs1 71 (0, 0))
  two : w.heap[X + 1]? = some (.cells cs2 114 (0, 0))
  hB : B ≤ w.heap.size
  lt : b < X
  gd : Gd w
  h8 : 8 ≤ B

theorem WiL.next {B b X : Nat} {cs1 cs2 : Array Value} {w0 w w' : World} {bs bs' : List Value} (h : WiL B b X cs1 cs2 w0 bs w) (hlw : LwUsed B b bs' w') (hb : Below B w w') (hk : Keeps b w w') :
    WiL B b X cs1 cs2 w0 bs' w' ∧ (∀ j, w'.cell? ⟨X, j, none⟩ = cs1[j]?) ∧ (∀ j, w'.cell? ⟨X + 1, j, none⟩ = cs2[j]?) := by
  have o1 := hk X _ _ _ (by have := h.lt; omega) (by decide) h.one
  have o2 := hk (X + 1) _ _ _ (by have := h.lt; omega) (by decide) h.two
  exact ⟨⟨hlw.at, h.bel.trans hb, h.ke.trans hk, o1, o2, Nat.le_trans h.hB hb.size, h.lt, h.gd.belowB h.h8 hb, h.h8⟩, fun j => Lib.cell_of_heap o1 j, fun j => Lib.cell_of_heap o2 j⟩

theorem WiL.path {B b X : Nat} {cs1 cs2 : Array Value} {w0 w : World} {bs : List Value} (h : WiL B b X cs1 cs2 w0 bs w) (s : ByteArray) (hlen : bs.length ≤ 90000000) (hs : s.size ≤ 255) :
    Calls Tryd.prog 167 #[.pointer (some ⟨b, 0, none⟩), .string s] w fun e w' => e = .returned (.tuple #[]) ∧ WiL B b X cs1 cs2 w0 (bs ++ linPath s) w' ∧ (∀ j, w'.cell? ⟨X, j, none⟩ = cs1[j]?) ∧ (∀ j, w'.cell? ⟨X + 1, j, none⟩ = cs2[j]?) := by
  refine (lwPath_any B b bs s w h.lw hlen (by omega) h.hB).mono ?_
  rintro e w' ⟨rfl, h1, h2, h3⟩
  exact ⟨rfl, h.next h1 h2 h3⟩
theorem WiL.num {B b X : Nat} {cs1 cs2 : Array Value} {w0 w : World} {bs : List Value} (h : WiL B b X cs1 cs2 w0 bs w) (n high : Int) (hlen : bs.length ≤ 90000000) (h0 : 0 ≤ n) (h1 : n ≤ 65535) :
    Calls Tryd.prog 166 #[.pointer (some ⟨b, 0, none⟩), .int .i64 n, .int .i64 high] w fun e w' => e = .returned (.tuple #[]) ∧ WiL B b X cs1 cs2 w0 (bs ++ linNum n) w' ∧ (∀ j, w'.cell? ⟨X, j, none⟩ = cs1[j]?) ∧ (∀ j, w'.cell? ⟨X + 1, j, none⟩ = cs2[j]?) := by
  refine (lwNumber_any B b bs n high w h.gd h.lw hlen h.hB h0 h1).mono ?_
  rintro e w' ⟨rfl, h1, h2, h3⟩
  exact ⟨rfl, h.next h1 h2 h3⟩

theorem WiL.start {B b : Nat} {bs : List Value} {w : World} (hg : Gd w) (h8 : 8 ≤ B) (h : LwAt B b bs w) (hBw : B ≤ w.heap.size) (cs1 cs2 : Array Value) : WiL B b w.heap.size cs1 cs2 w bs ((w.alloc (.cells cs1 71)).alloc (.cells cs2 114)) where
  lw := (h.alloc _).alloc _
  bel := ((Below.refl _ _).alloc hBw _).alloc (by simp only [World.size_alloc]; omega) _
  ke := (Keeps.alloc b w _).trans (Keeps.alloc b _ _)
  one := by rw [Lib.alloc_old _ _ _ (by simp only [World.size_alloc]; omega)]; exact heap_alloc_new w _
  two := by have := heap_alloc_new (w.alloc (.cells cs1 71)) (.cells cs2 114); simpa only [World.size_alloc] using this
  hB := by simp only [World.size_alloc]; omega
  lt := h.lt
  gd := (hg.alloc _).alloc _
  h8 := h8

def linTail (o : OpD) (n : Need) : List Value := linPath o.path ++ (if n.td then linPath o.dest else []) ++ (if n.fi then linNum o.id ++ linNum o.size else []) ++ (if n.mo then linNum o.mode else [])
theorem linPath_length (s : ByteArray) : (linPath s).length = s.size + 1 := by simp [linPath, Lib.strCells_length]
theorem linNum_length (n : Int) (h0 : 0 ≤ n) (h1 : n ≤ 65535) : (linNum n).length ≤ 22 := by
  have := Lib.itoa_length_le n (by omega) (by omega)
  rw [linNum, linPath_length]
  show (Lib.itoa n).toArray.size + 1 ≤ 22
  simp; omega

set_option maxHeartbeats 2000000 in
set_option maxRecDepth 100000 in
theorem writeOpL_any (o : OpD) (hf : o.fit) (K : Nat) (hK : o.kind = (K : Int)) (h1 : 1 ≤ K) (h7 : K ≤ 7) (wd : ByteArray) (sp td fi mo : Bool) (B b : Nat) (bs : List Value) (w : World) (hg : Gd w) (h : LwAt B b bs w) (hlen : bs.length ≤ 10000000) (hBw : B ≤ w.heap.size) (hB8 : 8 ≤ B)
    (hn : ∀ j v, (Need.cells ⟨wd, sp, td, fi, mo⟩)[j]? = some v → w.cell? ⟨0, K * 5 + j, none⟩ = some v) :
    Calls Tryd.prog 63 #[.iface 103 (.pointer (some ⟨b, 0, none⟩)), .agg #[.int .i64 o.kind, .string o.path, .string o.dest, .int .i64 o.id, .int .i64 o.size, .int .i64 o.mode]] w fun e w' => e = .returned (.tuple #[]) ∧ LwAt B b (bs ++ linTail o ⟨wd, sp, td, fi, mo⟩) w' ∧ Below B w w' ∧ Keeps b w w' := by
  have c0 := past1 (by omega) (hn 0 _ rfl)
  have c1 := past1 (by omega) (hn 1 _ rfl)
  have c2 := past1 (by omega) (hn 2 _ rfl)
  have c3 := past1 (by omega) (hn 3 _ rfl)
  have c4 := past1 (by omega) (hn 4 _ rfl)
  simp only [Nat.add_zero] at c0
  clear hn
  rw [hK]
  obtain ⟨p1, p2, p3, p4, p5, p6, p7, p8⟩ := hf
  have hst := WiL.start hg hB8 h hBw #[.int .i64 (K : Int), .string o.path, .string o.dest, .int .i64 o.id, .int .i64 o.size, .int .i64 o.mode] #[.string wd, .bool sp, .bool td, .bool fi, .bool mo]
  have m1 := meth_lwPath
  have m2 := meth_lwNumber
  have L1 : Hid ((linPath o.path).length = o.path.size + 1) := linPath_length o.path
  have L2 : Hid ((linPath o.dest).length = o.dest.size + 1) := linPath_length o.dest
  have N1 : Hid ((linNum o.id).length ≤ 22) := linNum_length o.id p3 p4
  have N2 : Hid ((linNum o.size).length ≤ 22) := linNum_length o.size p5 (by omega)
  have p6' : o.size ≤ 65535 := by omega
  have HG : Hid (Gd w) := hg
  have HL : Hid (LwAt B b bs w) := h
  clear hg h
  cases td <;> cases fi <;> cases mo
  all_goals
    go_enter Tryd.func63, Tryd.ntmps63
    go_wp2_with (first | (go_at_call 167; refine (WiL.path (by assumption) _ (by have a1 := L1.out; have a2 := L2.out; have a3 := N1.out; have a4 := N2.out; (try simp only [List.length_append]); omega) (by assumption)).mono ?_; rintro e w5 ⟨rfl, hwi, hx1, hx2⟩) | (go_at_call 166; refine (WiL.num (by assumption) _ _ (by have a1 := L1.out; have a2 := L2.out; have a3 := N1.out; have a4 := N2.out; (try simp only [List.length_append]); omega) (by assumption) (by assumption)).mono ?_; rintro e w5 ⟨rfl, hwi, hx1, hx2⟩))
    go_end0
    refine ⟨rfl, ?_, hwi.bel, hwi.ke⟩
    have hh := hwi.lw
    simpa [linTail] using hh
end Go.Proofs.YtjaepomjdknieaaDoor
