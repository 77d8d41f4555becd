/- Places, and operations of a script: the program's test. -/
import Derived.Test.YtjaepomjdknieaaDoorE
namespace Go.Proofs.YtjaepomjdknieaaDoor
open Go.RowKit

def placeB (l : List UInt8) (spare : Bool) : Bool := pathL l || spare && spareL l
def toB (l : List UInt8) (need : Bool) : Bool := if need then placeB l true else l.isEmpty

theorem cell_kept {B : Nat} {w w' : World} {b o : Nat} {v : Value} (hb : Below B w w') (hB : b < B) (h : w.cell? ⟨b, o, none⟩ = some v) : w'.cell? ⟨b, o, none⟩ = some v :=
  (hb.cell (p := ⟨b, o, none⟩) hB).trans h

set_option maxHeartbeats 1000000 in
theorem isPlace_any (s : ByteArray) (spare : Bool) (m : Int) (w : World) (hs : s.size ≤ 1500000) (hm : w.cell? ⟨1, 0, none⟩ = some (.int .i64 m)) :
    Calls Tryd.prog 120 #[.string s, .bool spare] w fun e w' => e = .returned (.bool (placeB s.data.toList spare)) ∧ Below w.heap.size w w' := by
  by_cases hp : pathL s.data.toList = true
  · go_enter Tryd.func120, Tryd.ntmps120
    go_wp2_with (go_at_call 80; refine (isPath_any _ m _ hs hm).mono ?_; rintro e w1 ⟨rfl, hb⟩)
    all_goals
      go_ret
      exact ⟨ret_bool (by simp [placeB, hp]), hb⟩
  · simp only [Bool.not_eq_true] at hp
    cases spare
    · go_enter Tryd.func120, Tryd.ntmps120
      go_wp2_with (go_at_call 80; refine (isPath_any _ m _ hs hm).mono ?_; rintro e w1 ⟨rfl, hb⟩)
      all_goals
        go_ret
        exact ⟨ret_bool (by simp [placeB, hp]), hb⟩
    · go_enter Tryd.func120, Tryd.ntmps120
      go_wp2_with (first | (go_at_call 80; refine (isPath_any _ m _ hs hm).mono ?_; rintro e w1 ⟨rfl, hb⟩) | (go_at_call 138; refine (isSpare_any _ _ (by omega)).mono ?_; rintro e w1 ⟨rfl, rfl⟩))
      all_goals
        go_ret
        exact ⟨ret_bool (by simp [placeB, hp]), hb⟩

set_option maxHeartbeats 1000000 in
theorem toFits_any (s : ByteArray) (need : Bool) (m : Int) (w : World) (hs : s.size ≤ 1500000) (hm : w.cell? ⟨1, 0, none⟩ = some (.int .i64 m)) :
    Calls Tryd.prog 121 #[.string s, .bool need] w fun e w' => e = .returned (.bool (toB s.data.toList need)) ∧ Below w.heap.size w w' := by
  cases need
  · go_enter Tryd.func121, Tryd.ntmps121
    go_wp2
    go_ret
    exact ⟨ret_bool (by simp [toB, Lib.toList_data]), Below.refl _ _⟩
  · go_enter Tryd.func121, Tryd.ntmps121
    go_wp2_with (go_at_call 120; refine (isPlace_any _ _ m _ hs hm).mono ?_; rintro e w1 ⟨rfl, hb⟩)
    go_ret
    exact ⟨ret_bool (by simp [toB]), hb⟩

structure OpD where
  kind : Int
  path : ByteArray
  dest : ByteArray
  id : Int
  size : Int
  mode : Int
def OpD.cells (o : OpD) : List Value := [.int .i64 o.kind, .string o.path, .string o.dest, .int .i64 o.id, .int .i64 o.size, .int .i64 o.mode]

/-- What a kind needs: its word; may the path be a spare name; To; Id and Size; Mode. -/
structure Need where
  word : ByteArray
  sp : Bool
  td : Bool
  fi : Bool
  mo : Bool
def Need.cells (n : Need) : List Value := [.string n.word, .bool n.sp, .bool n.td, .bool n.fi, .bool n.mo]

def opFits (o : OpD) (n : Need) : Bool := placeB o.path.data.toList n.sp && toB o.dest.data.toList n.td && fitsB o.id n.fi 1 9999 && fitsB o.size n.fi 0 100 && fitsB o.mode n.mo 0 511

theorem bcell {W w1 : World} (hb : Below W.heap.size W w1) : (∀ b o, b < W.heap.size → w1.cell? ⟨b, o, none⟩ = W.cell? ⟨b, o, none⟩) ∧ (∀ b o, b < W.heap.size → w1.frozen? ⟨b, o, none⟩ = W.frozen? ⟨b, o, none⟩) :=
  ⟨fun b o h => hb.cell (p := ⟨b, o, none⟩) h, fun b o h => hb.frozen (p := ⟨b, o, none⟩) h⟩
theorem past1 {w : World} {b o : Nat} {v : Value} (hb : b < w.heap.size) (h : w.cell? ⟨b, o, none⟩ = some v) : ∀ o1, (w.alloc o1).cell? ⟨b, o, none⟩ = some v := fun o1 => by
  rw [World.cell?_alloc_past _ _ _ hb]; exact h
theorem past2 {w : World} {b o : Nat} {v : Value} (hb : b < w.heap.size) (h : w.cell? ⟨b, o, none⟩ = some v) : ∀ o1 o2, ((w.alloc o1).alloc o2).cell? ⟨b, o, none⟩ = some v := fun o1 o2 => by
  rw [World.cell?_alloc_past _ _ _ (by simp only [World.size_alloc]; omega)]; exact past1 hb h o1

set_option maxHeartbeats 2000000 in
theorem isOp_in (o : OpD) (K : Nat) (hK : o.kind = (K : Int)) (h1 : 1 ≤ K) (h7 : K ≤ 7) (n : Need) (m : Int) (w : World) (hp : o.path.size ≤ 1500000) (ht : o.dest.size ≤ 1500000) (hm : w.cell? ⟨1, 0, none⟩ = some (.int .i64 m))
    (hbig : 8 ≤ w.heap.size) (hn : ∀ j v, n.cells[j]? = some v → w.cell? ⟨0, K * 5 + j, none⟩ = some v) :
    Calls Tryd.prog 108 #[.agg #[.int .i64 o.kind, .string o.path, .string o.dest, .int .i64 o.id, .int .i64 o.size, .int .i64 o.mode]] w fun e w' => e = .returned (.bool (opFits o n)) ∧ Below w.heap.size w w' := by
  have c0 := past1 (by omega) (hn 0 _ rfl)
  have c1 := past1 (by omega) (hn 1 _ rfl)
  have c2 := past1 (by omega) (hn 2 _ rfl)
  have c3 := past1 (by omega) (hn 3 _ rfl)
  have c4 := past1 (by omega) (hn 4 _ rfl)
  simp only [Nat.add_zero] at c0
  have hm2 := past2 (by omega) hm
  clear hn
  rw [hK]
  have hw7 : withinB (K : Int) 1 7 = true := by simp [withinB]; omega
  go_enter Tryd.func108, Tryd.ntmps108
  go_wp2_with (first | (go_at_call 92; refine (within_any _ _ _ _).mono ?_; rintro e w' ⟨rfl, rfl⟩) | (go_at_call 120; go_must (refine (isPlace_any _ _ m _ hp (hm2 _ _)).mono ?_); rintro e w1 ⟨rfl, hb1⟩; obtain ⟨hc1, hf1⟩ := bcell hb1; have hm1 := (hc1 1 0 (by simp only [World.size_alloc]; omega)).trans (hm2 _ _); have hz1 := hb1.size; simp only [World.size_alloc] at hz1; have hz1a : w.heap.size < w1.heap.size := (by omega); have hz1b : w.heap.size + 1 < w1.heap.size := (by omega)) | (go_at_call 121; refine (toFits_any _ _ m _ ht hm1).mono ?_; rintro e w2 ⟨rfl, hb2⟩; obtain ⟨hc2, hf2⟩ := bcell hb2; have hz2 := hb2.size) | (go_at_call 122; refine (numberFits_any _ _ _ _ _).mono ?_; rintro e w' ⟨rfl, rfl⟩))
  all_goals
    go_ret
    refine ⟨ret_bool ?_, ?_⟩
    · simp [opFits, *]
    · first
        | exact (((Below.refl _ _).alloc (Nat.le_refl _) _).alloc (by simp) _).trans (hb1.mono (by simp only [World.size_alloc]; omega))
        | exact ((((Below.refl _ _).alloc (Nat.le_refl _) _).alloc (by simp) _).trans (hb1.mono (by simp only [World.size_alloc]; omega))).trans (hb2.mono (by omega))
end Go.Proofs.YtjaepomjdknieaaDoor
