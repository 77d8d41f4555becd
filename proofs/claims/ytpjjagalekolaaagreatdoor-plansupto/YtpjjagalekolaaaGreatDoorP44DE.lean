/- The book's list of operations: a list that came out is written full with the mark of its number, and is kept with three that append makes of it. -/
import Derived.Test.YtpjjagalekolaaaGreatDoorP00
import Derived.Test.YtpjjagalekolaaaGreatDoorP01
namespace Go.Proofs.YtpjjagalekolaaaGreatDoor
open Go.RowKit
set_option linter.unusedVariables false
set_option linter.unusedSimpArgs false

theorem info59b : (Tryz.prog.info? 59).map (fun i => (i.zero, i.size, i.bytes)) = some (some (.agg #[.int .i64 0, .string ByteArray.empty, .string ByteArray.empty, .int .i64 0, .int .i64 0, .int .i64 0]), 6, 64) := by kernel_rfl
theorem info78b : (Tryz.prog.info? 78).map (fun i => (i.zero, i.size, i.bytes)) = some (some (.slice none 0 0), 1, 24) := by kernel_rfl
set_option maxHeartbeats 400000 in
theorem mark_any (n : Int) (w : World) (h0 : 0 ≤ n) (h1 : n ≤ 100000000) :
    Calls Tryz.prog 41 #[.int .i64 n] w fun e w' => e = .returned (.int .i64 (-7000 - n)) ∧ w' = w := by
  go_enter Tryz.func41, Tryz.ntmps41
  go_wp2
  go_ret
  exact ⟨rfl, rfl⟩

def obC (k : Nat) : List Value := [.int .i64 (-7000 - (k : Int)), .string ⟨#[]⟩, .string ⟨#[]⟩, .int .i64 0, .int .i64 0, .int .i64 0]
theorem obC_len (k : Nat) : (obC k).length = 6 := rfl
theorem obC_one (k : Nat) : ∀ u ∈ obC k, u.oneCell' = true := by
  intro u hu
  simp only [obC, List.mem_cons, List.not_mem_nil, or_false] at hu
  rcases hu with rfl | rfl | rfl | rfl | rfl | rfl <;> rfl

theorem ob_fa (bk : Nat) (w : World) : (Instr.fieldAt 30 (.pointer (some ⟨bk, 0, none⟩)) 1).run Tryz.prog w = .ok (.pointer (some ⟨bk, 1, none⟩)) w := by kernel_rfl
theorem ob_bs1 (k : Nat) (w : World) : (Instr.buildSlice 33 1 #[(0, .agg #[.int .i64 (-7000 - (k : Int)), .string ⟨#[]⟩, .string ⟨#[]⟩, .int .i64 0, .int .i64 0, .int .i64 0])]).run Tryz.prog w = .ok (.slice (some ⟨w.heap.size, 0, none⟩) 1 1) (w.alloc (.cells (repC (obC k) 1).toArray 59)) := by kernel_rfl
theorem ob_bs2 (k : Nat) (w : World) : (Instr.buildSlice 33 2 #[(0, .agg #[.int .i64 (-7000 - (k : Int)), .string ⟨#[]⟩, .string ⟨#[]⟩, .int .i64 0, .int .i64 0, .int .i64 0]), (1, .agg #[.int .i64 (-7000 - (k : Int)), .string ⟨#[]⟩, .string ⟨#[]⟩, .int .i64 0, .int .i64 0, .int .i64 0])]).run Tryz.prog w = .ok (.slice (some ⟨w.heap.size, 0, none⟩) 2 2) (w.alloc (.cells (repC (obC k) 2).toArray 59)) := by kernel_rfl
theorem ob_bs6 (k : Nat) (w : World) : (Instr.buildSlice 33 6 #[(0, .agg #[.int .i64 (-7000 - (k : Int)), .string ⟨#[]⟩, .string ⟨#[]⟩, .int .i64 0, .int .i64 0, .int .i64 0]), (1, .agg #[.int .i64 (-7000 - (k : Int)), .string ⟨#[]⟩, .string ⟨#[]⟩, .int .i64 0, .int .i64 0, .int .i64 0]), (2, .agg #[.int .i64 (-7000 - (k : Int)), .string ⟨#[]⟩, .string ⟨#[]⟩, .int .i64 0, .int .i64 0, .int .i64 0]), (3, .agg #[.int .i64 (-7000 - (k : Int)), .string ⟨#[]⟩, .string ⟨#[]⟩, .int .i64 0, .int .i64 0, .int .i64 0]), (4, .agg #[.int .i64 (-7000 - (k : Int)), .string ⟨#[]⟩, .string ⟨#[]⟩, .int .i64 0, .int .i64 0, .int .i64 0]), (5, .agg #[.int .i64 (-7000 - (k : Int)), .string ⟨#[]⟩, .string ⟨#[]⟩, .int .i64 0, .int .i64 0, .int .i64 0])]).run Tryz.prog w = .ok (.slice (some ⟨w.heap.size, 0, none⟩) 6 6) (w.alloc (.cells (repC (obC k) 6).toArray 59)) := by kernel_rfl
theorem ob_bs4 (p0 p1 p2 p3 : Option Addr) (n0 n1 n2 n3 c0 c1 c2 c3 : Nat) (w : World) : (Instr.buildSlice 78 4 #[(0, .slice p0 n0 c0), (1, .slice p1 n1 c1), (2, .slice p2 n2 c2), (3, .slice p3 n3 c3)]).run Tryz.prog w = .ok (.slice (some ⟨w.heap.size, 0, none⟩) 4 4) (w.alloc (.cells #[.slice p0 n0 c0, .slice p1 n1 c1, .slice p2 n2 c2, .slice p3 n3 c3] 33)) := by kernel_rfl
theorem ob_bsq (p0 : Option Addr) (n0 c0 : Nat) (w : World) : (Instr.buildSlice 27 1 #[(0, .slice p0 n0 c0)]).run Tryz.prog w = .ok (.slice (some ⟨w.heap.size, 0, none⟩) 1 1) (w.alloc (.cells #[.slice p0 n0 c0] 78)) := by kernel_rfl
theorem ob_ld (N k : Nat) (w : World) (h : w.heap[N]? = some (.cells (obC k).toArray 59 (0, 0))) : (Instr.loadAt 59 (.pointer (some ⟨N, 0, none⟩))).run Tryz.prog w = .ok (.agg #[.int .i64 (-7000 - (k : Int)), .string ⟨#[]⟩, .string ⟨#[]⟩, .int .i64 0, .int .i64 0, .int .i64 0]) w := by
  have h0 : w.cell? ⟨N, 0, none⟩ = (obC k)[0]? := by rw [cell_of_row w N 0 _ _ _ h]; rfl
  have h1 : w.cell? ⟨N, 1, none⟩ = (obC k)[1]? := by rw [cell_of_row w N 1 _ _ _ h]; rfl
  have h2 : w.cell? ⟨N, 2, none⟩ = (obC k)[2]? := by rw [cell_of_row w N 2 _ _ _ h]; rfl
  have h3 : w.cell? ⟨N, 3, none⟩ = (obC k)[3]? := by rw [cell_of_row w N 3 _ _ _ h]; rfl
  have h4 : w.cell? ⟨N, 4, none⟩ = (obC k)[4]? := by rw [cell_of_row w N 4 _ _ _ h]; rfl
  have h5 : w.cell? ⟨N, 5, none⟩ = (obC k)[5]? := by rw [cell_of_row w N 5 _ _ _ h]; rfl
  simp only [obC, List.getElem?_cons_zero, List.getElem?_cons_succ] at h0 h1 h2 h3 h4 h5
  go_simp
theorem ob_ldc (N : Nat) (v : Value) (w : World) (h0 : w.cell? ⟨N, 1, none⟩ = some v) : (Instr.loadAt 27 (.pointer (some ⟨N, 1, none⟩))).run Tryz.prog w = .ok v w := by
  go_simp
theorem ob_st (N : Nat) (p : Option Addr) (n c : Nat) (v : Value) (w : World) (h0 : w.cell? ⟨N, 1, none⟩ = some v) (hf : w.frozen? ⟨N, 1, none⟩ = false) : (Instr.storeAt 27 (.pointer (some ⟨N, 1, none⟩)) (.slice p n c)).run Tryz.prog w = .ok () (w.setCell ⟨N, 1, none⟩ (.slice p n c)) := by
  go_simp

theorem row_slice {w : World} {base e size n : Nat} {v : Value} {xs : List Value} (h : w.ownsRow base e size v n xs) : ∃ p m c, v = .slice p m c := by
  rcases h.2 with ⟨rfl, _⟩ | ⟨g, cap, cur, rfl, _⟩
  · exact ⟨_, _, _, rfl⟩
  · exact ⟨_, _, _, rfl⟩
theorem row_typed {w : World} {base e size n b : Nat} {v : Value} {xs : List Value} (h : w.ownsRow base e size v n xs) (hb : v.ownBlock = some b) : ∃ cur, w.heap[b]? = some (.cells cur e (0, 0)) := by
  rcases h.2 with ⟨rfl, _⟩ | ⟨g, cap, cur, rfl, _, hg, _⟩
  · simp [Value.ownBlock] at hb
  · simp [Value.ownBlock] at hb
    subst hb
    exact ⟨cur, hg⟩
theorem row_apart {w : World} {b1 e1 s1 n1 b2 e2 s2 n2 : Nat} {v1 v2 : Value} {x1 x2 : List Value} (h1 : w.ownsRow b1 e1 s1 v1 n1 x1) (h2 : w.ownsRow b2 e2 s2 v2 n2 x2) (hne : e1 ≠ e2) : v1.ownBlock = none ∨ v1.ownBlock ≠ v2.ownBlock := by
  cases hv : v1.ownBlock with
  | none => exact .inl rfl
  | some b =>
    right
    intro e
    obtain ⟨c1, k1⟩ := row_typed h1 hv
    obtain ⟨c2, k2⟩ := row_typed h2 e.symm
    rw [k1] at k2
    simp at k2
    exact hne k2.2
theorem row_far {w : World} {b1 e1 s1 n1 b e : Nat} {v1 : Value} {x1 : List Value} {cs : Array Value} (h1 : w.ownsRow b1 e1 s1 v1 n1 x1) (h2 : w.heap[b]? = some (.cells cs e (0, 0))) (hne : e1 ≠ e) : v1.ownBlock ≠ some b := by
  intro hv
  obtain ⟨c1, k1⟩ := row_typed h1 hv
  rw [k1] at h2
  simp at h2
  exact hne h2.2

/-- Four lists in one place, all written full with one mark. -/
def Quadob (base k n : Nat) (vl : Value) (q : Nat) (w : World) : Prop :=
  ∃ u1 u2 u6, w.heap[q]? = some (.cells #[vl, u1, u2, u6] 33 (0, 0)) ∧ w.ownsRow base 59 6 vl n (repC (obC k) n) ∧ w.ownsRow base 59 6 u1 (n + 1) (repC (obC k) (n + 1)) ∧ w.ownsRow base 59 6 u2 (n + 2) (repC (obC k) (n + 2)) ∧ w.ownsRow base 59 6 u6 (n + 6) (repC (obC k) (n + 6))

/-- What turns as the operations come up. -/
structure Sfob (N k : Nat) (w w' : World) : Prop where
  new : ∀ b, N ≤ b → b < w.heap.size → w'.heap[b]? = w.heap[b]?
  reps : ∀ b u p, w.ownsRow b 59 6 u p (repC (obC k) p) → w'.ownsRow b 59 6 u p (repC (obC k) p)
theorem Quadob.sf {base k n q N : Nat} {vl : Value} {w w' : World} (h : Quadob base k n vl q w) (hs : Sfob N k w w') (hq : N ≤ q) : Quadob base k n vl q w' := by
  obtain ⟨u1, u2, u6, h0, h1, h2, h3, h4⟩ := h
  exact ⟨u1, u2, u6, (hs.new q hq (Array.getElem?_eq_some_iff.1 h0).1).trans h0, hs.reps _ _ _ h1, hs.reps _ _ _ h2, hs.reps _ _ _ h3, hs.reps _ _ _ h4⟩
theorem Sfob.alloc (N k : Nat) (w : World) (o : Obj) : Sfob N k w (w.alloc o) := ⟨fun b _ hb => (World.grownBy_alloc w o none).block b hb (by simp), fun b u p h => h.alloc o⟩
theorem Sfob.refl (N k : Nat) (w : World) : Sfob N k w w := ⟨fun _ _ _ => rfl, fun _ _ _ h => h⟩

/-- What each slot of the region holds. -/
def Gob (base base0 bk N k n : Nat) (vl cv : Value) (cs : List Value) : Nat → World → Value → Prop
  | 23 => fun _ u => u = .pointer (some ⟨bk, 0, none⟩)
  | 24 => fun _ u => u = .pointer (some ⟨bk, 0, none⟩)
  | 25 => fun _ u => u = .pointer (some ⟨bk, 0, none⟩)
  | 26 => fun _ u => u = .pointer (some ⟨bk, 1, none⟩)
  | 27 => fun _ u => u = cv
  | 28 => fun _ u => u = vl
  | 29 => fun _ u => u = vl
  | 30 => fun _ u => u = .agg #[.int .i64 (-7000 - (k : Int)), .string ⟨#[]⟩, .string ⟨#[]⟩, .int .i64 0, .int .i64 0, .int .i64 0]
  | 31 => fun w u => ∃ g, u = .slice (some ⟨g, 0, none⟩) 1 1 ∧ w.ownsRow N 59 6 u 1 (repC (obC k) 1)
  | 32 => fun w u => w.ownsRow base 59 6 u (n + 1) (repC (obC k) (n + 1))
  | 33 => fun _ u => u = vl
  | 34 => fun _ u => u = .agg #[.int .i64 (-7000 - (k : Int)), .string ⟨#[]⟩, .string ⟨#[]⟩, .int .i64 0, .int .i64 0, .int .i64 0]
  | 35 => fun _ u => u = .agg #[.int .i64 (-7000 - (k : Int)), .string ⟨#[]⟩, .string ⟨#[]⟩, .int .i64 0, .int .i64 0, .int .i64 0]
  | 36 => fun w u => ∃ g, u = .slice (some ⟨g, 0, none⟩) 2 2 ∧ w.ownsRow N 59 6 u 2 (repC (obC k) 2)
  | 37 => fun w u => w.ownsRow base 59 6 u (n + 2) (repC (obC k) (n + 2))
  | 38 => fun _ u => u = vl
  | 39 => fun _ u => u = .agg #[.int .i64 (-7000 - (k : Int)), .string ⟨#[]⟩, .string ⟨#[]⟩, .int .i64 0, .int .i64 0, .int .i64 0]
  | 40 => fun _ u => u = .agg #[.int .i64 (-7000 - (k : Int)), .string ⟨#[]⟩, .string ⟨#[]⟩, .int .i64 0, .int .i64 0, .int .i64 0]
  | 41 => fun _ u => u = .agg #[.int .i64 (-7000 - (k : Int)), .string ⟨#[]⟩, .string ⟨#[]⟩, .int .i64 0, .int .i64 0, .int .i64 0]
  | 42 => fun _ u => u = .agg #[.int .i64 (-7000 - (k : Int)), .string ⟨#[]⟩, .string ⟨#[]⟩, .int .i64 0, .int .i64 0, .int .i64 0]
  | 43 => fun _ u => u = .agg #[.int .i64 (-7000 - (k : Int)), .string ⟨#[]⟩, .string ⟨#[]⟩, .int .i64 0, .int .i64 0, .int .i64 0]
  | 44 => fun _ u => u = .agg #[.int .i64 (-7000 - (k : Int)), .string ⟨#[]⟩, .string ⟨#[]⟩, .int .i64 0, .int .i64 0, .int .i64 0]
  | 45 => fun w u => ∃ g, u = .slice (some ⟨g, 0, none⟩) 6 6 ∧ w.ownsRow N 59 6 u 6 (repC (obC k) 6)
  | 46 => fun w u => w.ownsRow base 59 6 u (n + 6) (repC (obC k) (n + 6))
  | 47 => fun w u => ∃ q, u = .slice (some ⟨q, 0, none⟩) 4 4 ∧ N ≤ q ∧ Quadob base k n vl q w
  | 48 => fun w u => ∃ g q, u = .slice (some ⟨g, 0, none⟩) 1 1 ∧ N ≤ g ∧ w.heap[g]? = some (.cells #[.slice (some ⟨q, 0, none⟩) 4 4] 78 (0, 0)) ∧ N ≤ q ∧ Quadob base k n vl q w
  | 49 => fun w u => ∃ q, N ≤ q ∧ Quadob base k n vl q w ∧ w.ownsRow base0 78 1 u (k + 1) (cs ++ [.slice (some ⟨q, 0, none⟩) 4 4])
  | 50 => fun _ u => u = .pointer (some ⟨bk, 0, none⟩)
  | 51 => fun _ u => u = .pointer (some ⟨bk, 1, none⟩)
  | _ => fun _ _ => True

/-- What the world holds while they come up. -/
structure Wdob (base base0 bk N k n : Nat) (vl cv e0 e1 : Value) (cs : List Value) (w0 : World) (listed : Array Bool) (w : World) : Prop where
  row : w.ownsRow base 59 6 vl n (repC (obC k) n)
  box : w.heap[N]? = some (.cells (obC k).toArray 59 (0, 0))
  chs : listed.getD 26 false = false → w.ownsRow base0 78 1 cv k cs
  bok : listed.getD 29 false = false → w.heap[bk]? = some (.cells #[e0, cv, e1] 30 (0, 0))
  fin : listed.getD 29 false = true → ∃ cv' q, w.heap[bk]? = some (.cells #[e0, cv', e1] 30 (0, 0)) ∧ N ≤ q ∧ Quadob base k n vl q w ∧ w.ownsRow base0 78 1 cv' (k + 1) (cs ++ [.slice (some ⟨q, 0, none⟩) 4 4])
  old : ∀ b, b < N → b ≠ bk → vl.ownBlock ≠ some b → cv.ownBlock ≠ some b → w.heap[b]? = w0.heap[b]?
  os : w.os = w0.os
  tape : w.tape = w0.tape
  output : w.output = w0.output

set_option maxHeartbeats 16000000 in
/-- What was good stays good. -/
theorem Gob.sf {base base0 bk N k n : Nat} {vl cv : Value} {cs : List Value} {w w' : World} (hs : Sfob N k w w') (h49 : ∀ u p xs, w.ownsRow base0 78 1 u p xs → w'.ownsRow base0 78 1 u p xs) : ∀ d u, Gob base base0 bk N k n vl cv cs d w u → Gob base base0 bk N k n vl cv cs d w' u := by
  intro d u h
  unfold Gob at h ⊢
  split
  all_goals first
    | exact h
    | trivial
    | exact hs.reps _ _ _ h
    | (obtain ⟨g, rfl, h1⟩ := h; exact ⟨g, rfl, hs.reps _ _ _ h1⟩)
    | (obtain ⟨q, rfl, h1, h2⟩ := h; exact ⟨q, rfl, h1, h2.sf hs h1⟩)
    | (obtain ⟨g, q, rfl, h1, h2, h3, h4⟩ := h; exact ⟨g, q, rfl, h1, (hs.new g h1 (Array.getElem?_eq_some_iff.1 h2).1).trans h2, h3, h4.sf hs h3⟩)
    | (obtain ⟨q, h1, h2, h3⟩ := h; exact ⟨q, h1, h2.sf hs h1, h49 _ _ _ h3⟩)
set_option maxHeartbeats 16000000 in
theorem Gob.sf49 {base base0 bk N k n : Nat} {vl cv : Value} {cs : List Value} {w w' : World} (hs : Sfob N k w w') : ∀ d u, some 49 ≠ some d → Gob base base0 bk N k n vl cv cs d w u → Gob base base0 bk N k n vl cv cs d w' u := by
  intro d u hd h
  unfold Gob at h ⊢
  split
  all_goals first
    | exact h
    | trivial
    | exact hs.reps _ _ _ h
    | (obtain ⟨g, rfl, h1⟩ := h; exact ⟨g, rfl, hs.reps _ _ _ h1⟩)
    | (obtain ⟨q, rfl, h1, h2⟩ := h; exact ⟨q, rfl, h1, h2.sf hs h1⟩)
    | (obtain ⟨g, q, rfl, h1, h2, h3, h4⟩ := h; exact ⟨g, q, rfl, h1, (hs.new g h1 (Array.getElem?_eq_some_iff.1 h2).1).trans h2, h3, h4.sf hs h3⟩)
    | exact absurd rfl hd

/-- The region's operations. -/
def shapeob : Array (Op × Option Tmp) := #[
  (.move (.tmp 0), some 23),
  (.move (.tmp 0), some 24),
  (.nilCheck (.tmp 24), some 25),
  (.fieldAddr 30 (.tmp 25) 1, some 26),
  (.load 27 (.tmp 26), some 27),
  (.move (.tmp 1), some 28),
  (.move (.tmp 1), some 29),
  (.load 59 (.tmp 4), some 30),
  (.buildSlice 33 1 #[(0, .tmp 30)], some 31),
  (.call { callee := .builtin .append, args := #[.tmp 29, .tmp 31], argTypes := #[33, 33] }, some 32),
  (.move (.tmp 1), some 33),
  (.load 59 (.tmp 4), some 34),
  (.load 59 (.tmp 4), some 35),
  (.buildSlice 33 2 #[(0, .tmp 34), (1, .tmp 35)], some 36),
  (.call { callee := .builtin .append, args := #[.tmp 33, .tmp 36], argTypes := #[33, 33] }, some 37),
  (.move (.tmp 1), some 38),
  (.load 59 (.tmp 4), some 39),
  (.load 59 (.tmp 4), some 40),
  (.load 59 (.tmp 4), some 41),
  (.load 59 (.tmp 4), some 42),
  (.load 59 (.tmp 4), some 43),
  (.load 59 (.tmp 4), some 44),
  (.buildSlice 33 6 #[(0, .tmp 39), (1, .tmp 40), (2, .tmp 41), (3, .tmp 42), (4, .tmp 43), (5, .tmp 44)], some 45),
  (.call { callee := .builtin .append, args := #[.tmp 38, .tmp 45], argTypes := #[33, 33] }, some 46),
  (.buildSlice 78 4 #[(0, .tmp 28), (1, .tmp 32), (2, .tmp 37), (3, .tmp 46)], some 47),
  (.buildSlice 27 1 #[(0, .tmp 47)], some 48),
  (.call { callee := .builtin .append, args := #[.tmp 27, .tmp 48], argTypes := #[27, 27] }, some 49),
  (.nilCheck (.tmp 23), some 50),
  (.fieldAddr 30 (.tmp 50) 1, some 51),
  (.store 27 (.tmp 51) (.tmp 49), none)]
def depsob : List (Nat × Nat) := [(2, 1), (3, 2), (4, 3), (8, 7), (9, 6), (9, 8), (13, 11), (13, 12), (14, 10), (14, 13), (22, 16), (22, 17), (22, 18), (22, 19), (22, 20), (22, 21), (23, 15), (23, 22), (24, 5), (24, 9), (24, 14), (24, 23), (25, 24), (26, 4), (26, 25), (27, 0), (28, 27), (29, 28), (29, 26)]
def awaits (ops : Array Oper) (i k : Nat) : Bool := ((ops[i]?).map (fun o => o.after.any fun e => decide (e.on = k) && Region.binds .any e)).getD false

/-- The text's own facts: the region is this one. -/
structure Isob (ops : Array Oper) : Prop where
  shape : ops.map (fun o => (o.op, o.dst)) = shapeob
  deps : (depsob.all fun p => awaits ops p.1 p.2) = true
  last : ((List.range 29).all fun i => awaits ops 29 i || (awaits ops 29 28 && awaits ops 28 i)) = true
theorem Isob.at {ops : Array Oper} (h : Isob ops) {i : Nat} {o : Oper} (ho : ops[i]? = some o) : shapeob[i]? = some (o.op, o.dst) := by
  rw [← h.shape]; simp [ho]
theorem Isob.dst {ops : Array Oper} (h : Isob ops) {i : Nat} {x : Op} {d : Option Tmp} (hs : shapeob[i]? = some (x, d)) : (ops[i]?).bind (·.dst) = d := by
  rw [← h.shape] at hs
  cases ho : ops[i]? with
  | none => simp [ho] at hs
  | some o => simp [ho] at hs; simp [hs.2]
theorem Isob.out {ops : Array Oper} (h : Isob ops) (t : Nat) (hs : (shapeob.all fun p => p.2 != some t) = true) : (ops.all fun o => o.dst != some t) = true := by
  rw [← h.shape] at hs
  rw [Array.all_eq_true'] at hs ⊢
  intro o ho
  exact hs (o.op, o.dst) (by simp; exact ⟨o, ho, rfl, rfl⟩)

section
variable {base base0 bk N k n : Nat} {vl cv e0 e1 : Value} {cs : List Value} {w0 w : World} {listed : Array Bool} {ops : Array Oper} {a0 a : Act} {i : Nat} {o : Oper}
theorem Wdob.same (h : Wdob base base0 bk N k n vl cv e0 e1 cs w0 listed w) (h26 : i ≠ 26) (h29 : i ≠ 29) : Wdob base base0 bk N k n vl cv e0 e1 cs w0 (listed.setIfInBounds i true) w :=
  ⟨h.row, h.box, by rw [listed_other _ _ _ h26]; exact h.chs, by rw [listed_other _ _ _ h29]; exact h.bok, by rw [listed_other _ _ _ h29]; exact h.fin, h.old, h.os, h.tape, h.output⟩
theorem Wdob.lt (h : Wdob base base0 bk N k n vl cv e0 e1 cs w0 listed w) : N < w.heap.size := (Array.getElem?_eq_some_iff.1 h.box).1
theorem Wdob.alloc (h : Wdob base base0 bk N k n vl cv e0 e1 cs w0 listed w) (hd : listed.getD 29 false = false) (ob : Obj) : Wdob base base0 bk N k n vl cv e0 e1 cs w0 listed (w.alloc ob) where
  row := h.row.alloc _
  box := ((World.grownBy_alloc w ob none).block _ h.lt (by simp)).trans h.box
  chs := fun h1 => (h.chs h1).alloc _
  bok := fun h1 => ((World.grownBy_alloc w ob none).block _ (Array.getElem?_eq_some_iff.1 (h.bok h1)).1 (by simp)).trans (h.bok h1)
  fin := fun h1 => by rw [hd] at h1; cases h1
  old := fun b hb h1 h2 h3 => ((World.grownBy_alloc w ob none).block _ (by have := h.lt; omega) (by simp)).trans (h.old b hb h1 h2 h3)
  os := h.os
  tape := h.tape
  output := h.output

/-- The premises of a step. -/
structure Stob (ops : Array Oper) (base base0 bk N k n : Nat) (vl cv e0 e1 : Value) (cs : List Value) (w0 : World) (a0 : Act) (listed : Array Bool) (a : Act) (w : World) (i : Nat) (o : Oper) : Prop where
  is : Isob ops
  inv : RgnInv ops a0 (Gob base base0 bk N k n vl cv cs) (Wdob base base0 bk N k n vl cv e0 e1 cs w0) listed a w
  rdy : i ∈ Region.ready .any ops listed
  op : ops[i]? = some o
  t0 : a0.eval (.tmp 0) = .pointer (some ⟨bk, 0, none⟩)
  t1 : a0.eval (.tmp 1) = vl
  t4 : a0.eval (.tmp 4) = .pointer (some ⟨N, 0, none⟩)
  bn : bk < N
  nl : n ≤ 3000000
  kl : k ≤ 3000000
  ba : base ≤ N
  b0 : base0 ≤ N
  vN : ∀ b, vl.ownBlock = some b → b < N
  cN : ∀ b, cv.ownBlock = some b → b < N
abbrev Okob (base base0 bk N k n : Nat) (vl cv e0 e1 : Value) (cs : List Value) (w0 : World) (listed : Array Bool) (a : Act) (w : World) (i : Nat) (o : Oper) : Prop :=
  OneOp Tryz.prog (Gob base base0 bk N k n vl cv cs) (Wdob base base0 bk N k n vl cv e0 e1 cs w0 (listed.setIfInBounds i true)) o a w

theorem Stob.val (h : Stob ops base base0 bk N k n vl cv e0 e1 cs w0 a0 listed a w i o) (j d : Nat) {x : Op} (hj : awaits ops i j = true) (hs : shapeob[j]? = some (x, some d)) : Gob base base0 bk N k n vl cv cs d w (a.eval (.tmp d)) :=
  h.inv.val j d (dep_of j h.rdy hj) (h.is.dst hs)
theorem Stob.dep (h : Stob ops base base0 bk N k n vl cv e0 e1 cs w0 a0 listed a w i o) (j : Nat) (hj : (i, j) ∈ depsob) : awaits ops i j = true := by
  have := h.is.deps
  rw [List.all_eq_true] at this
  exact this (i, j) hj
theorem Stob.open29 (h : Stob ops base base0 bk N k n vl cv e0 e1 cs w0 a0 listed a w i o) (hi : i < 29) : listed.getD 29 false = false := by
  have hl := h.is.last
  rw [List.all_eq_true] at hl
  have h1 := hl i (List.mem_range.2 hi)
  rw [Bool.or_eq_true, Bool.and_eq_true] at h1
  rcases h1 with h1 | ⟨h1, h2⟩
  · exact undone 29 h.inv h.rdy h1
  · cases h9 : listed.getD 29 false with
    | false => rfl
    | true =>
      have h8 := undone 28 h.inv h.rdy h2
      rw [h.inv.went 29 28 h9 h1] at h8
      cases h8
theorem Stob.self (h : Stob ops base base0 bk N k n vl cv e0 e1 cs w0 a0 listed a w i o) : listed.getD i false = false := by
  obtain ⟨o2, ho2, h2, _⟩ := ready_mem h.rdy
  have hlt : i < listed.size := by rw [h.inv.size]; exact (Array.getElem?_eq_some_iff.1 ho2).1
  simpa [Array.getD, hlt] using h2
theorem Stob.t0' (h : Stob ops base base0 bk N k n vl cv e0 e1 cs w0 a0 listed a w i o) : a.eval (.tmp 0) = .pointer (some ⟨bk, 0, none⟩) := (h.inv.old 0 (h.is.out 0 (by kernel_rfl))).trans h.t0
theorem Stob.t1' (h : Stob ops base base0 bk N k n vl cv e0 e1 cs w0 a0 listed a w i o) : a.eval (.tmp 1) = vl := (h.inv.old 1 (h.is.out 1 (by kernel_rfl))).trans h.t1
theorem Stob.t4' (h : Stob ops base base0 bk N k n vl cv e0 e1 cs w0 a0 listed a w i o) : a.eval (.tmp 4) = .pointer (some ⟨N, 0, none⟩) := (h.inv.old 4 (h.is.out 4 (by kernel_rfl))).trans h.t4

/-- An operation that only yields a value. -/
theorem Stob.pure (h : Stob ops base base0 bk N k n vl cv e0 e1 cs w0 a0 listed a w i o) (h26 : i ≠ 26) (h29 : i ≠ 29) {v : Value} (hrun : (execOp a.eval o).run Tryz.prog w = .ok (.value v) w) {d : Nat} (hd : o.dst = some d) (hG : Gob base base0 bk N k n vl cv cs d w v) : Okob base base0 bk N k n vl cv e0 e1 cs w0 listed a w i o :=
  ⟨v, w, .inl hrun, fun d' hd' => by rw [hd] at hd'; cases hd'; exact hG, fun _ _ _ hg => hg, h.inv.world.same h26 h29⟩
/-- An operation that lays a new block. -/
theorem Stob.new (h : Stob ops base base0 bk N k n vl cv e0 e1 cs w0 a0 listed a w i o) (h26 : i < 26) {v : Value} {ob : Obj} (hrun : (execOp a.eval o).run Tryz.prog w = .ok (.value v) (w.alloc ob)) {d : Nat} (hd : o.dst = some d) (hG : Gob base base0 bk N k n vl cv cs d (w.alloc ob) v) : Okob base base0 bk N k n vl cv e0 e1 cs w0 listed a w i o :=
  ⟨v, w.alloc ob, .inl hrun, fun d' hd' => by rw [hd] at hd'; cases hd'; exact hG, fun d' u _ hg => Gob.sf (Sfob.alloc N k w ob) (fun _ _ _ hr => hr.alloc ob) d' u hg, (h.inv.world.alloc (h.open29 (by omega)) ob).same (by omega) (by omega)⟩

theorem ob_op0 (h : Stob ops base base0 bk N k n vl cv e0 e1 cs w0 a0 listed a w 0 o) : Okob base base0 bk N k n vl cv e0 e1 cs w0 listed a w 0 o := by
  have hs := h.is.at h.op
  obtain ⟨hop, hdst⟩ : o.op = .move (.tmp 0) ∧ o.dst = some 23 := by
    have e := (Option.some.inj hs).symm
    exact ⟨(Prod.mk.inj e).1, (Prod.mk.inj e).2⟩
  exact h.pure (by decide) (by decide) (by simp only [execOp, hop]; rfl) hdst h.t0'

theorem ob_op1 (h : Stob ops base base0 bk N k n vl cv e0 e1 cs w0 a0 listed a w 1 o) : Okob base base0 bk N k n vl cv e0 e1 cs w0 listed a w 1 o := by
  have hs := h.is.at h.op
  obtain ⟨hop, hdst⟩ : o.op = .move (.tmp 0) ∧ o.dst = some 24 := by
    have e := (Option.some.inj hs).symm
    exact ⟨(Prod.mk.inj e).1, (Prod.mk.inj e).2⟩
  exact h.pure (by decide) (by decide) (by simp only [execOp, hop]; rfl) hdst h.t0'

theorem ob_op2 (h : Stob ops base base0 bk N k n vl cv e0 e1 cs w0 a0 listed a w 2 o) : Okob base base0 bk N k n vl cv e0 e1 cs w0 listed a w 2 o := by
  have hs := h.is.at h.op
  obtain ⟨hop, hdst⟩ : o.op = .nilCheck (.tmp 24) ∧ o.dst = some 25 := by
    have e := (Option.some.inj hs).symm
    exact ⟨(Prod.mk.inj e).1, (Prod.mk.inj e).2⟩
  have g := h.val 1 24 (h.dep 1 (by decide)) rfl
  have e : a.eval (.tmp 24) = .pointer (some ⟨bk, 0, none⟩) := g
  exact h.pure (by decide) (by decide) (by simp only [execOp, hop, e]; rfl) hdst rfl

theorem ob_op3 (h : Stob ops base base0 bk N k n vl cv e0 e1 cs w0 a0 listed a w 3 o) : Okob base base0 bk N k n vl cv e0 e1 cs w0 listed a w 3 o := by
  have hs := h.is.at h.op
  obtain ⟨hop, hdst⟩ : o.op = .fieldAddr 30 (.tmp 25) 1 ∧ o.dst = some 26 := by
    have e := (Option.some.inj hs).symm
    exact ⟨(Prod.mk.inj e).1, (Prod.mk.inj e).2⟩
  have g := h.val 2 25 (h.dep 2 (by decide)) rfl
  have e : a.eval (.tmp 25) = .pointer (some ⟨bk, 0, none⟩) := g
  refine h.pure (v := .pointer (some ⟨bk, 1, none⟩)) (by decide) (by decide) ?_ hdst rfl
  simp only [execOp, hop, e, Sem.run_bind, ob_fa, Result.andThen_ok, Sem.run_pure]

theorem ob_op4 (h : Stob ops base base0 bk N k n vl cv e0 e1 cs w0 a0 listed a w 4 o) : Okob base base0 bk N k n vl cv e0 e1 cs w0 listed a w 4 o := by
  have hs := h.is.at h.op
  obtain ⟨hop, hdst⟩ : o.op = .load 27 (.tmp 26) ∧ o.dst = some 27 := by
    have e := (Option.some.inj hs).symm
    exact ⟨(Prod.mk.inj e).1, (Prod.mk.inj e).2⟩
  have g := h.val 3 26 (h.dep 3 (by decide)) rfl
  have e : a.eval (.tmp 26) = .pointer (some ⟨bk, 1, none⟩) := g
  have hb := h.inv.world.bok (h.open29 (by decide))
  have hc : w.cell? ⟨bk, 1, none⟩ = some cv := by rw [cell_of_row w bk 1 _ _ _ hb]; rfl
  refine h.pure (v := cv) (by decide) (by decide) ?_ hdst rfl
  simp only [execOp, hop, e, Sem.run_bind, ob_ldc _ _ _ hc, Result.andThen_ok, Sem.run_pure]

theorem ob_op5 (h : Stob ops base base0 bk N k n vl cv e0 e1 cs w0 a0 listed a w 5 o) : Okob base base0 bk N k n vl cv e0 e1 cs w0 listed a w 5 o := by
  have hs := h.is.at h.op
  obtain ⟨hop, hdst⟩ : o.op = .move (.tmp 1) ∧ o.dst = some 28 := by
    have e := (Option.some.inj hs).symm
    exact ⟨(Prod.mk.inj e).1, (Prod.mk.inj e).2⟩
  exact h.pure (by decide) (by decide) (by simp only [execOp, hop]; rfl) hdst h.t1'

theorem ob_op6 (h : Stob ops base base0 bk N k n vl cv e0 e1 cs w0 a0 listed a w 6 o) : Okob base base0 bk N k n vl cv e0 e1 cs w0 listed a w 6 o := by
  have hs := h.is.at h.op
  obtain ⟨hop, hdst⟩ : o.op = .move (.tmp 1) ∧ o.dst = some 29 := by
    have e := (Option.some.inj hs).symm
    exact ⟨(Prod.mk.inj e).1, (Prod.mk.inj e).2⟩
  exact h.pure (by decide) (by decide) (by simp only [execOp, hop]; rfl) hdst h.t1'

theorem ob_op7 (h : Stob ops base base0 bk N k n vl cv e0 e1 cs w0 a0 listed a w 7 o) : Okob base base0 bk N k n vl cv e0 e1 cs w0 listed a w 7 o := by
  have hs := h.is.at h.op
  obtain ⟨hop, hdst⟩ : o.op = .load 59 (.tmp 4) ∧ o.dst = some 30 := by
    have e := (Option.some.inj hs).symm
    exact ⟨(Prod.mk.inj e).1, (Prod.mk.inj e).2⟩
  have e := h.t4'
  refine h.pure (v := .agg #[.int .i64 (-7000 - (k : Int)), .string ⟨#[]⟩, .string ⟨#[]⟩, .int .i64 0, .int .i64 0, .int .i64 0]) (by decide) (by decide) ?_ hdst rfl
  simp only [execOp, hop, e, Sem.run_bind, ob_ld _ _ _ h.inv.world.box, Result.andThen_ok, Sem.run_pure]

theorem ob_op8 (h : Stob ops base base0 bk N k n vl cv e0 e1 cs w0 a0 listed a w 8 o) : Okob base base0 bk N k n vl cv e0 e1 cs w0 listed a w 8 o := by
  have hs := h.is.at h.op
  obtain ⟨hop, hdst⟩ : o.op = .buildSlice 33 1 #[(0, .tmp 30)] ∧ o.dst = some 31 := by
    have e := (Option.some.inj hs).symm
    exact ⟨(Prod.mk.inj e).1, (Prod.mk.inj e).2⟩
  have g30 := h.val 7 30 (h.dep 7 (by decide)) rfl
  have e30 : a.eval (.tmp 30) = .agg #[.int .i64 (-7000 - (k : Int)), .string ⟨#[]⟩, .string ⟨#[]⟩, .int .i64 0, .int .i64 0, .int .i64 0] := g30
  have hN := h.inv.world.lt
  refine h.new (v := .slice (some ⟨w.heap.size, 0, none⟩) 1 1) (ob := .cells (repC (obC k) 1).toArray 59) (by decide) ?_ hdst ⟨w.heap.size, rfl, ?_⟩
  · simp only [execOp, hop, e30, List.map_toArray, List.map_cons, List.map_nil, Sem.run_bind, ob_bs1, Result.andThen_ok, Sem.run_pure]
  · have := World.ownsRow_lit (base := N) (e := 59) (size := 6) w (repC (obC k) 1).toArray 1 (by omega) (by unfold maxLen; omega) (by simp [repC_len, obC_len])
    simpa using this

theorem ob_op9 (h : Stob ops base base0 bk N k n vl cv e0 e1 cs w0 a0 listed a w 9 o) : Okob base base0 bk N k n vl cv e0 e1 cs w0 listed a w 9 o := by
  have hs := h.is.at h.op
  obtain ⟨hop, hdst⟩ : o.op = .call { callee := .builtin .append, args := #[.tmp 29, .tmp 31], argTypes := #[33, 33] } ∧ o.dst = some 32 := by
    have e := (Option.some.inj hs).symm
    exact ⟨(Prod.mk.inj e).1, (Prod.mk.inj e).2⟩
  have gx := h.val 6 29 (h.dep 6 (by decide)) rfl
  have gy := h.val 8 31 (h.dep 8 (by decide)) rfl
  have ex : a.eval (.tmp 29) = vl := gx
  obtain ⟨g, ey, hy⟩ : ∃ g, a.eval (.tmp 31) = .slice (some ⟨g, 0, none⟩) 1 1 ∧ w.ownsRow N 59 6 (a.eval (.tmp 31)) 1 (repC (obC k) 1) := gy
  rw [ey] at hy
  have hW := h.inv.world
  have hN := hW.lt
  have hba := h.ba
  have hnl := h.nl
  obtain ⟨i0, hi, hz0, hz1, hz2⟩ := info_parts info59b
  obtain ⟨v', w', hr, h2, h3, h4⟩ := run_append_rep (P := Tryz.prog) w base 33 o.type 59 i0 _ 6 64 Tryz.underlying33 hi hz0 hz1 hz2 rfl (by decide) (obC k) rfl vl n hW.row ⟨g, 0, none⟩ 1 1 (hy.cells (g := g) rfl) (obC_one k) (by unfold maxLen; omega) (by omega) (by omega)
  have hd9 := h.open29 (by decide)
  have hbk := hW.bok hd9
  have hsf : Sfob N k w w' := ⟨fun b hb hb2 => h3.block b hb2 (fun e => by have := h.vN b e.symm; omega), fun b u p hx => h4 b u p hx⟩
  have h49 : ∀ u p xs, w.ownsRow base0 78 1 u p xs → w'.ownsRow base0 78 1 u p xs := fun u p xs hx => hx.kept h3 (row_apart hx hW.row (by decide))
  refine ⟨v', w', .inl ?_, fun d' hd' => by rw [hdst] at hd'; cases hd'; exact h2, fun d' u _ hg => Gob.sf hsf h49 d' u hg, Wdob.same ⟨h4 _ _ _ hW.row, (hsf.new N (Nat.le_refl _) hN).trans hW.box, fun h1 => h49 _ _ _ (hW.chs h1), fun h1 => ?_, fun h1 => (by rw [hd9] at h1; cases h1), fun b hb h1 h2' h3' => ?_, h3.os.trans hW.os, h3.tape.trans hW.tape, h3.output.trans hW.output⟩ (by decide) (by decide)⟩
  · unfold execOp
    simp only [hop, resolve, invoke, builtin, Sem.run_bind, Sem.run_pure, Result.andThen_ok, List.map_toArray, List.map_cons, List.map_nil, ex, ey, hr]
  · exact (h3.block bk (Array.getElem?_eq_some_iff.1 hbk).1 (fun e => row_far hW.row hbk (by decide) e.symm)).trans hbk
  · exact (h3.block b (by omega) (fun e => h2' e.symm)).trans (hW.old b hb h1 h2' h3')

theorem ob_op10 (h : Stob ops base base0 bk N k n vl cv e0 e1 cs w0 a0 listed a w 10 o) : Okob base base0 bk N k n vl cv e0 e1 cs w0 listed a w 10 o := by
  have hs := h.is.at h.op
  obtain ⟨hop, hdst⟩ : o.op = .move (.tmp 1) ∧ o.dst = some 33 := by
    have e := (Option.some.inj hs).symm
    exact ⟨(Prod.mk.inj e).1, (Prod.mk.inj e).2⟩
  exact h.pure (by decide) (by decide) (by simp only [execOp, hop]; rfl) hdst h.t1'

theorem ob_op11 (h : Stob ops base base0 bk N k n vl cv e0 e1 cs w0 a0 listed a w 11 o) : Okob base base0 bk N k n vl cv e0 e1 cs w0 listed a w 11 o := by
  have hs := h.is.at h.op
  obtain ⟨hop, hdst⟩ : o.op = .load 59 (.tmp 4) ∧ o.dst = some 34 := by
    have e := (Option.some.inj hs).symm
    exact ⟨(Prod.mk.inj e).1, (Prod.mk.inj e).2⟩
  have e := h.t4'
  refine h.pure (v := .agg #[.int .i64 (-7000 - (k : Int)), .string ⟨#[]⟩, .string ⟨#[]⟩, .int .i64 0, .int .i64 0, .int .i64 0]) (by decide) (by decide) ?_ hdst rfl
  simp only [execOp, hop, e, Sem.run_bind, ob_ld _ _ _ h.inv.world.box, Result.andThen_ok, Sem.run_pure]

theorem ob_op12 (h : Stob ops base base0 bk N k n vl cv e0 e1 cs w0 a0 listed a w 12 o) : Okob base base0 bk N k n vl cv e0 e1 cs w0 listed a w 12 o := by
  have hs := h.is.at h.op
  obtain ⟨hop, hdst⟩ : o.op = .load 59 (.tmp 4) ∧ o.dst = some 35 := by
    have e := (Option.some.inj hs).symm
    exact ⟨(Prod.mk.inj e).1, (Prod.mk.inj e).2⟩
  have e := h.t4'
  refine h.pure (v := .agg #[.int .i64 (-7000 - (k : Int)), .string ⟨#[]⟩, .string ⟨#[]⟩, .int .i64 0, .int .i64 0, .int .i64 0]) (by decide) (by decide) ?_ hdst rfl
  simp only [execOp, hop, e, Sem.run_bind, ob_ld _ _ _ h.inv.world.box, Result.andThen_ok, Sem.run_pure]

theorem ob_op13 (h : Stob ops base base0 bk N k n vl cv e0 e1 cs w0 a0 listed a w 13 o) : Okob base base0 bk N k n vl cv e0 e1 cs w0 listed a w 13 o := by
  have hs := h.is.at h.op
  obtain ⟨hop, hdst⟩ : o.op = .buildSlice 33 2 #[(0, .tmp 34), (1, .tmp 35)] ∧ o.dst = some 36 := by
    have e := (Option.some.inj hs).symm
    exact ⟨(Prod.mk.inj e).1, (Prod.mk.inj e).2⟩
  have g34 := h.val 11 34 (h.dep 11 (by decide)) rfl
  have e34 : a.eval (.tmp 34) = .agg #[.int .i64 (-7000 - (k : Int)), .string ⟨#[]⟩, .string ⟨#[]⟩, .int .i64 0, .int .i64 0, .int .i64 0] := g34
  have g35 := h.val 12 35 (h.dep 12 (by decide)) rfl
  have e35 : a.eval (.tmp 35) = .agg #[.int .i64 (-7000 - (k : Int)), .string ⟨#[]⟩, .string ⟨#[]⟩, .int .i64 0, .int .i64 0, .int .i64 0] := g35
  have hN := h.inv.world.lt
  refine h.new (v := .slice (some ⟨w.heap.size, 0, none⟩) 2 2) (ob := .cells (repC (obC k) 2).toArray 59) (by decide) ?_ hdst ⟨w.heap.size, rfl, ?_⟩
  · simp only [execOp, hop, e34, e35, List.map_toArray, List.map_cons, List.map_nil, Sem.run_bind, ob_bs2, Result.andThen_ok, Sem.run_pure]
  · have := World.ownsRow_lit (base := N) (e := 59) (size := 6) w (repC (obC k) 2).toArray 2 (by omega) (by unfold maxLen; omega) (by simp [repC_len, obC_len])
    simpa using this

theorem ob_op14 (h : Stob ops base base0 bk N k n vl cv e0 e1 cs w0 a0 listed a w 14 o) : Okob base base0 bk N k n vl cv e0 e1 cs w0 listed a w 14 o := by
  have hs := h.is.at h.op
  obtain ⟨hop, hdst⟩ : o.op = .call { callee := .builtin .append, args := #[.tmp 33, .tmp 36], argTypes := #[33, 33] } ∧ o.dst = some 37 := by
    have e := (Option.some.inj hs).symm
    exact ⟨(Prod.mk.inj e).1, (Prod.mk.inj e).2⟩
  have gx := h.val 10 33 (h.dep 10 (by decide)) rfl
  have gy := h.val 13 36 (h.dep 13 (by decide)) rfl
  have ex : a.eval (.tmp 33) = vl := gx
  obtain ⟨g, ey, hy⟩ : ∃ g, a.eval (.tmp 36) = .slice (some ⟨g, 0, none⟩) 2 2 ∧ w.ownsRow N 59 6 (a.eval (.tmp 36)) 2 (repC (obC k) 2) := gy
  rw [ey] at hy
  have hW := h.inv.world
  have hN := hW.lt
  have hba := h.ba
  have hnl := h.nl
  obtain ⟨i0, hi, hz0, hz1, hz2⟩ := info_parts info59b
  obtain ⟨v', w', hr, h2, h3, h4⟩ := run_append_rep (P := Tryz.prog) w base 33 o.type 59 i0 _ 6 64 Tryz.underlying33 hi hz0 hz1 hz2 rfl (by decide) (obC k) rfl vl n hW.row ⟨g, 0, none⟩ 2 2 (hy.cells (g := g) rfl) (obC_one k) (by unfold maxLen; omega) (by omega) (by omega)
  have hd9 := h.open29 (by decide)
  have hbk := hW.bok hd9
  have hsf : Sfob N k w w' := ⟨fun b hb hb2 => h3.block b hb2 (fun e => by have := h.vN b e.symm; omega), fun b u p hx => h4 b u p hx⟩
  have h49 : ∀ u p xs, w.ownsRow base0 78 1 u p xs → w'.ownsRow base0 78 1 u p xs := fun u p xs hx => hx.kept h3 (row_apart hx hW.row (by decide))
  refine ⟨v', w', .inl ?_, fun d' hd' => by rw [hdst] at hd'; cases hd'; exact h2, fun d' u _ hg => Gob.sf hsf h49 d' u hg, Wdob.same ⟨h4 _ _ _ hW.row, (hsf.new N (Nat.le_refl _) hN).trans hW.box, fun h1 => h49 _ _ _ (hW.chs h1), fun h1 => ?_, fun h1 => (by rw [hd9] at h1; cases h1), fun b hb h1 h2' h3' => ?_, h3.os.trans hW.os, h3.tape.trans hW.tape, h3.output.trans hW.output⟩ (by decide) (by decide)⟩
  · unfold execOp
    simp only [hop, resolve, invoke, builtin, Sem.run_bind, Sem.run_pure, Result.andThen_ok, List.map_toArray, List.map_cons, List.map_nil, ex, ey, hr]
  · exact (h3.block bk (Array.getElem?_eq_some_iff.1 hbk).1 (fun e => row_far hW.row hbk (by decide) e.symm)).trans hbk
  · exact (h3.block b (by omega) (fun e => h2' e.symm)).trans (hW.old b hb h1 h2' h3')

theorem ob_op15 (h : Stob ops base base0 bk N k n vl cv e0 e1 cs w0 a0 listed a w 15 o) : Okob base base0 bk N k n vl cv e0 e1 cs w0 listed a w 15 o := by
  have hs := h.is.at h.op
  obtain ⟨hop, hdst⟩ : o.op = .move (.tmp 1) ∧ o.dst = some 38 := by
    have e := (Option.some.inj hs).symm
    exact ⟨(Prod.mk.inj e).1, (Prod.mk.inj e).2⟩
  exact h.pure (by decide) (by decide) (by simp only [execOp, hop]; rfl) hdst h.t1'

theorem ob_op16 (h : Stob ops base base0 bk N k n vl cv e0 e1 cs w0 a0 listed a w 16 o) : Okob base base0 bk N k n vl cv e0 e1 cs w0 listed a w 16 o := by
  have hs := h.is.at h.op
  obtain ⟨hop, hdst⟩ : o.op = .load 59 (.tmp 4) ∧ o.dst = some 39 := by
    have e := (Option.some.inj hs).symm
    exact ⟨(Prod.mk.inj e).1, (Prod.mk.inj e).2⟩
  have e := h.t4'
  refine h.pure (v := .agg #[.int .i64 (-7000 - (k : Int)), .string ⟨#[]⟩, .string ⟨#[]⟩, .int .i64 0, .int .i64 0, .int .i64 0]) (by decide) (by decide) ?_ hdst rfl
  simp only [execOp, hop, e, Sem.run_bind, ob_ld _ _ _ h.inv.world.box, Result.andThen_ok, Sem.run_pure]

theorem ob_op17 (h : Stob ops base base0 bk N k n vl cv e0 e1 cs w0 a0 listed a w 17 o) : Okob base base0 bk N k n vl cv e0 e1 cs w0 listed a w 17 o := by
  have hs := h.is.at h.op
  obtain ⟨hop, hdst⟩ : o.op = .load 59 (.tmp 4) ∧ o.dst = some 40 := by
    have e := (Option.some.inj hs).symm
    exact ⟨(Prod.mk.inj e).1, (Prod.mk.inj e).2⟩
  have e := h.t4'
  refine h.pure (v := .agg #[.int .i64 (-7000 - (k : Int)), .string ⟨#[]⟩, .string ⟨#[]⟩, .int .i64 0, .int .i64 0, .int .i64 0]) (by decide) (by decide) ?_ hdst rfl
  simp only [execOp, hop, e, Sem.run_bind, ob_ld _ _ _ h.inv.world.box, Result.andThen_ok, Sem.run_pure]

theorem ob_op18 (h : Stob ops base base0 bk N k n vl cv e0 e1 cs w0 a0 listed a w 18 o) : Okob base base0 bk N k n vl cv e0 e1 cs w0 listed a w 18 o := by
  have hs := h.is.at h.op
  obtain ⟨hop, hdst⟩ : o.op = .load 59 (.tmp 4) ∧ o.dst = some 41 := by
    have e := (Option.some.inj hs).symm
    exact ⟨(Prod.mk.inj e).1, (Prod.mk.inj e).2⟩
  have e := h.t4'
  refine h.pure (v := .agg #[.int .i64 (-7000 - (k : Int)), .string ⟨#[]⟩, .string ⟨#[]⟩, .int .i64 0, .int .i64 0, .int .i64 0]) (by decide) (by decide) ?_ hdst rfl
  simp only [execOp, hop, e, Sem.run_bind, ob_ld _ _ _ h.inv.world.box, Result.andThen_ok, Sem.run_pure]

theorem ob_op19 (h : Stob ops base base0 bk N k n vl cv e0 e1 cs w0 a0 listed a w 19 o) : Okob base base0 bk N k n vl cv e0 e1 cs w0 listed a w 19 o := by
  have hs := h.is.at h.op
  obtain ⟨hop, hdst⟩ : o.op = .load 59 (.tmp 4) ∧ o.dst = some 42 := by
    have e := (Option.some.inj hs).symm
    exact ⟨(Prod.mk.inj e).1, (Prod.mk.inj e).2⟩
  have e := h.t4'
  refine h.pure (v := .agg #[.int .i64 (-7000 - (k : Int)), .string ⟨#[]⟩, .string ⟨#[]⟩, .int .i64 0, .int .i64 0, .int .i64 0]) (by decide) (by decide) ?_ hdst rfl
  simp only [execOp, hop, e, Sem.run_bind, ob_ld _ _ _ h.inv.world.box, Result.andThen_ok, Sem.run_pure]

theorem ob_op20 (h : Stob ops base base0 bk N k n vl cv e0 e1 cs w0 a0 listed a w 20 o) : Okob base base0 bk N k n vl cv e0 e1 cs w0 listed a w 20 o := by
  have hs := h.is.at h.op
  obtain ⟨hop, hdst⟩ : o.op = .load 59 (.tmp 4) ∧ o.dst = some 43 := by
    have e := (Option.some.inj hs).symm
    exact ⟨(Prod.mk.inj e).1, (Prod.mk.inj e).2⟩
  have e := h.t4'
  refine h.pure (v := .agg #[.int .i64 (-7000 - (k : Int)), .string ⟨#[]⟩, .string ⟨#[]⟩, .int .i64 0, .int .i64 0, .int .i64 0]) (by decide) (by decide) ?_ hdst rfl
  simp only [execOp, hop, e, Sem.run_bind, ob_ld _ _ _ h.inv.world.box, Result.andThen_ok, Sem.run_pure]

theorem ob_op21 (h : Stob ops base base0 bk N k n vl cv e0 e1 cs w0 a0 listed a w 21 o) : Okob base base0 bk N k n vl cv e0 e1 cs w0 listed a w 21 o := by
  have hs := h.is.at h.op
  obtain ⟨hop, hdst⟩ : o.op = .load 59 (.tmp 4) ∧ o.dst = some 44 := by
    have e := (Option.some.inj hs).symm
    exact ⟨(Prod.mk.inj e).1, (Prod.mk.inj e).2⟩
  have e := h.t4'
  refine h.pure (v := .agg #[.int .i64 (-7000 - (k : Int)), .string ⟨#[]⟩, .string ⟨#[]⟩, .int .i64 0, .int .i64 0, .int .i64 0]) (by decide) (by decide) ?_ hdst rfl
  simp only [execOp, hop, e, Sem.run_bind, ob_ld _ _ _ h.inv.world.box, Result.andThen_ok, Sem.run_pure]

theorem ob_op22 (h : Stob ops base base0 bk N k n vl cv e0 e1 cs w0 a0 listed a w 22 o) : Okob base base0 bk N k n vl cv e0 e1 cs w0 listed a w 22 o := by
  have hs := h.is.at h.op
  obtain ⟨hop, hdst⟩ : o.op = .buildSlice 33 6 #[(0, .tmp 39), (1, .tmp 40), (2, .tmp 41), (3, .tmp 42), (4, .tmp 43), (5, .tmp 44)] ∧ o.dst = some 45 := by
    have e := (Option.some.inj hs).symm
    exact ⟨(Prod.mk.inj e).1, (Prod.mk.inj e).2⟩
  have g39 := h.val 16 39 (h.dep 16 (by decide)) rfl
  have e39 : a.eval (.tmp 39) = .agg #[.int .i64 (-7000 - (k : Int)), .string ⟨#[]⟩, .string ⟨#[]⟩, .int .i64 0, .int .i64 0, .int .i64 0] := g39
  have g40 := h.val 17 40 (h.dep 17 (by decide)) rfl
  have e40 : a.eval (.tmp 40) = .agg #[.int .i64 (-7000 - (k : Int)), .string ⟨#[]⟩, .string ⟨#[]⟩, .int .i64 0, .int .i64 0, .int .i64 0] := g40
  have g41 := h.val 18 41 (h.dep 18 (by decide)) rfl
  have e41 : a.eval (.tmp 41) = .agg #[.int .i64 (-7000 - (k : Int)), .string ⟨#[]⟩, .string ⟨#[]⟩, .int .i64 0, .int .i64 0, .int .i64 0] := g41
  have g42 := h.val 19 42 (h.dep 19 (by decide)) rfl
  have e42 : a.eval (.tmp 42) = .agg #[.int .i64 (-7000 - (k : Int)), .string ⟨#[]⟩, .string ⟨#[]⟩, .int .i64 0, .int .i64 0, .int .i64 0] := g42
  have g43 := h.val 20 43 (h.dep 20 (by decide)) rfl
  have e43 : a.eval (.tmp 43) = .agg #[.int .i64 (-7000 - (k : Int)), .string ⟨#[]⟩, .string ⟨#[]⟩, .int .i64 0, .int .i64 0, .int .i64 0] := g43
  have g44 := h.val 21 44 (h.dep 21 (by decide)) rfl
  have e44 : a.eval (.tmp 44) = .agg #[.int .i64 (-7000 - (k : Int)), .string ⟨#[]⟩, .string ⟨#[]⟩, .int .i64 0, .int .i64 0, .int .i64 0] := g44
  have hN := h.inv.world.lt
  refine h.new (v := .slice (some ⟨w.heap.size, 0, none⟩) 6 6) (ob := .cells (repC (obC k) 6).toArray 59) (by decide) ?_ hdst ⟨w.heap.size, rfl, ?_⟩
  · simp only [execOp, hop, e39, e40, e41, e42, e43, e44, List.map_toArray, List.map_cons, List.map_nil, Sem.run_bind, ob_bs6, Result.andThen_ok, Sem.run_pure]
  · have := World.ownsRow_lit (base := N) (e := 59) (size := 6) w (repC (obC k) 6).toArray 6 (by omega) (by unfold maxLen; omega) (by simp [repC_len, obC_len])
    simpa using this

theorem ob_op23 (h : Stob ops base base0 bk N k n vl cv e0 e1 cs w0 a0 listed a w 23 o) : Okob base base0 bk N k n vl cv e0 e1 cs w0 listed a w 23 o := by
  have hs := h.is.at h.op
  obtain ⟨hop, hdst⟩ : o.op = .call { callee := .builtin .append, args := #[.tmp 38, .tmp 45], argTypes := #[33, 33] } ∧ o.dst = some 46 := by
    have e := (Option.some.inj hs).symm
    exact ⟨(Prod.mk.inj e).1, (Prod.mk.inj e).2⟩
  have gx := h.val 15 38 (h.dep 15 (by decide)) rfl
  have gy := h.val 22 45 (h.dep 22 (by decide)) rfl
  have ex : a.eval (.tmp 38) = vl := gx
  obtain ⟨g, ey, hy⟩ : ∃ g, a.eval (.tmp 45) = .slice (some ⟨g, 0, none⟩) 6 6 ∧ w.ownsRow N 59 6 (a.eval (.tmp 45)) 6 (repC (obC k) 6) := gy
  rw [ey] at hy
  have hW := h.inv.world
  have hN := hW.lt
  have hba := h.ba
  have hnl := h.nl
  obtain ⟨i0, hi, hz0, hz1, hz2⟩ := info_parts info59b
  obtain ⟨v', w', hr, h2, h3, h4⟩ := run_append_rep (P := Tryz.prog) w base 33 o.type 59 i0 _ 6 64 Tryz.underlying33 hi hz0 hz1 hz2 rfl (by decide) (obC k) rfl vl n hW.row ⟨g, 0, none⟩ 6 6 (hy.cells (g := g) rfl) (obC_one k) (by unfold maxLen; omega) (by omega) (by omega)
  have hd9 := h.open29 (by decide)
  have hbk := hW.bok hd9
  have hsf : Sfob N k w w' := ⟨fun b hb hb2 => h3.block b hb2 (fun e => by have := h.vN b e.symm; omega), fun b u p hx => h4 b u p hx⟩
  have h49 : ∀ u p xs, w.ownsRow base0 78 1 u p xs → w'.ownsRow base0 78 1 u p xs := fun u p xs hx => hx.kept h3 (row_apart hx hW.row (by decide))
  refine ⟨v', w', .inl ?_, fun d' hd' => by rw [hdst] at hd'; cases hd'; exact h2, fun d' u _ hg => Gob.sf hsf h49 d' u hg, Wdob.same ⟨h4 _ _ _ hW.row, (hsf.new N (Nat.le_refl _) hN).trans hW.box, fun h1 => h49 _ _ _ (hW.chs h1), fun h1 => ?_, fun h1 => (by rw [hd9] at h1; cases h1), fun b hb h1 h2' h3' => ?_, h3.os.trans hW.os, h3.tape.trans hW.tape, h3.output.trans hW.output⟩ (by decide) (by decide)⟩
  · unfold execOp
    simp only [hop, resolve, invoke, builtin, Sem.run_bind, Sem.run_pure, Result.andThen_ok, List.map_toArray, List.map_cons, List.map_nil, ex, ey, hr]
  · exact (h3.block bk (Array.getElem?_eq_some_iff.1 hbk).1 (fun e => row_far hW.row hbk (by decide) e.symm)).trans hbk
  · exact (h3.block b (by omega) (fun e => h2' e.symm)).trans (hW.old b hb h1 h2' h3')

theorem ob_op24 (h : Stob ops base base0 bk N k n vl cv e0 e1 cs w0 a0 listed a w 24 o) : Okob base base0 bk N k n vl cv e0 e1 cs w0 listed a w 24 o := by
  have hs := h.is.at h.op
  obtain ⟨hop, hdst⟩ : o.op = .buildSlice 78 4 #[(0, .tmp 28), (1, .tmp 32), (2, .tmp 37), (3, .tmp 46)] ∧ o.dst = some 47 := by
    have e := (Option.some.inj hs).symm
    exact ⟨(Prod.mk.inj e).1, (Prod.mk.inj e).2⟩
  have g28 := h.val 5 28 (h.dep 5 (by decide)) rfl
  have g32 := h.val 9 32 (h.dep 9 (by decide)) rfl
  have g37 := h.val 14 37 (h.dep 14 (by decide)) rfl
  have g46 := h.val 23 46 (h.dep 23 (by decide)) rfl
  have e28 : a.eval (.tmp 28) = vl := g28
  have r32 : w.ownsRow base 59 6 (a.eval (.tmp 32)) (n + 1) (repC (obC k) (n + 1)) := g32
  have r37 : w.ownsRow base 59 6 (a.eval (.tmp 37)) (n + 2) (repC (obC k) (n + 2)) := g37
  have r46 : w.ownsRow base 59 6 (a.eval (.tmp 46)) (n + 6) (repC (obC k) (n + 6)) := g46
  have hW := h.inv.world
  have hN := hW.lt
  have rl := hW.row
  obtain ⟨p0, n0, c0, hv0⟩ := row_slice rl
  obtain ⟨p1, n1, c1, hv1⟩ := row_slice r32
  obtain ⟨p2, n2, c2, hv2⟩ := row_slice r37
  obtain ⟨p3, n3, c3, hv3⟩ := row_slice r46
  refine h.new (v := .slice (some ⟨w.heap.size, 0, none⟩) 4 4) (ob := .cells #[vl, a.eval (.tmp 32), a.eval (.tmp 37), a.eval (.tmp 46)] 33) (by decide) ?_ hdst ⟨w.heap.size, rfl, by omega, _, _, _, heap_alloc_new w _, rl.alloc _, r32.alloc _, r37.alloc _, r46.alloc _⟩
  simp only [execOp, hop, e28, hv0, hv1, hv2, hv3, List.map_toArray, List.map_cons, List.map_nil, Sem.run_bind, ob_bs4, Result.andThen_ok, Sem.run_pure]

theorem ob_op25 (h : Stob ops base base0 bk N k n vl cv e0 e1 cs w0 a0 listed a w 25 o) : Okob base base0 bk N k n vl cv e0 e1 cs w0 listed a w 25 o := by
  have hs := h.is.at h.op
  obtain ⟨hop, hdst⟩ : o.op = .buildSlice 27 1 #[(0, .tmp 47)] ∧ o.dst = some 48 := by
    have e := (Option.some.inj hs).symm
    exact ⟨(Prod.mk.inj e).1, (Prod.mk.inj e).2⟩
  have g47 := h.val 24 47 (h.dep 24 (by decide)) rfl
  obtain ⟨q, ev, hq, hQ⟩ : ∃ q, a.eval (.tmp 47) = .slice (some ⟨q, 0, none⟩) 4 4 ∧ N ≤ q ∧ Quadob base k n vl q w := g47
  have hN := h.inv.world.lt
  refine h.new (v := .slice (some ⟨w.heap.size, 0, none⟩) 1 1) (ob := .cells #[.slice (some ⟨q, 0, none⟩) 4 4] 78) (by decide) ?_ hdst ⟨w.heap.size, q, rfl, by omega, heap_alloc_new w _, hq, hQ.sf (Sfob.alloc N k w _) hq⟩
  simp only [execOp, hop, ev, List.map_toArray, List.map_cons, List.map_nil, Sem.run_bind, ob_bsq, Result.andThen_ok, Sem.run_pure]

theorem ob_op26 (h : Stob ops base base0 bk N k n vl cv e0 e1 cs w0 a0 listed a w 26 o) : Okob base base0 bk N k n vl cv e0 e1 cs w0 listed a w 26 o := by
  have hs := h.is.at h.op
  obtain ⟨hop, hdst⟩ : o.op = .call { callee := .builtin .append, args := #[.tmp 27, .tmp 48], argTypes := #[27, 27] } ∧ o.dst = some 49 := by
    have e := (Option.some.inj hs).symm
    exact ⟨(Prod.mk.inj e).1, (Prod.mk.inj e).2⟩
  have g27 := h.val 4 27 (h.dep 4 (by decide)) rfl
  have g48 := h.val 25 48 (h.dep 25 (by decide)) rfl
  have ex : a.eval (.tmp 27) = cv := g27
  obtain ⟨g, q, ey, hg, hgb, hq, hQ⟩ : ∃ g q, a.eval (.tmp 48) = .slice (some ⟨g, 0, none⟩) 1 1 ∧ N ≤ g ∧ w.heap[g]? = some (.cells #[.slice (some ⟨q, 0, none⟩) 4 4] 78 (0, 0)) ∧ N ≤ q ∧ Quadob base k n vl q w := g48
  have hW := h.inv.world
  have hN := hW.lt
  have hb0 := h.b0
  have hkl := h.kl
  have hch := hW.chs h.self
  have hd9 := h.open29 (by decide)
  have hbk := hW.bok hd9
  obtain ⟨i0, hi, hz0, hz1, hz2⟩ := info_parts info78b
  have hnews : ∀ j u, [Value.slice (some ⟨q, 0, none⟩) 4 4][j]? = some u → w.cell? ((⟨g, 0, none⟩ : Addr).add j) = some u := by
    intro j u hu
    have hadd : (⟨g, 0, none⟩ : Addr).add j = ⟨g, j, none⟩ := by unfold Addr.add; split <;> simp_all
    rw [hadd, cell_of_row w g j _ _ _ hgb]
    simpa using hu
  obtain ⟨v', w', hr, h2, h3, _⟩ := run_append_own (P := Tryz.prog) w base0 27 o.type 78 i0 _ 1 24 Tryz.underlying27 hi hz0 hz1 hz2 rfl (by decide) cv k cs hch ⟨g, 0, none⟩ 1 1 [.slice (some ⟨q, 0, none⟩) 4 4] rfl hnews (by intro u hu; simp at hu; subst hu; rfl) (by unfold maxLen; omega) (by omega) (by omega)
  have hsf : Sfob N k w w' := ⟨fun b hb hb2 => h3.block b hb2 (fun e => by have := h.cN b e.symm; omega), fun b u p hx => hx.kept h3 (row_apart hx hch (by decide))⟩
  refine ⟨v', w', .inl ?_, fun d' hd' => by rw [hdst] at hd'; cases hd'; exact ⟨q, hq, hQ.sf hsf hq, h2⟩, fun d' u hne hg => Gob.sf49 hsf d' u (by rw [hdst] at hne; exact hne) hg, ⟨hsf.reps _ _ _ hW.row, (hsf.new N (Nat.le_refl _) hN).trans hW.box, fun h1 => ?_, fun h1 => ?_, fun h1 => ?_, fun b hb h1 h2' h3' => ?_, h3.os.trans hW.os, h3.tape.trans hW.tape, h3.output.trans hW.output⟩⟩
  · unfold execOp
    simp only [hop, resolve, invoke, builtin, Sem.run_bind, Sem.run_pure, Result.andThen_ok, List.map_toArray, List.map_cons, List.map_nil, ex, ey, hr]
  · rw [listed_self _ _ (by rw [h.inv.size]; exact (Array.getElem?_eq_some_iff.1 h.op).1)] at h1; cases h1
  · exact (h3.block bk (Array.getElem?_eq_some_iff.1 hbk).1 (fun e => row_far hch hbk (by decide) e.symm)).trans hbk
  · rw [listed_other _ _ _ (by decide), hd9] at h1; cases h1
  · exact (h3.block b (by omega) (fun e => h3' e.symm)).trans (hW.old b hb h1 h2' h3')

theorem ob_op27 (h : Stob ops base base0 bk N k n vl cv e0 e1 cs w0 a0 listed a w 27 o) : Okob base base0 bk N k n vl cv e0 e1 cs w0 listed a w 27 o := by
  have hs := h.is.at h.op
  obtain ⟨hop, hdst⟩ : o.op = .nilCheck (.tmp 23) ∧ o.dst = some 50 := by
    have e := (Option.some.inj hs).symm
    exact ⟨(Prod.mk.inj e).1, (Prod.mk.inj e).2⟩
  have g := h.val 0 23 (h.dep 0 (by decide)) rfl
  have e : a.eval (.tmp 23) = .pointer (some ⟨bk, 0, none⟩) := g
  exact h.pure (by decide) (by decide) (by simp only [execOp, hop, e]; rfl) hdst rfl

theorem ob_op28 (h : Stob ops base base0 bk N k n vl cv e0 e1 cs w0 a0 listed a w 28 o) : Okob base base0 bk N k n vl cv e0 e1 cs w0 listed a w 28 o := by
  have hs := h.is.at h.op
  obtain ⟨hop, hdst⟩ : o.op = .fieldAddr 30 (.tmp 50) 1 ∧ o.dst = some 51 := by
    have e := (Option.some.inj hs).symm
    exact ⟨(Prod.mk.inj e).1, (Prod.mk.inj e).2⟩
  have g := h.val 27 50 (h.dep 27 (by decide)) rfl
  have e : a.eval (.tmp 50) = .pointer (some ⟨bk, 0, none⟩) := g
  refine h.pure (v := .pointer (some ⟨bk, 1, none⟩)) (by decide) (by decide) ?_ hdst rfl
  simp only [execOp, hop, e, Sem.run_bind, ob_fa, Result.andThen_ok, Sem.run_pure]

theorem ob_op29 (h : Stob ops base base0 bk N k n vl cv e0 e1 cs w0 a0 listed a w 29 o) : Okob base base0 bk N k n vl cv e0 e1 cs w0 listed a w 29 o := by
  have hs := h.is.at h.op
  obtain ⟨hop, hdst⟩ : o.op = .store 27 (.tmp 51) (.tmp 49) ∧ o.dst = none := by
    have e := (Option.some.inj hs).symm
    exact ⟨(Prod.mk.inj e).1, (Prod.mk.inj e).2⟩
  have g51 := h.val 28 51 (h.dep 28 (by decide)) rfl
  have g49 := h.val 26 49 (h.dep 26 (by decide)) rfl
  have ex : a.eval (.tmp 51) = .pointer (some ⟨bk, 1, none⟩) := g51
  obtain ⟨q, hq, hQ, hrow⟩ : ∃ q, N ≤ q ∧ Quadob base k n vl q w ∧ w.ownsRow base0 78 1 (a.eval (.tmp 49)) (k + 1) (cs ++ [Value.slice (some ⟨q, 0, none⟩) 4 4]) := g49
  have hW := h.inv.world
  have hN := hW.lt
  have hbn := h.bn
  have hd9 := h.self
  have hbk := hW.bok hd9
  obtain ⟨p, m, c, hv⟩ := row_slice hrow
  have hc : w.cell? ⟨bk, 1, none⟩ = some cv := by rw [cell_of_row w bk 1 _ _ _ hbk]; rfl
  have hf : w.frozen? ⟨bk, 1, none⟩ = false := frozen_of_row w bk 1 _ _ hbk
  have hrun := ob_st bk p m c cv w hc hf
  rw [← hv] at hrun
  generalize hx : a.eval (.tmp 49) = v at *
  have hset : (w.setCell ⟨bk, 1, none⟩ v).heap[bk]? = some (.cells #[e0, v, e1] 30 (0, 0)) := by
    rw [heap_setCell_same w bk 1 _ _ v hbk]; rfl
  have hoth : ∀ b, b ≠ bk → (w.setCell ⟨bk, 1, none⟩ v).heap[b]? = w.heap[b]? := fun b hb => heap_setCell_other w ⟨bk, 1, none⟩ b v (fun e => hb (by simpa using e))
  have hgr : w.grownBy (w.setCell ⟨bk, 1, none⟩ v) (some bk) := ⟨rfl, rfl, rfl, by simp, fun b _ hb => hoth b (fun e => hb (by rw [e]))⟩
  have hsf : Sfob N k w (w.setCell ⟨bk, 1, none⟩ v) := ⟨fun b hb _ => hoth b (by omega), fun b u p hx => hx.kept hgr (.inr (row_far hx hbk (by decide)))⟩
  have h49 : ∀ u p xs, w.ownsRow base0 78 1 u p xs → (w.setCell ⟨bk, 1, none⟩ v).ownsRow base0 78 1 u p xs := fun u p xs hx => hx.kept hgr (.inr (row_far hx hbk (by decide)))
  have hl29 : (listed.setIfInBounds 29 true).getD 29 false = true := listed_self _ _ (by rw [h.inv.size]; exact (Array.getElem?_eq_some_iff.1 h.op).1)
  refine ⟨undef, w.setCell ⟨bk, 1, none⟩ v, .inr ⟨?_, rfl⟩, fun d' hd' => (by rw [hdst] at hd'; cases hd'), fun d' u _ hg => Gob.sf hsf h49 d' u hg, ⟨hsf.reps _ _ _ hW.row, (hsf.new N (Nat.le_refl _) hN).trans hW.box, fun h1 => ?_, fun h1 => ?_, fun _ => ⟨v, q, hset, hq, hQ.sf hsf hq, h49 _ _ _ hrow⟩, fun b hb h1 h2' h3' => ?_, hW.os, hW.tape, hW.output⟩⟩
  · simp only [execOp, hop, ex, hx, Sem.run_bind, hrun, Result.andThen_ok, Sem.run_pure]
  · rw [listed_other _ _ _ (by decide)] at h1
    exact h49 _ _ _ (hW.chs h1)
  · rw [hl29] at h1; cases h1
  · exact (hoth b h1).trans (hW.old b hb h1 h2' h3')

theorem ob_ops (h : Stob ops base base0 bk N k n vl cv e0 e1 cs w0 a0 listed a w i o) : Okob base base0 bk N k n vl cv e0 e1 cs w0 listed a w i o := by
  have hlt : i < 30 := by
    have h1 := (Array.getElem?_eq_some_iff.1 h.op).1
    have h2 := congrArg Array.size h.is.shape
    simp at h2
    have h3 : shapeob.size = 30 := rfl
    omega
  match i, hlt, h with
  | 0, _, h => exact ob_op0 h
  | 1, _, h => exact ob_op1 h
  | 2, _, h => exact ob_op2 h
  | 3, _, h => exact ob_op3 h
  | 4, _, h => exact ob_op4 h
  | 5, _, h => exact ob_op5 h
  | 6, _, h => exact ob_op6 h
  | 7, _, h => exact ob_op7 h
  | 8, _, h => exact ob_op8 h
  | 9, _, h => exact ob_op9 h
  | 10, _, h => exact ob_op10 h
  | 11, _, h => exact ob_op11 h
  | 12, _, h => exact ob_op12 h
  | 13, _, h => exact ob_op13 h
  | 14, _, h => exact ob_op14 h
  | 15, _, h => exact ob_op15 h
  | 16, _, h => exact ob_op16 h
  | 17, _, h => exact ob_op17 h
  | 18, _, h => exact ob_op18 h
  | 19, _, h => exact ob_op19 h
  | 20, _, h => exact ob_op20 h
  | 21, _, h => exact ob_op21 h
  | 22, _, h => exact ob_op22 h
  | 23, _, h => exact ob_op23 h
  | 24, _, h => exact ob_op24 h
  | 25, _, h => exact ob_op25 h
  | 26, _, h => exact ob_op26 h
  | 27, _, h => exact ob_op27 h
  | 28, _, h => exact ob_op28 h
  | 29, _, h => exact ob_op29 h
  | j + 30, hlt, _ => exact absurd hlt (by omega)
end
end Go.Proofs.YtpjjagalekolaaaGreatDoor

