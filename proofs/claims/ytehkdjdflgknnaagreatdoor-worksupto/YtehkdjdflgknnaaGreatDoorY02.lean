/- DE, DF: in one text. -/
import Derived.Test.YtehkdjdflgknnaaGreatDoorY00
import Derived.Test.YtehkdjdflgknnaaGreatDoorY01
/- The book's list of entries: a list that came out is written full with the mark of its number, and is kept with three that append makes of it. -/
namespace Go.Proofs.YtehkdjdflgknnaaGreatDoor
open Go.RowKit
set_option linter.unusedVariables false
set_option linter.unusedSimpArgs false

theorem info75b : (Tryz.prog.info? 75).map (fun i => (i.zero, i.size, i.bytes)) = some (some (.agg #[.string ByteArray.empty, .bool false, .int .i64 0, .int .i64 0, .int .i64 0]), 5, 48) := by kernel_rfl
theorem info81b : (Tryz.prog.info? 81).map (fun i => (i.zero, i.size, i.bytes)) = some (some (.slice none 0 0), 1, 24) := by kernel_rfl
set_option maxHeartbeats 400000 in
theorem mark_any (n : Int) (w : World) (h0 : 0 ≤ n) (h1 : n ≤ 100000000) :
    Calls Tryz.prog 36 #[.int .i64 n] w fun e w' => e = .returned (.int .i64 (-7000 - n)) ∧ w' = w := by
  go_enter Tryz.func36, Tryz.ntmps36
  go_wp2
  go_ret
  exact ⟨rfl, rfl⟩

def enC (k : Nat) : List Value := [.string ⟨#[]⟩, .bool false, .int .i64 (-7000 - (k : Int)), .int .i64 0, .int .i64 0]
theorem enC_len (k : Nat) : (enC k).length = 5 := rfl
theorem enC_one (k : Nat) : ∀ u ∈ enC k, u.oneCell' = true := by
  intro u hu
  simp only [enC, List.mem_cons, List.not_mem_nil, or_false] at hu
  rcases hu with rfl | rfl | rfl | rfl | rfl <;> rfl

theorem en_fa (bk : Nat) (w : World) : (Instr.fieldAt 30 (.pointer (some ⟨bk, 0, none⟩)) 0).run Tryz.prog w = .ok (.pointer (some ⟨bk, 0, none⟩)) w := by kernel_rfl
theorem en_bs1 (k : Nat) (w : World) : (Instr.buildSlice 22 1 #[(0, .agg #[.string ⟨#[]⟩, .bool false, .int .i64 (-7000 - (k : Int)), .int .i64 0, .int .i64 0])]).run Tryz.prog w = .ok (.slice (some ⟨w.heap.size, 0, none⟩) 1 1) (w.alloc (.cells (repC (enC k) 1).toArray 75)) := by kernel_rfl
theorem en_bs2 (k : Nat) (w : World) : (Instr.buildSlice 22 2 #[(0, .agg #[.string ⟨#[]⟩, .bool false, .int .i64 (-7000 - (k : Int)), .int .i64 0, .int .i64 0]), (1, .agg #[.string ⟨#[]⟩, .bool false, .int .i64 (-7000 - (k : Int)), .int .i64 0, .int .i64 0])]).run Tryz.prog w = .ok (.slice (some ⟨w.heap.size, 0, none⟩) 2 2) (w.alloc (.cells (repC (enC k) 2).toArray 75)) := by kernel_rfl
theorem en_bs6 (k : Nat) (w : World) : (Instr.buildSlice 22 6 #[(0, .agg #[.string ⟨#[]⟩, .bool false, .int .i64 (-7000 - (k : Int)), .int .i64 0, .int .i64 0]), (1, .agg #[.string ⟨#[]⟩, .bool false, .int .i64 (-7000 - (k : Int)), .int .i64 0, .int .i64 0]), (2, .agg #[.string ⟨#[]⟩, .bool false, .int .i64 (-7000 - (k : Int)), .int .i64 0, .int .i64 0]), (3, .agg #[.string ⟨#[]⟩, .bool false, .int .i64 (-7000 - (k : Int)), .int .i64 0, .int .i64 0]), (4, .agg #[.string ⟨#[]⟩, .bool false, .int .i64 (-7000 - (k : Int)), .int .i64 0, .int .i64 0]), (5, .agg #[.string ⟨#[]⟩, .bool false, .int .i64 (-7000 - (k : Int)), .int .i64 0, .int .i64 0])]).run Tryz.prog w = .ok (.slice (some ⟨w.heap.size, 0, none⟩) 6 6) (w.alloc (.cells (repC (enC k) 6).toArray 75)) := by kernel_rfl
theorem en_bs4 (p0 p1 p2 p3 : Option Addr) (n0 n1 n2 n3 c0 c1 c2 c3 : Nat) (w : World) : (Instr.buildSlice 81 4 #[(0, .slice p0 n0 c0), (1, .slice p1 n1 c1), (2, .slice p2 n2 c2), (3, .slice p3 n3 c3)]).run Tryz.prog w = .ok (.slice (some ⟨w.heap.size, 0, none⟩) 4 4) (w.alloc (.cells #[.slice p0 n0 c0, .slice p1 n1 c1, .slice p2 n2 c2, .slice p3 n3 c3] 22)) := by kernel_rfl
theorem en_bsq (p0 : Option Addr) (n0 c0 : Nat) (w : World) : (Instr.buildSlice 26 1 #[(0, .slice p0 n0 c0)]).run Tryz.prog w = .ok (.slice (some ⟨w.heap.size, 0, none⟩) 1 1) (w.alloc (.cells #[.slice p0 n0 c0] 81)) := by kernel_rfl
theorem en_ld (N k : Nat) (w : World) (h : w.heap[N]? = some (.cells (enC k).toArray 75 (0, 0))) : (Instr.loadAt 75 (.pointer (some ⟨N, 0, none⟩))).run Tryz.prog w = .ok (.agg #[.string ⟨#[]⟩, .bool false, .int .i64 (-7000 - (k : Int)), .int .i64 0, .int .i64 0]) w := by
  have h0 : w.cell? ⟨N, 0, none⟩ = (enC k)[0]? := by rw [cell_of_row w N 0 _ _ _ h]; rfl
  have h1 : w.cell? ⟨N, 1, none⟩ = (enC k)[1]? := by rw [cell_of_row w N 1 _ _ _ h]; rfl
  have h2 : w.cell? ⟨N, 2, none⟩ = (enC k)[2]? := by rw [cell_of_row w N 2 _ _ _ h]; rfl
  have h3 : w.cell? ⟨N, 3, none⟩ = (enC k)[3]? := by rw [cell_of_row w N 3 _ _ _ h]; rfl
  have h4 : w.cell? ⟨N, 4, none⟩ = (enC k)[4]? := by rw [cell_of_row w N 4 _ _ _ h]; rfl
  simp only [enC, List.getElem?_cons_zero, List.getElem?_cons_succ] at h0 h1 h2 h3 h4
  go_simp
theorem en_ldc (N : Nat) (v : Value) (w : World) (h0 : w.cell? ⟨N, 0, none⟩ = some v) : (Instr.loadAt 26 (.pointer (some ⟨N, 0, none⟩))).run Tryz.prog w = .ok v w := by
  go_simp
theorem en_st (N : Nat) (p : Option Addr) (n c : Nat) (v : Value) (w : World) (h0 : w.cell? ⟨N, 0, none⟩ = some v) (hf : w.frozen? ⟨N, 0, none⟩ = false) : (Instr.storeAt 26 (.pointer (some ⟨N, 0, none⟩)) (.slice p n c)).run Tryz.prog w = .ok () (w.setCell ⟨N, 0, none⟩ (.slice p n c)) := by
  go_simp

theorem row_slice {w : World} {base e size n : Nat} {v : Value} {xs : List Value} (h : w.ownsRow base e size v n xs) : ∃ p m c, v = .slice p m c := by
  rcases h.2 with ⟨rfl, _⟩ | ⟨g, cap, cur, rfl, _⟩
  · exact ⟨_, _, _, rfl⟩
  · exact ⟨_, _, _, rfl⟩
theorem row_some {w : World} {base e size n : Nat} {v : Value} {xs : List Value} (h : w.ownsRow base e size v n xs) (hn : 0 < n) : ∃ g cap, v = .slice (some ⟨g, 0, none⟩) n cap ∧ base ≤ g ∧ g < w.heap.size := by
  rcases h.2 with ⟨_, h0⟩ | ⟨g, cap, cur, rfl, hb, hg, _⟩
  · omega
  · exact ⟨g, cap, rfl, hb, (Array.getElem?_eq_some_iff.1 hg).1⟩
theorem row_typed {w : World} {base e size n b : Nat} {v : Value} {xs : List Value} (h : w.ownsRow base e size v n xs) (hb : v.ownBlock = some b) : ∃ cur, w.heap[b]? = some (.cells cur e (0, 0)) := by
  rcases h.2 with ⟨rfl, _⟩ | ⟨g, cap, cur, rfl, _, hg, _⟩
  · simp [Value.ownBlock] at hb
  · simp [Value.ownBlock] at hb
    subst hb
    exact ⟨cur, hg⟩
theorem row_apart {w : World} {b1 e1 s1 n1 b2 e2 s2 n2 : Nat} {v1 v2 : Value} {x1 x2 : List Value} (h1 : w.ownsRow b1 e1 s1 v1 n1 x1) (h2 : w.ownsRow b2 e2 s2 v2 n2 x2) (hne : e1 ≠ e2) : v1.ownBlock = none ∨ v1.ownBlock ≠ v2.ownBlock := by
  cases hv : v1.ownBlock with
  | none => exact .inl rfl
  | some b =>
    right
    intro e
    obtain ⟨c1, k1⟩ := row_typed h1 hv
    obtain ⟨c2, k2⟩ := row_typed h2 e.symm
    rw [k1] at k2
    simp at k2
    exact hne k2.2
theorem row_far {w : World} {b1 e1 s1 n1 b e : Nat} {v1 : Value} {x1 : List Value} {cs : Array Value} (h1 : w.ownsRow b1 e1 s1 v1 n1 x1) (h2 : w.heap[b]? = some (.cells cs e (0, 0))) (hne : e1 ≠ e) : v1.ownBlock ≠ some b := by
  intro hv
  obtain ⟨c1, k1⟩ := row_typed h1 hv
  rw [k1] at h2
  simp at h2
  exact hne h2.2

/-- Four lists in one place, all written full with one mark. -/
def Quaden (base k n : Nat) (vl : Value) (q : Nat) (w : World) : Prop :=
  ∃ u1 u2 u6, w.heap[q]? = some (.cells #[vl, u1, u2, u6] 22 (0, 0)) ∧ w.ownsRow base 75 5 vl n (repC (enC k) n) ∧ w.ownsRow base 75 5 u1 (n + 1) (repC (enC k) (n + 1)) ∧ w.ownsRow base 75 5 u2 (n + 2) (repC (enC k) (n + 2)) ∧ w.ownsRow base 75 5 u6 (n + 6) (repC (enC k) (n + 6))

/-- What turns as the operations come up. -/
structure Sfen (N k : Nat) (w w' : World) : Prop where
  new : ∀ b, N ≤ b → b < w.heap.size → w'.heap[b]? = w.heap[b]?
  reps : ∀ b u p, w.ownsRow b 75 5 u p (repC (enC k) p) → w'.ownsRow b 75 5 u p (repC (enC k) p)
theorem Quaden.sf {base k n q N : Nat} {vl : Value} {w w' : World} (h : Quaden base k n vl q w) (hs : Sfen N k w w') (hq : N ≤ q) : Quaden base k n vl q w' := by
  obtain ⟨u1, u2, u6, h0, h1, h2, h3, h4⟩ := h
  exact ⟨u1, u2, u6, (hs.new q hq (Array.getElem?_eq_some_iff.1 h0).1).trans h0, hs.reps _ _ _ h1, hs.reps _ _ _ h2, hs.reps _ _ _ h3, hs.reps _ _ _ h4⟩
theorem Sfen.alloc (N k : Nat) (w : World) (o : Obj) : Sfen N k w (w.alloc o) := ⟨fun b _ hb => (World.grownBy_alloc w o none).block b hb (by simp), fun b u p h => h.alloc o⟩
theorem Sfen.refl (N k : Nat) (w : World) : Sfen N k w w := ⟨fun _ _ _ => rfl, fun _ _ _ h => h⟩

/-- What each slot of the region holds. -/
def Gen (base base0 bk N k n : Nat) (vl cv : Value) (cs : List Value) : Nat → World → Value → Prop
  | 23 => fun _ u => u = .pointer (some ⟨bk, 0, none⟩)
  | 24 => fun _ u => u = .pointer (some ⟨bk, 0, none⟩)
  | 25 => fun _ u => u = .pointer (some ⟨bk, 0, none⟩)
  | 26 => fun _ u => u = .pointer (some ⟨bk, 0, none⟩)
  | 27 => fun _ u => u = cv
  | 28 => fun _ u => u = vl
  | 29 => fun _ u => u = vl
  | 30 => fun _ u => u = .agg #[.string ⟨#[]⟩, .bool false, .int .i64 (-7000 - (k : Int)), .int .i64 0, .int .i64 0]
  | 31 => fun w u => ∃ g, u = .slice (some ⟨g, 0, none⟩) 1 1 ∧ w.ownsRow N 75 5 u 1 (repC (enC k) 1)
  | 32 => fun w u => w.ownsRow base 75 5 u (n + 1) (repC (enC k) (n + 1))
  | 33 => fun _ u => u = vl
  | 34 => fun _ u => u = .agg #[.string ⟨#[]⟩, .bool false, .int .i64 (-7000 - (k : Int)), .int .i64 0, .int .i64 0]
  | 35 => fun _ u => u = .agg #[.string ⟨#[]⟩, .bool false, .int .i64 (-7000 - (k : Int)), .int .i64 0, .int .i64 0]
  | 36 => fun w u => ∃ g, u = .slice (some ⟨g, 0, none⟩) 2 2 ∧ w.ownsRow N 75 5 u 2 (repC (enC k) 2)
  | 37 => fun w u => w.ownsRow base 75 5 u (n + 2) (repC (enC k) (n + 2))
  | 38 => fun _ u => u = vl
  | 39 => fun _ u => u = .agg #[.string ⟨#[]⟩, .bool false, .int .i64 (-7000 - (k : Int)), .int .i64 0, .int .i64 0]
  | 40 => fun _ u => u = .agg #[.string ⟨#[]⟩, .bool false, .int .i64 (-7000 - (k : Int)), .int .i64 0, .int .i64 0]
  | 41 => fun _ u => u = .agg #[.string ⟨#[]⟩, .bool false, .int .i64 (-7000 - (k : Int)), .int .i64 0, .int .i64 0]
  | 42 => fun _ u => u = .agg #[.string ⟨#[]⟩, .bool false, .int .i64 (-7000 - (k : Int)), .int .i64 0, .int .i64 0]
  | 43 => fun _ u => u = .agg #[.string ⟨#[]⟩, .bool false, .int .i64 (-7000 - (k : Int)), .int .i64 0, .int .i64 0]
  | 44 => fun _ u => u = .agg #[.string ⟨#[]⟩, .bool false, .int .i64 (-7000 - (k : Int)), .int .i64 0, .int .i64 0]
  | 45 => fun w u => ∃ g, u = .slice (some ⟨g, 0, none⟩) 6 6 ∧ w.ownsRow N 75 5 u 6 (repC (enC k) 6)
  | 46 => fun w u => w.ownsRow base 75 5 u (n + 6) (repC (enC k) (n + 6))
  | 47 => fun w u => ∃ q, u = .slice (some ⟨q, 0, none⟩) 4 4 ∧ N ≤ q ∧ Quaden base k n vl q w
  | 48 => fun w u => ∃ g q, u = .slice (some ⟨g, 0, none⟩) 1 1 ∧ N ≤ g ∧ w.heap[g]? = some (.cells #[.slice (some ⟨q, 0, none⟩) 4 4] 81 (0, 0)) ∧ N ≤ q ∧ Quaden base k n vl q w
  | 49 => fun w u => ∃ q, N ≤ q ∧ Quaden base k n vl q w ∧ w.ownsRow base0 81 1 u (k + 1) (cs ++ [.slice (some ⟨q, 0, none⟩) 4 4])
  | 50 => fun _ u => u = .pointer (some ⟨bk, 0, none⟩)
  | 51 => fun _ u => u = .pointer (some ⟨bk, 0, none⟩)
  | _ => fun _ _ => True

/-- What the world holds while they come up. -/
structure Wden (base base0 bk N k n : Nat) (vl cv e0 e1 : Value) (cs : List Value) (w0 : World) (listed : Array Bool) (w : World) : Prop where
  row : w.ownsRow base 75 5 vl n (repC (enC k) n)
  box : w.heap[N]? = some (.cells (enC k).toArray 75 (0, 0))
  chs : listed.getD 26 false = false → w.ownsRow base0 81 1 cv k cs
  bok : listed.getD 29 false = false → w.heap[bk]? = some (.cells #[cv, e0, e1] 30 (0, 0))
  fin : listed.getD 29 false = true → ∃ cv' q, w.heap[bk]? = some (.cells #[cv', e0, e1] 30 (0, 0)) ∧ N ≤ q ∧ Quaden base k n vl q w ∧ w.ownsRow base0 81 1 cv' (k + 1) (cs ++ [.slice (some ⟨q, 0, none⟩) 4 4])
  old : ∀ b, b < N → b ≠ bk → vl.ownBlock ≠ some b → cv.ownBlock ≠ some b → w.heap[b]? = w0.heap[b]?
  os : w.os = w0.os
  tape : w.tape = w0.tape
  output : w.output = w0.output


set_option maxHeartbeats 8000000 in
/-- What was good stays good. -/
theorem Gen.sf {base base0 bk N k n : Nat} {vl cv : Value} {cs : List Value} {w w' : World} (hs : Sfen N k w w') (h49 : ∀ u p xs, w.ownsRow base0 81 1 u p xs → w'.ownsRow base0 81 1 u p xs) : ∀ d u, Gen base base0 bk N k n vl cv cs d w u → Gen base base0 bk N k n vl cv cs d w' u := by
  intro d u h
  unfold Gen at h ⊢
  split
  all_goals first
    | exact h
    | trivial
    | exact hs.reps _ _ _ h
    | (obtain ⟨g, rfl, h1⟩ := h; exact ⟨g, rfl, hs.reps _ _ _ h1⟩)
    | (obtain ⟨q, rfl, h1, h2⟩ := h; exact ⟨q, rfl, h1, h2.sf hs h1⟩)
    | (obtain ⟨g, q, rfl, h1, h2, h3, h4⟩ := h; exact ⟨g, q, rfl, h1, (hs.new g h1 (Array.getElem?_eq_some_iff.1 h2).1).trans h2, h3, h4.sf hs h3⟩)
    | (obtain ⟨q, h1, h2, h3⟩ := h; exact ⟨q, h1, h2.sf hs h1, h49 _ _ _ h3⟩)
set_option maxHeartbeats 8000000 in
theorem Gen.sf49 {base base0 bk N k n : Nat} {vl cv : Value} {cs : List Value} {w w' : World} (hs : Sfen N k w w') : ∀ d u, some 49 ≠ some d → Gen base base0 bk N k n vl cv cs d w u → Gen base base0 bk N k n vl cv cs d w' u := by
  intro d u hd h
  unfold Gen at h ⊢
  split
  all_goals first
    | exact h
    | trivial
    | exact hs.reps _ _ _ h
    | (obtain ⟨g, rfl, h1⟩ := h; exact ⟨g, rfl, hs.reps _ _ _ h1⟩)
    | (obtain ⟨q, rfl, h1, h2⟩ := h; exact ⟨q, rfl, h1, h2.sf hs h1⟩)
    | (obtain ⟨g, q, rfl, h1, h2, h3, h4⟩ := h; exact ⟨g, q, rfl, h1, (hs.new g h1 (Array.getElem?_eq_some_iff.1 h2).1).trans h2, h3, h4.sf hs h3⟩)
    | exact absurd rfl hd

/-- The region's operations. -/
def shapeen : Array (Op × Option Tmp) := #[
  (.move (.tmp 0), some 23),
  (.move (.tmp 0), some 24),
  (.nilCheck (.tmp 24), some 25),
  (.fieldAddr 30 (.tmp 25) 0, some 26),
  (.load 26 (.tmp 26), some 27),
  (.move (.tmp 1), some 28),
  (.move (.tmp 1), some 29),
  (.load 75 (.tmp 4), some 30),
  (.buildSlice 22 1 #[(0, .tmp 30)], some 31),
  (.call { callee := .builtin .append, args := #[.tmp 29, .tmp 31], argTypes := #[22, 22] }, some 32),
  (.move (.tmp 1), some 33),
  (.load 75 (.tmp 4), some 34),
  (.load 75 (.tmp 4), some 35),
  (.buildSlice 22 2 #[(0, .tmp 34), (1, .tmp 35)], some 36),
  (.call { callee := .builtin .append, args := #[.tmp 33, .tmp 36], argTypes := #[22, 22] }, some 37),
  (.move (.tmp 1), some 38),
  (.load 75 (.tmp 4), some 39),
  (.load 75 (.tmp 4), some 40),
  (.load 75 (.tmp 4), some 41),
  (.load 75 (.tmp 4), some 42),
  (.load 75 (.tmp 4), some 43),
  (.load 75 (.tmp 4), some 44),
  (.buildSlice 22 6 #[(0, .tmp 39), (1, .tmp 40), (2, .tmp 41), (3, .tmp 42), (4, .tmp 43), (5, .tmp 44)], some 45),
  (.call { callee := .builtin .append, args := #[.tmp 38, .tmp 45], argTypes := #[22, 22] }, some 46),
  (.buildSlice 81 4 #[(0, .tmp 28), (1, .tmp 32), (2, .tmp 37), (3, .tmp 46)], some 47),
  (.buildSlice 26 1 #[(0, .tmp 47)], some 48),
  (.call { callee := .builtin .append, args := #[.tmp 27, .tmp 48], argTypes := #[26, 26] }, some 49),
  (.nilCheck (.tmp 23), some 50),
  (.fieldAddr 30 (.tmp 50) 0, some 51),
  (.store 26 (.tmp 51) (.tmp 49), none)]
def depsen : List (Nat × Nat) := [(2, 1), (3, 2), (4, 3), (8, 7), (9, 6), (9, 8), (13, 11), (13, 12), (14, 10), (14, 13), (22, 16), (22, 17), (22, 18), (22, 19), (22, 20), (22, 21), (23, 15), (23, 22), (24, 5), (24, 9), (24, 14), (24, 23), (25, 24), (26, 4), (26, 25), (27, 0), (28, 27), (29, 28), (29, 26)]
def awaits (ops : Array Oper) (i k : Nat) : Bool := ((ops[i]?).map (fun o => o.after.any fun e => decide (e.on = k) && Region.binds .any e)).getD false

/-- The text's own facts: the region is this one. -/
structure Isen (ops : Array Oper) : Prop where
  shape : ops.map (fun o => (o.op, o.dst)) = shapeen
  deps : (depsen.all fun p => awaits ops p.1 p.2) = true
  last : ((List.range 29).all fun i => awaits ops 29 i || (awaits ops 29 28 && awaits ops 28 i)) = true
theorem Isen.at {ops : Array Oper} (h : Isen ops) {i : Nat} {o : Oper} (ho : ops[i]? = some o) : shapeen[i]? = some (o.op, o.dst) := by
  rw [← h.shape]; simp [ho]
theorem Isen.dst {ops : Array Oper} (h : Isen ops) {i : Nat} {x : Op} {d : Option Tmp} (hs : shapeen[i]? = some (x, d)) : (ops[i]?).bind (·.dst) = d := by
  rw [← h.shape] at hs
  cases ho : ops[i]? with
  | none => simp [ho] at hs
  | some o => simp [ho] at hs; simp [hs.2]
theorem Isen.out {ops : Array Oper} (h : Isen ops) (t : Nat) (hs : (shapeen.all fun p => p.2 != some t) = true) : (ops.all fun o => o.dst != some t) = true := by
  rw [← h.shape] at hs
  rw [Array.all_eq_true'] at hs ⊢
  intro o ho
  exact hs (o.op, o.dst) (by simp; exact ⟨o, ho, rfl, rfl⟩)

section
variable {base base0 bk N k n : Nat} {vl cv e0 e1 : Value} {cs : List Value} {w0 w : World} {listed : Array Bool} {ops : Array Oper} {a0 a : Act} {i : Nat} {o : Oper}
theorem Wden.same (h : Wden base base0 bk N k n vl cv e0 e1 cs w0 listed w) (h26 : i ≠ 26) (h29 : i ≠ 29) : Wden base base0 bk N k n vl cv e0 e1 cs w0 (listed.setIfInBounds i true) w :=
  ⟨h.row, h.box, by rw [listed_other _ _ _ h26]; exact h.chs, by rw [listed_other _ _ _ h29]; exact h.bok, by rw [listed_other _ _ _ h29]; exact h.fin, h.old, h.os, h.tape, h.output⟩
theorem Wden.lt (h : Wden base base0 bk N k n vl cv e0 e1 cs w0 listed w) : N < w.heap.size := (Array.getElem?_eq_some_iff.1 h.box).1
theorem Wden.alloc (h : Wden base base0 bk N k n vl cv e0 e1 cs w0 listed w) (hd : listed.getD 29 false = false) (ob : Obj) : Wden base base0 bk N k n vl cv e0 e1 cs w0 listed (w.alloc ob) where
  row := h.row.alloc _
  box := ((World.grownBy_alloc w ob none).block _ h.lt (by simp)).trans h.box
  chs := fun h1 => (h.chs h1).alloc _
  bok := fun h1 => ((World.grownBy_alloc w ob none).block _ (Array.getElem?_eq_some_iff.1 (h.bok h1)).1 (by simp)).trans (h.bok h1)
  fin := fun h1 => by rw [hd] at h1; cases h1
  old := fun b hb h1 h2 h3 => ((World.grownBy_alloc w ob none).block _ (by have := h.lt; omega) (by simp)).trans (h.old b hb h1 h2 h3)
  os := h.os
  tape := h.tape
  output := h.output

/-- The premises of a step. -/
structure Sten (ops : Array Oper) (base base0 bk N k n : Nat) (vl cv e0 e1 : Value) (cs : List Value) (w0 : World) (a0 : Act) (listed : Array Bool) (a : Act) (w : World) (i : Nat) (o : Oper) : Prop where
  is : Isen ops
  inv : RInv ops a0 (Gen base base0 bk N k n vl cv cs) (Wden base base0 bk N k n vl cv e0 e1 cs w0) listed a w
  rdy : i ∈ Region.ready .any ops listed
  op : ops[i]? = some o
  t0 : a0.eval (.tmp 0) = .pointer (some ⟨bk, 0, none⟩)
  t1 : a0.eval (.tmp 1) = vl
  t4 : a0.eval (.tmp 4) = .pointer (some ⟨N, 0, none⟩)
  bn : bk < N
  nl : n ≤ 3000000
  kl : k ≤ 3000000
  ba : base ≤ N
  b0 : base0 ≤ N
  vN : ∀ b, vl.ownBlock = some b → b < N
  cN : ∀ b, cv.ownBlock = some b → b < N
abbrev Oken (base base0 bk N k n : Nat) (vl cv e0 e1 : Value) (cs : List Value) (w0 : World) (listed : Array Bool) (a : Act) (w : World) (i : Nat) (o : Oper) : Prop :=
  OneOp Tryz.prog (Gen base base0 bk N k n vl cv cs) (Wden base base0 bk N k n vl cv e0 e1 cs w0 (listed.setIfInBounds i true)) o a w

theorem Sten.val (h : Sten ops base base0 bk N k n vl cv e0 e1 cs w0 a0 listed a w i o) (j d : Nat) {x : Op} (hj : awaits ops i j = true) (hs : shapeen[j]? = some (x, some d)) : Gen base base0 bk N k n vl cv cs d w (a.eval (.tmp d)) :=
  h.inv.val j d (dep_of j h.rdy hj) (h.is.dst hs)
theorem Sten.dep (h : Sten ops base base0 bk N k n vl cv e0 e1 cs w0 a0 listed a w i o) (j : Nat) (hj : (i, j) ∈ depsen) : awaits ops i j = true := by
  have := h.is.deps
  rw [List.all_eq_true] at this
  exact this (i, j) hj
theorem Sten.open29 (h : Sten ops base base0 bk N k n vl cv e0 e1 cs w0 a0 listed a w i o) (hi : i < 29) : listed.getD 29 false = false := by
  have hl := h.is.last
  rw [List.all_eq_true] at hl
  have h1 := hl i (List.mem_range.2 hi)
  rw [Bool.or_eq_true, Bool.and_eq_true] at h1
  rcases h1 with h1 | ⟨h1, h2⟩
  · exact undone 29 h.inv h.rdy h1
  · cases h9 : listed.getD 29 false with
    | false => rfl
    | true =>
      have h8 := undone 28 h.inv h.rdy h2
      rw [h.inv.went 29 28 h9 h1] at h8
      cases h8
theorem Sten.self (h : Sten ops base base0 bk N k n vl cv e0 e1 cs w0 a0 listed a w i o) : listed.getD i false = false := by
  obtain ⟨o2, ho2, h2, _⟩ := ready_mem h.rdy
  have hlt : i < listed.size := by rw [h.inv.size]; exact (Array.getElem?_eq_some_iff.1 ho2).1
  simpa [Array.getD, hlt] using h2
theorem Sten.t0' (h : Sten ops base base0 bk N k n vl cv e0 e1 cs w0 a0 listed a w i o) : a.eval (.tmp 0) = .pointer (some ⟨bk, 0, none⟩) := (h.inv.old 0 (h.is.out 0 (by kernel_rfl))).trans h.t0
theorem Sten.t1' (h : Sten ops base base0 bk N k n vl cv e0 e1 cs w0 a0 listed a w i o) : a.eval (.tmp 1) = vl := (h.inv.old 1 (h.is.out 1 (by kernel_rfl))).trans h.t1
theorem Sten.t4' (h : Sten ops base base0 bk N k n vl cv e0 e1 cs w0 a0 listed a w i o) : a.eval (.tmp 4) = .pointer (some ⟨N, 0, none⟩) := (h.inv.old 4 (h.is.out 4 (by kernel_rfl))).trans h.t4

/-- An operation that only yields a value. -/
theorem Sten.pure (h : Sten ops base base0 bk N k n vl cv e0 e1 cs w0 a0 listed a w i o) (h26 : i ≠ 26) (h29 : i ≠ 29) {v : Value} (hrun : (execOp a.eval o).run Tryz.prog w = .ok (.value v) w) {d : Nat} (hd : o.dst = some d) (hG : Gen base base0 bk N k n vl cv cs d w v) : Oken base base0 bk N k n vl cv e0 e1 cs w0 listed a w i o :=
  ⟨v, w, .inl hrun, fun d' hd' => by rw [hd] at hd'; cases hd'; exact hG, fun _ _ _ hg => hg, h.inv.world.same h26 h29⟩
/-- An operation that lays a new block. -/
theorem Sten.new (h : Sten ops base base0 bk N k n vl cv e0 e1 cs w0 a0 listed a w i o) (h26 : i < 26) {v : Value} {ob : Obj} (hrun : (execOp a.eval o).run Tryz.prog w = .ok (.value v) (w.alloc ob)) {d : Nat} (hd : o.dst = some d) (hG : Gen base base0 bk N k n vl cv cs d (w.alloc ob) v) : Oken base base0 bk N k n vl cv e0 e1 cs w0 listed a w i o :=
  ⟨v, w.alloc ob, .inl hrun, fun d' hd' => by rw [hd] at hd'; cases hd'; exact hG, fun d' u _ hg => Gen.sf (Sfen.alloc N k w ob) (fun _ _ _ hr => hr.alloc ob) d' u hg, (h.inv.world.alloc (h.open29 (by omega)) ob).same (by omega) (by omega)⟩

theorem en_op0 (h : Sten ops base base0 bk N k n vl cv e0 e1 cs w0 a0 listed a w 0 o) : Oken base base0 bk N k n vl cv e0 e1 cs w0 listed a w 0 o := by
  have hs := h.is.at h.op
  obtain ⟨hop, hdst⟩ : o.op = .move (.tmp 0) ∧ o.dst = some 23 := by
    have e := (Option.some.inj hs).symm
    exact ⟨(Prod.mk.inj e).1, (Prod.mk.inj e).2⟩
  exact h.pure (by decide) (by decide) (by simp only [execOp, hop]; rfl) hdst h.t0'

theorem en_op1 (h : Sten ops base base0 bk N k n vl cv e0 e1 cs w0 a0 listed a w 1 o) : Oken base base0 bk N k n vl cv e0 e1 cs w0 listed a w 1 o := by
  have hs := h.is.at h.op
  obtain ⟨hop, hdst⟩ : o.op = .move (.tmp 0) ∧ o.dst = some 24 := by
    have e := (Option.some.inj hs).symm
    exact ⟨(Prod.mk.inj e).1, (Prod.mk.inj e).2⟩
  exact h.pure (by decide) (by decide) (by simp only [execOp, hop]; rfl) hdst h.t0'

theorem en_op2 (h : Sten ops base base0 bk N k n vl cv e0 e1 cs w0 a0 listed a w 2 o) : Oken base base0 bk N k n vl cv e0 e1 cs w0 listed a w 2 o := by
  have hs := h.is.at h.op
  obtain ⟨hop, hdst⟩ : o.op = .nilCheck (.tmp 24) ∧ o.dst = some 25 := by
    have e := (Option.some.inj hs).symm
    exact ⟨(Prod.mk.inj e).1, (Prod.mk.inj e).2⟩
  have g := h.val 1 24 (h.dep 1 (by decide)) rfl
  have e : a.eval (.tmp 24) = .pointer (some ⟨bk, 0, none⟩) := g
  exact h.pure (by decide) (by decide) (by simp only [execOp, hop, e]; rfl) hdst rfl

theorem en_op3 (h : Sten ops base base0 bk N k n vl cv e0 e1 cs w0 a0 listed a w 3 o) : Oken base base0 bk N k n vl cv e0 e1 cs w0 listed a w 3 o := by
  have hs := h.is.at h.op
  obtain ⟨hop, hdst⟩ : o.op = .fieldAddr 30 (.tmp 25) 0 ∧ o.dst = some 26 := by
    have e := (Option.some.inj hs).symm
    exact ⟨(Prod.mk.inj e).1, (Prod.mk.inj e).2⟩
  have g := h.val 2 25 (h.dep 2 (by decide)) rfl
  have e : a.eval (.tmp 25) = .pointer (some ⟨bk, 0, none⟩) := g
  refine h.pure (v := .pointer (some ⟨bk, 0, none⟩)) (by decide) (by decide) ?_ hdst rfl
  simp only [execOp, hop, e, Sem.run_bind, en_fa, Result.andThen_ok, Sem.run_pure]

theorem en_op4 (h : Sten ops base base0 bk N k n vl cv e0 e1 cs w0 a0 listed a w 4 o) : Oken base base0 bk N k n vl cv e0 e1 cs w0 listed a w 4 o := by
  have hs := h.is.at h.op
  obtain ⟨hop, hdst⟩ : o.op = .load 26 (.tmp 26) ∧ o.dst = some 27 := by
    have e := (Option.some.inj hs).symm
    exact ⟨(Prod.mk.inj e).1, (Prod.mk.inj e).2⟩
  have g := h.val 3 26 (h.dep 3 (by decide)) rfl
  have e : a.eval (.tmp 26) = .pointer (some ⟨bk, 0, none⟩) := g
  have hb := h.inv.world.bok (h.open29 (by decide))
  have hc : w.cell? ⟨bk, 0, none⟩ = some cv := by rw [cell_of_row w bk 0 _ _ _ hb]; rfl
  refine h.pure (v := cv) (by decide) (by decide) ?_ hdst rfl
  simp only [execOp, hop, e, Sem.run_bind, en_ldc _ _ _ hc, Result.andThen_ok, Sem.run_pure]

theorem en_op5 (h : Sten ops base base0 bk N k n vl cv e0 e1 cs w0 a0 listed a w 5 o) : Oken base base0 bk N k n vl cv e0 e1 cs w0 listed a w 5 o := by
  have hs := h.is.at h.op
  obtain ⟨hop, hdst⟩ : o.op = .move (.tmp 1) ∧ o.dst = some 28 := by
    have e := (Option.some.inj hs).symm
    exact ⟨(Prod.mk.inj e).1, (Prod.mk.inj e).2⟩
  exact h.pure (by decide) (by decide) (by simp only [execOp, hop]; rfl) hdst h.t1'

theorem en_op6 (h : Sten ops base base0 bk N k n vl cv e0 e1 cs w0 a0 listed a w 6 o) : Oken base base0 bk N k n vl cv e0 e1 cs w0 listed a w 6 o := by
  have hs := h.is.at h.op
  obtain ⟨hop, hdst⟩ : o.op = .move (.tmp 1) ∧ o.dst = some 29 := by
    have e := (Option.some.inj hs).symm
    exact ⟨(Prod.mk.inj e).1, (Prod.mk.inj e).2⟩
  exact h.pure (by decide) (by decide) (by simp only [execOp, hop]; rfl) hdst h.t1'

theorem en_op7 (h : Sten ops base base0 bk N k n vl cv e0 e1 cs w0 a0 listed a w 7 o) : Oken base base0 bk N k n vl cv e0 e1 cs w0 listed a w 7 o := by
  have hs := h.is.at h.op
  obtain ⟨hop, hdst⟩ : o.op = .load 75 (.tmp 4) ∧ o.dst = some 30 := by
    have e := (Option.some.inj hs).symm
    exact ⟨(Prod.mk.inj e).1, (Prod.mk.inj e).2⟩
  have e := h.t4'
  refine h.pure (v := .agg #[.string ⟨#[]⟩, .bool false, .int .i64 (-7000 - (k : Int)), .int .i64 0, .int .i64 0]) (by decide) (by decide) ?_ hdst rfl
  simp only [execOp, hop, e, Sem.run_bind, en_ld _ _ _ h.inv.world.box, Result.andThen_ok, Sem.run_pure]

theorem en_op8 (h : Sten ops base base0 bk N k n vl cv e0 e1 cs w0 a0 listed a w 8 o) : Oken base base0 bk N k n vl cv e0 e1 cs w0 listed a w 8 o := by
  have hs := h.is.at h.op
  obtain ⟨hop, hdst⟩ : o.op = .buildSlice 22 1 #[(0, .tmp 30)] ∧ o.dst = some 31 := by
    have e := (Option.some.inj hs).symm
    exact ⟨(Prod.mk.inj e).1, (Prod.mk.inj e).2⟩
  have g30 := h.val 7 30 (h.dep 7 (by decide)) rfl
  have e30 : a.eval (.tmp 30) = .agg #[.string ⟨#[]⟩, .bool false, .int .i64 (-7000 - (k : Int)), .int .i64 0, .int .i64 0] := g30
  have hN := h.inv.world.lt
  refine h.new (v := .slice (some ⟨w.heap.size, 0, none⟩) 1 1) (ob := .cells (repC (enC k) 1).toArray 75) (by decide) ?_ hdst ⟨w.heap.size, rfl, ?_⟩
  · simp only [execOp, hop, e30, List.map_toArray, List.map_cons, List.map_nil, Sem.run_bind, en_bs1, Result.andThen_ok, Sem.run_pure]
  · have := World.ownsRow_lit (base := N) (e := 75) (size := 5) w (repC (enC k) 1).toArray 1 (by omega) (by unfold maxLen; omega) (by simp [repC_len, enC_len])
    simpa using this

theorem en_op9 (h : Sten ops base base0 bk N k n vl cv e0 e1 cs w0 a0 listed a w 9 o) : Oken base base0 bk N k n vl cv e0 e1 cs w0 listed a w 9 o := by
  have hs := h.is.at h.op
  obtain ⟨hop, hdst⟩ : o.op = .call { callee := .builtin .append, args := #[.tmp 29, .tmp 31], argTypes := #[22, 22] } ∧ o.dst = some 32 := by
    have e := (Option.some.inj hs).symm
    exact ⟨(Prod.mk.inj e).1, (Prod.mk.inj e).2⟩
  have gx := h.val 6 29 (h.dep 6 (by decide)) rfl
  have gy := h.val 8 31 (h.dep 8 (by decide)) rfl
  have ex : a.eval (.tmp 29) = vl := gx
  obtain ⟨g, ey, hy⟩ : ∃ g, a.eval (.tmp 31) = .slice (some ⟨g, 0, none⟩) 1 1 ∧ w.ownsRow N 75 5 (a.eval (.tmp 31)) 1 (repC (enC k) 1) := gy
  rw [ey] at hy
  have hW := h.inv.world
  have hN := hW.lt
  have hba := h.ba
  have hnl := h.nl
  obtain ⟨i0, hi, hz0, hz1, hz2⟩ := info_parts info75b
  obtain ⟨v', w', hr, h2, h3, h4⟩ := run_append_rep (P := Tryz.prog) w base 22 o.type 75 i0 _ 5 48 Tryz.underlying22 hi hz0 hz1 hz2 rfl (by decide) (enC k) rfl vl n hW.row ⟨g, 0, none⟩ 1 1 (hy.cells (g := g) rfl) (enC_one k) (by unfold maxLen; omega) (by omega) (by omega)
  have hd9 := h.open29 (by decide)
  have hbk := hW.bok hd9
  have hsf : Sfen N k w w' := ⟨fun b hb hb2 => h3.block b hb2 (fun e => by have := h.vN b e.symm; omega), fun b u p hx => h4 b u p hx⟩
  have h49 : ∀ u p xs, w.ownsRow base0 81 1 u p xs → w'.ownsRow base0 81 1 u p xs := fun u p xs hx => hx.kept h3 (row_apart hx hW.row (by decide))
  refine ⟨v', w', .inl ?_, fun d' hd' => by rw [hdst] at hd'; cases hd'; exact h2, fun d' u _ hg => Gen.sf hsf h49 d' u hg, Wden.same ⟨h4 _ _ _ hW.row, (hsf.new N (Nat.le_refl _) hN).trans hW.box, fun h1 => h49 _ _ _ (hW.chs h1), fun h1 => ?_, fun h1 => (by rw [hd9] at h1; cases h1), fun b hb h1 h2' h3' => ?_, h3.os.trans hW.os, h3.tape.trans hW.tape, h3.output.trans hW.output⟩ (by decide) (by decide)⟩
  · unfold execOp
    simp only [hop, resolve, invoke, builtin, Sem.run_bind, Sem.run_pure, Result.andThen_ok, List.map_toArray, List.map_cons, List.map_nil, ex, ey, hr]
  · exact (h3.block bk (Array.getElem?_eq_some_iff.1 hbk).1 (fun e => row_far hW.row hbk (by decide) e.symm)).trans hbk
  · exact (h3.block b (by omega) (fun e => h2' e.symm)).trans (hW.old b hb h1 h2' h3')

theorem en_op10 (h : Sten ops base base0 bk N k n vl cv e0 e1 cs w0 a0 listed a w 10 o) : Oken base base0 bk N k n vl cv e0 e1 cs w0 listed a w 10 o := by
  have hs := h.is.at h.op
  obtain ⟨hop, hdst⟩ : o.op = .move (.tmp 1) ∧ o.dst = some 33 := by
    have e := (Option.some.inj hs).symm
    exact ⟨(Prod.mk.inj e).1, (Prod.mk.inj e).2⟩
  exact h.pure (by decide) (by decide) (by simp only [execOp, hop]; rfl) hdst h.t1'

theorem en_op11 (h : Sten ops base base0 bk N k n vl cv e0 e1 cs w0 a0 listed a w 11 o) : Oken base base0 bk N k n vl cv e0 e1 cs w0 listed a w 11 o := by
  have hs := h.is.at h.op
  obtain ⟨hop, hdst⟩ : o.op = .load 75 (.tmp 4) ∧ o.dst = some 34 := by
    have e := (Option.some.inj hs).symm
    exact ⟨(Prod.mk.inj e).1, (Prod.mk.inj e).2⟩
  have e := h.t4'
  refine h.pure (v := .agg #[.string ⟨#[]⟩, .bool false, .int .i64 (-7000 - (k : Int)), .int .i64 0, .int .i64 0]) (by decide) (by decide) ?_ hdst rfl
  simp only [execOp, hop, e, Sem.run_bind, en_ld _ _ _ h.inv.world.box, Result.andThen_ok, Sem.run_pure]

theorem en_op12 (h : Sten ops base base0 bk N k n vl cv e0 e1 cs w0 a0 listed a w 12 o) : Oken base base0 bk N k n vl cv e0 e1 cs w0 listed a w 12 o := by
  have hs := h.is.at h.op
  obtain ⟨hop, hdst⟩ : o.op = .load 75 (.tmp 4) ∧ o.dst = some 35 := by
    have e := (Option.some.inj hs).symm
    exact ⟨(Prod.mk.inj e).1, (Prod.mk.inj e).2⟩
  have e := h.t4'
  refine h.pure (v := .agg #[.string ⟨#[]⟩, .bool false, .int .i64 (-7000 - (k : Int)), .int .i64 0, .int .i64 0]) (by decide) (by decide) ?_ hdst rfl
  simp only [execOp, hop, e, Sem.run_bind, en_ld _ _ _ h.inv.world.box, Result.andThen_ok, Sem.run_pure]

theorem en_op13 (h : Sten ops base base0 bk N k n vl cv e0 e1 cs w0 a0 listed a w 13 o) : Oken base base0 bk N k n vl cv e0 e1 cs w0 listed a w 13 o := by
  have hs := h.is.at h.op
  obtain ⟨hop, hdst⟩ : o.op = .buildSlice 22 2 #[(0, .tmp 34), (1, .tmp 35)] ∧ o.dst = some 36 := by
    have e := (Option.some.inj hs).symm
    exact ⟨(Prod.mk.inj e).1, (Prod.mk.inj e).2⟩
  have g34 := h.val 11 34 (h.dep 11 (by decide)) rfl
  have e34 : a.eval (.tmp 34) = .agg #[.string ⟨#[]⟩, .bool false, .int .i64 (-7000 - (k : Int)), .int .i64 0, .int .i64 0] := g34
  have g35 := h.val 12 35 (h.dep 12 (by decide)) rfl
  have e35 : a.eval (.tmp 35) = .agg #[.string ⟨#[]⟩, .bool false, .int .i64 (-7000 - (k : Int)), .int .i64 0, .int .i64 0] := g35
  have hN := h.inv.world.lt
  refine h.new (v := .slice (some ⟨w.heap.size, 0, none⟩) 2 2) (ob := .cells (repC (enC k) 2).toArray 75) (by decide) ?_ hdst ⟨w.heap.size, rfl, ?_⟩
  · simp only [execOp, hop, e34, e35, List.map_toArray, List.map_cons, List.map_nil, Sem.run_bind, en_bs2, Result.andThen_ok, Sem.run_pure]
  · have := World.ownsRow_lit (base := N) (e := 75) (size := 5) w (repC (enC k) 2).toArray 2 (by omega) (by unfold maxLen; omega) (by simp [repC_len, enC_len])
    simpa using this

theorem en_op14 (h : Sten ops base base0 bk N k n vl cv e0 e1 cs w0 a0 listed a w 14 o) : Oken base base0 bk N k n vl cv e0 e1 cs w0 listed a w 14 o := by
  have hs := h.is.at h.op
  obtain ⟨hop, hdst⟩ : o.op = .call { callee := .builtin .append, args := #[.tmp 33, .tmp 36], argTypes := #[22, 22] } ∧ o.dst = some 37 := by
    have e := (Option.some.inj hs).symm
    exact ⟨(Prod.mk.inj e).1, (Prod.mk.inj e).2⟩
  have gx := h.val 10 33 (h.dep 10 (by decide)) rfl
  have gy := h.val 13 36 (h.dep 13 (by decide)) rfl
  have ex : a.eval (.tmp 33) = vl := gx
  obtain ⟨g, ey, hy⟩ : ∃ g, a.eval (.tmp 36) = .slice (some ⟨g, 0, none⟩) 2 2 ∧ w.ownsRow N 75 5 (a.eval (.tmp 36)) 2 (repC (enC k) 2) := gy
  rw [ey] at hy
  have hW := h.inv.world
  have hN := hW.lt
  have hba := h.ba
  have hnl := h.nl
  obtain ⟨i0, hi, hz0, hz1, hz2⟩ := info_parts info75b
  obtain ⟨v', w', hr, h2, h3, h4⟩ := run_append_rep (P := Tryz.prog) w base 22 o.type 75 i0 _ 5 48 Tryz.underlying22 hi hz0 hz1 hz2 rfl (by decide) (enC k) rfl vl n hW.row ⟨g, 0, none⟩ 2 2 (hy.cells (g := g) rfl) (enC_one k) (by unfold maxLen; omega) (by omega) (by omega)
  have hd9 := h.open29 (by decide)
  have hbk := hW.bok hd9
  have hsf : Sfen N k w w' := ⟨fun b hb hb2 => h3.block b hb2 (fun e => by have := h.vN b e.symm; omega), fun b u p hx => h4 b u p hx⟩
  have h49 : ∀ u p xs, w.ownsRow base0 81 1 u p xs → w'.ownsRow base0 81 1 u p xs := fun u p xs hx => hx.kept h3 (row_apart hx hW.row (by decide))
  refine ⟨v', w', .inl ?_, fun d' hd' => by rw [hdst] at hd'; cases hd'; exact h2, fun d' u _ hg => Gen.sf hsf h49 d' u hg, Wden.same ⟨h4 _ _ _ hW.row, (hsf.new N (Nat.le_refl _) hN).trans hW.box, fun h1 => h49 _ _ _ (hW.chs h1), fun h1 => ?_, fun h1 => (by rw [hd9] at h1; cases h1), fun b hb h1 h2' h3' => ?_, h3.os.trans hW.os, h3.tape.trans hW.tape, h3.output.trans hW.output⟩ (by decide) (by decide)⟩
  · unfold execOp
    simp only [hop, resolve, invoke, builtin, Sem.run_bind, Sem.run_pure, Result.andThen_ok, List.map_toArray, List.map_cons, List.map_nil, ex, ey, hr]
  · exact (h3.block bk (Array.getElem?_eq_some_iff.1 hbk).1 (fun e => row_far hW.row hbk (by decide) e.symm)).trans hbk
  · exact (h3.block b (by omega) (fun e => h2' e.symm)).trans (hW.old b hb h1 h2' h3')

theorem en_op15 (h : Sten ops base base0 bk N k n vl cv e0 e1 cs w0 a0 listed a w 15 o) : Oken base base0 bk N k n vl cv e0 e1 cs w0 listed a w 15 o := by
  have hs := h.is.at h.op
  obtain ⟨hop, hdst⟩ : o.op = .move (.tmp 1) ∧ o.dst = some 38 := by
    have e := (Option.some.inj hs).symm
    exact ⟨(Prod.mk.inj e).1, (Prod.mk.inj e).2⟩
  exact h.pure (by decide) (by decide) (by simp only [execOp, hop]; rfl) hdst h.t1'

theorem en_op16 (h : Sten ops base base0 bk N k n vl cv e0 e1 cs w0 a0 listed a w 16 o) : Oken base base0 bk N k n vl cv e0 e1 cs w0 listed a w 16 o := by
  have hs := h.is.at h.op
  obtain ⟨hop, hdst⟩ : o.op = .load 75 (.tmp 4) ∧ o.dst = some 39 := by
    have e := (Option.some.inj hs).symm
    exact ⟨(Prod.mk.inj e).1, (Prod.mk.inj e).2⟩
  have e := h.t4'
  refine h.pure (v := .agg #[.string ⟨#[]⟩, .bool false, .int .i64 (-7000 - (k : Int)), .int .i64 0, .int .i64 0]) (by decide) (by decide) ?_ hdst rfl
  simp only [execOp, hop, e, Sem.run_bind, en_ld _ _ _ h.inv.world.box, Result.andThen_ok, Sem.run_pure]

theorem en_op17 (h : Sten ops base base0 bk N k n vl cv e0 e1 cs w0 a0 listed a w 17 o) : Oken base base0 bk N k n vl cv e0 e1 cs w0 listed a w 17 o := by
  have hs := h.is.at h.op
  obtain ⟨hop, hdst⟩ : o.op = .load 75 (.tmp 4) ∧ o.dst = some 40 := by
    have e := (Option.some.inj hs).symm
    exact ⟨(Prod.mk.inj e).1, (Prod.mk.inj e).2⟩
  have e := h.t4'
  refine h.pure (v := .agg #[.string ⟨#[]⟩, .bool false, .int .i64 (-7000 - (k : Int)), .int .i64 0, .int .i64 0]) (by decide) (by decide) ?_ hdst rfl
  simp only [execOp, hop, e, Sem.run_bind, en_ld _ _ _ h.inv.world.box, Result.andThen_ok, Sem.run_pure]

theorem en_op18 (h : Sten ops base base0 bk N k n vl cv e0 e1 cs w0 a0 listed a w 18 o) : Oken base base0 bk N k n vl cv e0 e1 cs w0 listed a w 18 o := by
  have hs := h.is.at h.op
  obtain ⟨hop, hdst⟩ : o.op = .load 75 (.tmp 4) ∧ o.dst = some 41 := by
    have e := (Option.some.inj hs).symm
    exact ⟨(Prod.mk.inj e).1, (Prod.mk.inj e).2⟩
  have e := h.t4'
  refine h.pure (v := .agg #[.string ⟨#[]⟩, .bool false, .int .i64 (-7000 - (k : Int)), .int .i64 0, .int .i64 0]) (by decide) (by decide) ?_ hdst rfl
  simp only [execOp, hop, e, Sem.run_bind, en_ld _ _ _ h.inv.world.box, Result.andThen_ok, Sem.run_pure]

theorem en_op19 (h : Sten ops base base0 bk N k n vl cv e0 e1 cs w0 a0 listed a w 19 o) : Oken base base0 bk N k n vl cv e0 e1 cs w0 listed a w 19 o := by
  have hs := h.is.at h.op
  obtain ⟨hop, hdst⟩ : o.op = .load 75 (.tmp 4) ∧ o.dst = some 42 := by
    have e := (Option.some.inj hs).symm
    exact ⟨(Prod.mk.inj e).1, (Prod.mk.inj e).2⟩
  have e := h.t4'
  refine h.pure (v := .agg #[.string ⟨#[]⟩, .bool false, .int .i64 (-7000 - (k : Int)), .int .i64 0, .int .i64 0]) (by decide) (by decide) ?_ hdst rfl
  simp only [execOp, hop, e, Sem.run_bind, en_ld _ _ _ h.inv.world.box, Result.andThen_ok, Sem.run_pure]

theorem en_op20 (h : Sten ops base base0 bk N k n vl cv e0 e1 cs w0 a0 listed a w 20 o) : Oken base base0 bk N k n vl cv e0 e1 cs w0 listed a w 20 o := by
  have hs := h.is.at h.op
  obtain ⟨hop, hdst⟩ : o.op = .load 75 (.tmp 4) ∧ o.dst = some 43 := by
    have e := (Option.some.inj hs).symm
    exact ⟨(Prod.mk.inj e).1, (Prod.mk.inj e).2⟩
  have e := h.t4'
  refine h.pure (v := .agg #[.string ⟨#[]⟩, .bool false, .int .i64 (-7000 - (k : Int)), .int .i64 0, .int .i64 0]) (by decide) (by decide) ?_ hdst rfl
  simp only [execOp, hop, e, Sem.run_bind, en_ld _ _ _ h.inv.world.box, Result.andThen_ok, Sem.run_pure]

theorem en_op21 (h : Sten ops base base0 bk N k n vl cv e0 e1 cs w0 a0 listed a w 21 o) : Oken base base0 bk N k n vl cv e0 e1 cs w0 listed a w 21 o := by
  have hs := h.is.at h.op
  obtain ⟨hop, hdst⟩ : o.op = .load 75 (.tmp 4) ∧ o.dst = some 44 := by
    have e := (Option.some.inj hs).symm
    exact ⟨(Prod.mk.inj e).1, (Prod.mk.inj e).2⟩
  have e := h.t4'
  refine h.pure (v := .agg #[.string ⟨#[]⟩, .bool false, .int .i64 (-7000 - (k : Int)), .int .i64 0, .int .i64 0]) (by decide) (by decide) ?_ hdst rfl
  simp only [execOp, hop, e, Sem.run_bind, en_ld _ _ _ h.inv.world.box, Result.andThen_ok, Sem.run_pure]

theorem en_op22 (h : Sten ops base base0 bk N k n vl cv e0 e1 cs w0 a0 listed a w 22 o) : Oken base base0 bk N k n vl cv e0 e1 cs w0 listed a w 22 o := by
  have hs := h.is.at h.op
  obtain ⟨hop, hdst⟩ : o.op = .buildSlice 22 6 #[(0, .tmp 39), (1, .tmp 40), (2, .tmp 41), (3, .tmp 42), (4, .tmp 43), (5, .tmp 44)] ∧ o.dst = some 45 := by
    have e := (Option.some.inj hs).symm
    exact ⟨(Prod.mk.inj e).1, (Prod.mk.inj e).2⟩
  have g39 := h.val 16 39 (h.dep 16 (by decide)) rfl
  have e39 : a.eval (.tmp 39) = .agg #[.string ⟨#[]⟩, .bool false, .int .i64 (-7000 - (k : Int)), .int .i64 0, .int .i64 0] := g39
  have g40 := h.val 17 40 (h.dep 17 (by decide)) rfl
  have e40 : a.eval (.tmp 40) = .agg #[.string ⟨#[]⟩, .bool false, .int .i64 (-7000 - (k : Int)), .int .i64 0, .int .i64 0] := g40
  have g41 := h.val 18 41 (h.dep 18 (by decide)) rfl
  have e41 : a.eval (.tmp 41) = .agg #[.string ⟨#[]⟩, .bool false, .int .i64 (-7000 - (k : Int)), .int .i64 0, .int .i64 0] := g41
  have g42 := h.val 19 42 (h.dep 19 (by decide)) rfl
  have e42 : a.eval (.tmp 42) = .agg #[.string ⟨#[]⟩, .bool false, .int .i64 (-7000 - (k : Int)), .int .i64 0, .int .i64 0] := g42
  have g43 := h.val 20 43 (h.dep 20 (by decide)) rfl
  have e43 : a.eval (.tmp 43) = .agg #[.string ⟨#[]⟩, .bool false, .int .i64 (-7000 - (k : Int)), .int .i64 0, .int .i64 0] := g43
  have g44 := h.val 21 44 (h.dep 21 (by decide)) rfl
  have e44 : a.eval (.tmp 44) = .agg #[.string ⟨#[]⟩, .bool false, .int .i64 (-7000 - (k : Int)), .int .i64 0, .int .i64 0] := g44
  have hN := h.inv.world.lt
  refine h.new (v := .slice (some ⟨w.heap.size, 0, none⟩) 6 6) (ob := .cells (repC (enC k) 6).toArray 75) (by decide) ?_ hdst ⟨w.heap.size, rfl, ?_⟩
  · simp only [execOp, hop, e39, e40, e41, e42, e43, e44, List.map_toArray, List.map_cons, List.map_nil, Sem.run_bind, en_bs6, Result.andThen_ok, Sem.run_pure]
  · have := World.ownsRow_lit (base := N) (e := 75) (size := 5) w (repC (enC k) 6).toArray 6 (by omega) (by unfold maxLen; omega) (by simp [repC_len, enC_len])
    simpa using this

theorem en_op23 (h : Sten ops base base0 bk N k n vl cv e0 e1 cs w0 a0 listed a w 23 o) : Oken base base0 bk N k n vl cv e0 e1 cs w0 listed a w 23 o := by
  have hs := h.is.at h.op
  obtain ⟨hop, hdst⟩ : o.op = .call { callee := .builtin .append, args := #[.tmp 38, .tmp 45], argTypes := #[22, 22] } ∧ o.dst = some 46 := by
    have e := (Option.some.inj hs).symm
    exact ⟨(Prod.mk.inj e).1, (Prod.mk.inj e).2⟩
  have gx := h.val 15 38 (h.dep 15 (by decide)) rfl
  have gy := h.val 22 45 (h.dep 22 (by decide)) rfl
  have ex : a.eval (.tmp 38) = vl := gx
  obtain ⟨g, ey, hy⟩ : ∃ g, a.eval (.tmp 45) = .slice (some ⟨g, 0, none⟩) 6 6 ∧ w.ownsRow N 75 5 (a.eval (.tmp 45)) 6 (repC (enC k) 6) := gy
  rw [ey] at hy
  have hW := h.inv.world
  have hN := hW.lt
  have hba := h.ba
  have hnl := h.nl
  obtain ⟨i0, hi, hz0, hz1, hz2⟩ := info_parts info75b
  obtain ⟨v', w', hr, h2, h3, h4⟩ := run_append_rep (P := Tryz.prog) w base 22 o.type 75 i0 _ 5 48 Tryz.underlying22 hi hz0 hz1 hz2 rfl (by decide) (enC k) rfl vl n hW.row ⟨g, 0, none⟩ 6 6 (hy.cells (g := g) rfl) (enC_one k) (by unfold maxLen; omega) (by omega) (by omega)
  have hd9 := h.open29 (by decide)
  have hbk := hW.bok hd9
  have hsf : Sfen N k w w' := ⟨fun b hb hb2 => h3.block b hb2 (fun e => by have := h.vN b e.symm; omega), fun b u p hx => h4 b u p hx⟩
  have h49 : ∀ u p xs, w.ownsRow base0 81 1 u p xs → w'.ownsRow base0 81 1 u p xs := fun u p xs hx => hx.kept h3 (row_apart hx hW.row (by decide))
  refine ⟨v', w', .inl ?_, fun d' hd' => by rw [hdst] at hd'; cases hd'; exact h2, fun d' u _ hg => Gen.sf hsf h49 d' u hg, Wden.same ⟨h4 _ _ _ hW.row, (hsf.new N (Nat.le_refl _) hN).trans hW.box, fun h1 => h49 _ _ _ (hW.chs h1), fun h1 => ?_, fun h1 => (by rw [hd9] at h1; cases h1), fun b hb h1 h2' h3' => ?_, h3.os.trans hW.os, h3.tape.trans hW.tape, h3.output.trans hW.output⟩ (by decide) (by decide)⟩
  · unfold execOp
    simp only [hop, resolve, invoke, builtin, Sem.run_bind, Sem.run_pure, Result.andThen_ok, List.map_toArray, List.map_cons, List.map_nil, ex, ey, hr]
  · exact (h3.block bk (Array.getElem?_eq_some_iff.1 hbk).1 (fun e => row_far hW.row hbk (by decide) e.symm)).trans hbk
  · exact (h3.block b (by omega) (fun e => h2' e.symm)).trans (hW.old b hb h1 h2' h3')

theorem en_op24 (h : Sten ops base base0 bk N k n vl cv e0 e1 cs w0 a0 listed a w 24 o) : Oken base base0 bk N k n vl cv e0 e1 cs w0 listed a w 24 o := by
  have hs := h.is.at h.op
  obtain ⟨hop, hdst⟩ : o.op = .buildSlice 81 4 #[(0, .tmp 28), (1, .tmp 32), (2, .tmp 37), (3, .tmp 46)] ∧ o.dst = some 47 := by
    have e := (Option.some.inj hs).symm
    exact ⟨(Prod.mk.inj e).1, (Prod.mk.inj e).2⟩
  have g28 := h.val 5 28 (h.dep 5 (by decide)) rfl
  have g32 := h.val 9 32 (h.dep 9 (by decide)) rfl
  have g37 := h.val 14 37 (h.dep 14 (by decide)) rfl
  have g46 := h.val 23 46 (h.dep 23 (by decide)) rfl
  have e28 : a.eval (.tmp 28) = vl := g28
  have r32 : w.ownsRow base 75 5 (a.eval (.tmp 32)) (n + 1) (repC (enC k) (n + 1)) := g32
  have r37 : w.ownsRow base 75 5 (a.eval (.tmp 37)) (n + 2) (repC (enC k) (n + 2)) := g37
  have r46 : w.ownsRow base 75 5 (a.eval (.tmp 46)) (n + 6) (repC (enC k) (n + 6)) := g46
  have hW := h.inv.world
  have hN := hW.lt
  have rl := hW.row
  obtain ⟨p0, n0, c0, hv0⟩ := row_slice rl
  obtain ⟨p1, n1, c1, hv1⟩ := row_slice r32
  obtain ⟨p2, n2, c2, hv2⟩ := row_slice r37
  obtain ⟨p3, n3, c3, hv3⟩ := row_slice r46
  refine h.new (v := .slice (some ⟨w.heap.size, 0, none⟩) 4 4) (ob := .cells #[vl, a.eval (.tmp 32), a.eval (.tmp 37), a.eval (.tmp 46)] 22) (by decide) ?_ hdst ⟨w.heap.size, rfl, by omega, _, _, _, heap_alloc_new w _, rl.alloc _, r32.alloc _, r37.alloc _, r46.alloc _⟩
  simp only [execOp, hop, e28, hv0, hv1, hv2, hv3, List.map_toArray, List.map_cons, List.map_nil, Sem.run_bind, en_bs4, Result.andThen_ok, Sem.run_pure]

theorem en_op25 (h : Sten ops base base0 bk N k n vl cv e0 e1 cs w0 a0 listed a w 25 o) : Oken base base0 bk N k n vl cv e0 e1 cs w0 listed a w 25 o := by
  have hs := h.is.at h.op
  obtain ⟨hop, hdst⟩ : o.op = .buildSlice 26 1 #[(0, .tmp 47)] ∧ o.dst = some 48 := by
    have e := (Option.some.inj hs).symm
    exact ⟨(Prod.mk.inj e).1, (Prod.mk.inj e).2⟩
  have g47 := h.val 24 47 (h.dep 24 (by decide)) rfl
  obtain ⟨q, ev, hq, hQ⟩ : ∃ q, a.eval (.tmp 47) = .slice (some ⟨q, 0, none⟩) 4 4 ∧ N ≤ q ∧ Quaden base k n vl q w := g47
  have hN := h.inv.world.lt
  refine h.new (v := .slice (some ⟨w.heap.size, 0, none⟩) 1 1) (ob := .cells #[.slice (some ⟨q, 0, none⟩) 4 4] 81) (by decide) ?_ hdst ⟨w.heap.size, q, rfl, by omega, heap_alloc_new w _, hq, hQ.sf (Sfen.alloc N k w _) hq⟩
  simp only [execOp, hop, ev, List.map_toArray, List.map_cons, List.map_nil, Sem.run_bind, en_bsq, Result.andThen_ok, Sem.run_pure]

theorem en_op26 (h : Sten ops base base0 bk N k n vl cv e0 e1 cs w0 a0 listed a w 26 o) : Oken base base0 bk N k n vl cv e0 e1 cs w0 listed a w 26 o := by
  have hs := h.is.at h.op
  obtain ⟨hop, hdst⟩ : o.op = .call { callee := .builtin .append, args := #[.tmp 27, .tmp 48], argTypes := #[26, 26] } ∧ o.dst = some 49 := by
    have e := (Option.some.inj hs).symm
    exact ⟨(Prod.mk.inj e).1, (Prod.mk.inj e).2⟩
  have g27 := h.val 4 27 (h.dep 4 (by decide)) rfl
  have g48 := h.val 25 48 (h.dep 25 (by decide)) rfl
  have ex : a.eval (.tmp 27) = cv := g27
  obtain ⟨g, q, ey, hg, hgb, hq, hQ⟩ : ∃ g q, a.eval (.tmp 48) = .slice (some ⟨g, 0, none⟩) 1 1 ∧ N ≤ g ∧ w.heap[g]? = some (.cells #[.slice (some ⟨q, 0, none⟩) 4 4] 81 (0, 0)) ∧ N ≤ q ∧ Quaden base k n vl q w := g48
  have hW := h.inv.world
  have hN := hW.lt
  have hb0 := h.b0
  have hkl := h.kl
  have hch := hW.chs h.self
  have hd9 := h.open29 (by decide)
  have hbk := hW.bok hd9
  obtain ⟨i0, hi, hz0, hz1, hz2⟩ := info_parts info81b
  have hnews : ∀ j u, [Value.slice (some ⟨q, 0, none⟩) 4 4][j]? = some u → w.cell? ((⟨g, 0, none⟩ : Addr).add j) = some u := by
    intro j u hu
    have hadd : (⟨g, 0, none⟩ : Addr).add j = ⟨g, j, none⟩ := by unfold Addr.add; split <;> simp_all
    rw [hadd, cell_of_row w g j _ _ _ hgb]
    simpa using hu
  obtain ⟨v', w', hr, h2, h3, _⟩ := run_append_own (P := Tryz.prog) w base0 26 o.type 81 i0 _ 1 24 Tryz.underlying26 hi hz0 hz1 hz2 rfl (by decide) cv k cs hch ⟨g, 0, none⟩ 1 1 [.slice (some ⟨q, 0, none⟩) 4 4] rfl hnews (by intro u hu; simp at hu; subst hu; rfl) (by unfold maxLen; omega) (by omega) (by omega)
  have hsf : Sfen N k w w' := ⟨fun b hb hb2 => h3.block b hb2 (fun e => by have := h.cN b e.symm; omega), fun b u p hx => hx.kept h3 (row_apart hx hch (by decide))⟩
  refine ⟨v', w', .inl ?_, fun d' hd' => by rw [hdst] at hd'; cases hd'; exact ⟨q, hq, hQ.sf hsf hq, h2⟩, fun d' u hne hg => Gen.sf49 hsf d' u (by rw [hdst] at hne; exact hne) hg, ⟨hsf.reps _ _ _ hW.row, (hsf.new N (Nat.le_refl _) hN).trans hW.box, fun h1 => ?_, fun h1 => ?_, fun h1 => ?_, fun b hb h1 h2' h3' => ?_, h3.os.trans hW.os, h3.tape.trans hW.tape, h3.output.trans hW.output⟩⟩
  · unfold execOp
    simp only [hop, resolve, invoke, builtin, Sem.run_bind, Sem.run_pure, Result.andThen_ok, List.map_toArray, List.map_cons, List.map_nil, ex, ey, hr]
  · rw [listed_self _ _ (by rw [h.inv.size]; exact (Array.getElem?_eq_some_iff.1 h.op).1)] at h1; cases h1
  · exact (h3.block bk (Array.getElem?_eq_some_iff.1 hbk).1 (fun e => row_far hch hbk (by decide) e.symm)).trans hbk
  · rw [listed_other _ _ _ (by decide), hd9] at h1; cases h1
  · exact (h3.block b (by omega) (fun e => h3' e.symm)).trans (hW.old b hb h1 h2' h3')

theorem en_op27 (h : Sten ops base base0 bk N k n vl cv e0 e1 cs w0 a0 listed a w 27 o) : Oken base base0 bk N k n vl cv e0 e1 cs w0 listed a w 27 o := by
  have hs := h.is.at h.op
  obtain ⟨hop, hdst⟩ : o.op = .nilCheck (.tmp 23) ∧ o.dst = some 50 := by
    have e := (Option.some.inj hs).symm
    exact ⟨(Prod.mk.inj e).1, (Prod.mk.inj e).2⟩
  have g := h.val 0 23 (h.dep 0 (by decide)) rfl
  have e : a.eval (.tmp 23) = .pointer (some ⟨bk, 0, none⟩) := g
  exact h.pure (by decide) (by decide) (by simp only [execOp, hop, e]; rfl) hdst rfl

theorem en_op28 (h : Sten ops base base0 bk N k n vl cv e0 e1 cs w0 a0 listed a w 28 o) : Oken base base0 bk N k n vl cv e0 e1 cs w0 listed a w 28 o := by
  have hs := h.is.at h.op
  obtain ⟨hop, hdst⟩ : o.op = .fieldAddr 30 (.tmp 50) 0 ∧ o.dst = some 51 := by
    have e := (Option.some.inj hs).symm
    exact ⟨(Prod.mk.inj e).1, (Prod.mk.inj e).2⟩
  have g := h.val 27 50 (h.dep 27 (by decide)) rfl
  have e : a.eval (.tmp 50) = .pointer (some ⟨bk, 0, none⟩) := g
  refine h.pure (v := .pointer (some ⟨bk, 0, none⟩)) (by decide) (by decide) ?_ hdst rfl
  simp only [execOp, hop, e, Sem.run_bind, en_fa, Result.andThen_ok, Sem.run_pure]

theorem en_op29 (h : Sten ops base base0 bk N k n vl cv e0 e1 cs w0 a0 listed a w 29 o) : Oken base base0 bk N k n vl cv e0 e1 cs w0 listed a w 29 o := by
  have hs := h.is.at h.op
  obtain ⟨hop, hdst⟩ : o.op = .store 26 (.tmp 51) (.tmp 49) ∧ o.dst = none := by
    have e := (Option.some.inj hs).symm
    exact ⟨(Prod.mk.inj e).1, (Prod.mk.inj e).2⟩
  have g51 := h.val 28 51 (h.dep 28 (by decide)) rfl
  have g49 := h.val 26 49 (h.dep 26 (by decide)) rfl
  have ex : a.eval (.tmp 51) = .pointer (some ⟨bk, 0, none⟩) := g51
  obtain ⟨q, hq, hQ, hrow⟩ : ∃ q, N ≤ q ∧ Quaden base k n vl q w ∧ w.ownsRow base0 81 1 (a.eval (.tmp 49)) (k + 1) (cs ++ [Value.slice (some ⟨q, 0, none⟩) 4 4]) := g49
  have hW := h.inv.world
  have hN := hW.lt
  have hbn := h.bn
  have hd9 := h.self
  have hbk := hW.bok hd9
  obtain ⟨p, m, c, hv⟩ := row_slice hrow
  have hc : w.cell? ⟨bk, 0, none⟩ = some cv := by rw [cell_of_row w bk 0 _ _ _ hbk]; rfl
  have hf : w.frozen? ⟨bk, 0, none⟩ = false := frozen_of_row w bk 0 _ _ hbk
  have hrun := en_st bk p m c cv w hc hf
  rw [← hv] at hrun
  generalize hx : a.eval (.tmp 49) = v at *
  have hset : (w.setCell ⟨bk, 0, none⟩ v).heap[bk]? = some (.cells #[v, e0, e1] 30 (0, 0)) := by
    rw [heap_setCell_same w bk 0 _ _ v hbk]; rfl
  have hoth : ∀ b, b ≠ bk → (w.setCell ⟨bk, 0, none⟩ v).heap[b]? = w.heap[b]? := fun b hb => heap_setCell_other w ⟨bk, 0, none⟩ b v (fun e => hb (by simpa using e))
  have hgr : w.grownBy (w.setCell ⟨bk, 0, none⟩ v) (some bk) := ⟨rfl, rfl, rfl, by simp, fun b _ hb => hoth b (fun e => hb (by rw [e]))⟩
  have hsf : Sfen N k w (w.setCell ⟨bk, 0, none⟩ v) := ⟨fun b hb _ => hoth b (by omega), fun b u p hx => hx.kept hgr (.inr (row_far hx hbk (by decide)))⟩
  have h49 : ∀ u p xs, w.ownsRow base0 81 1 u p xs → (w.setCell ⟨bk, 0, none⟩ v).ownsRow base0 81 1 u p xs := fun u p xs hx => hx.kept hgr (.inr (row_far hx hbk (by decide)))
  have hl29 : (listed.setIfInBounds 29 true).getD 29 false = true := listed_self _ _ (by rw [h.inv.size]; exact (Array.getElem?_eq_some_iff.1 h.op).1)
  refine ⟨undef, w.setCell ⟨bk, 0, none⟩ v, .inr ⟨?_, rfl⟩, fun d' hd' => (by rw [hdst] at hd'; cases hd'), fun d' u _ hg => Gen.sf hsf h49 d' u hg, ⟨hsf.reps _ _ _ hW.row, (hsf.new N (Nat.le_refl _) hN).trans hW.box, fun h1 => ?_, fun h1 => ?_, fun _ => ⟨v, q, hset, hq, hQ.sf hsf hq, h49 _ _ _ hrow⟩, fun b hb h1 h2' h3' => ?_, hW.os, hW.tape, hW.output⟩⟩
  · simp only [execOp, hop, ex, hx, Sem.run_bind, hrun, Result.andThen_ok, Sem.run_pure]
  · rw [listed_other _ _ _ (by decide)] at h1
    exact h49 _ _ _ (hW.chs h1)
  · rw [hl29] at h1; cases h1
  · exact (hoth b h1).trans (hW.old b hb h1 h2' h3')

theorem en_ops (h : Sten ops base base0 bk N k n vl cv e0 e1 cs w0 a0 listed a w i o) : Oken base base0 bk N k n vl cv e0 e1 cs w0 listed a w i o := by
  have hlt : i < 30 := by
    have h1 := (Array.getElem?_eq_some_iff.1 h.op).1
    have h2 := congrArg Array.size h.is.shape
    simp at h2
    have h3 : shapeen.size = 30 := rfl
    omega
  match i, hlt, h with
  | 0, _, h => exact en_op0 h
  | 1, _, h => exact en_op1 h
  | 2, _, h => exact en_op2 h
  | 3, _, h => exact en_op3 h
  | 4, _, h => exact en_op4 h
  | 5, _, h => exact en_op5 h
  | 6, _, h => exact en_op6 h
  | 7, _, h => exact en_op7 h
  | 8, _, h => exact en_op8 h
  | 9, _, h => exact en_op9 h
  | 10, _, h => exact en_op10 h
  | 11, _, h => exact en_op11 h
  | 12, _, h => exact en_op12 h
  | 13, _, h => exact en_op13 h
  | 14, _, h => exact en_op14 h
  | 15, _, h => exact en_op15 h
  | 16, _, h => exact en_op16 h
  | 17, _, h => exact en_op17 h
  | 18, _, h => exact en_op18 h
  | 19, _, h => exact en_op19 h
  | 20, _, h => exact en_op20 h
  | 21, _, h => exact en_op21 h
  | 22, _, h => exact en_op22 h
  | 23, _, h => exact en_op23 h
  | 24, _, h => exact en_op24 h
  | 25, _, h => exact en_op25 h
  | 26, _, h => exact en_op26 h
  | 27, _, h => exact en_op27 h
  | 28, _, h => exact en_op28 h
  | 29, _, h => exact en_op29 h
  | j + 30, hlt, _ => exact absurd hlt (by omega)
end
end Go.Proofs.YtehkdjdflgknnaaGreatDoor

/- The book takes a list of changes. -/
namespace Go.Proofs.YtehkdjdflgknnaaGreatDoor
open Go.RowKit
set_option linter.unusedVariables false
set_option linter.unusedSimpArgs false

theorem hid {p : Prop} (h : p) : Hid p := h
theorem set_at {α : Type} (A R : List α) (x c : α) (p : Nat) (h : A.length = p) : (A ++ x :: R).set p c = A ++ c :: R := by
  rw [List.set_append_right _ _ (by omega), show p - A.length = 0 by omega]; rfl
theorem row_len {w : World} {base e size n : Nat} {v : Value} {xs : List Value} (h : w.ownsRow base e size v n xs) : ∃ p c, v = .slice p n c := by
  rcases h.2 with ⟨rfl, rfl⟩ | ⟨g, cap, cur, rfl, _⟩
  · exact ⟨_, _, rfl⟩
  · exact ⟨_, _, rfl⟩
theorem en_marked {w : World} {base n cap g k i : Nat} {xs : List Value} (hx : xs.length = n * 5) (h : w.ownsRow base 75 5 (.slice (some ⟨g, 0, none⟩) n cap) n (repC (enC k) i ++ xs.drop (i * 5))) (hi : i < n) :
    (((((w.setCell ⟨g, i * 5, none⟩ (.string ⟨#[]⟩)).setCell ⟨g, i * 5 + 1, none⟩ (.bool false)).setCell ⟨g, i * 5 + 2, none⟩ (.int .i64 (-7000 - (k : Int)))).setCell ⟨g, i * 5 + 3, none⟩ (.int .i64 0)).setCell ⟨g, i * 5 + 4, none⟩ (.int .i64 0)).ownsRow base 75 5 (.slice (some ⟨g, 0, none⟩) n cap) n (repC (enC k) (i + 1) ++ xs.drop ((i + 1) * 5)) ∧
    w.grownBy (((((w.setCell ⟨g, i * 5, none⟩ (.string ⟨#[]⟩)).setCell ⟨g, i * 5 + 1, none⟩ (.bool false)).setCell ⟨g, i * 5 + 2, none⟩ (.int .i64 (-7000 - (k : Int)))).setCell ⟨g, i * 5 + 3, none⟩ (.int .i64 0)).setCell ⟨g, i * 5 + 4, none⟩ (.int .i64 0)) (some g) := by
  have s0 := h.stored (i * 5) (.string ⟨#[]⟩)
  have s1 := s0.1.stored (i * 5 + 1) (.bool false)
  have s2 := s1.1.stored (i * 5 + 2) (.int .i64 (-7000 - (k : Int)))
  have s3 := s2.1.stored (i * 5 + 3) (.int .i64 0)
  have s4 := s3.1.stored (i * 5 + 4) (.int .i64 0)
  refine ⟨?_, (((s0.2.trans s1.2).trans s2.2).trans s3.2).trans s4.2⟩
  have e : ((((((repC (enC k) i ++ xs.drop (i * 5)).set (i * 5) (.string ⟨#[]⟩)).set (i * 5 + 1) (.bool false)).set (i * 5 + 2) (.int .i64 (-7000 - (k : Int)))).set (i * 5 + 3) (.int .i64 0)).set (i * 5 + 4) (.int .i64 0)) = repC (enC k) (i + 1) ++ xs.drop ((i + 1) * 5) := by
    have hl : (repC (enC k) i).length = i * 5 := repC_len _ _
    rw [List.drop_eq_getElem_cons (by omega : i * 5 < xs.length), List.drop_eq_getElem_cons (by omega : i * 5 + 1 < xs.length), List.drop_eq_getElem_cons (by omega : i * 5 + 1 + 1 < xs.length), List.drop_eq_getElem_cons (by omega : i * 5 + 1 + 1 + 1 < xs.length), List.drop_eq_getElem_cons (by omega : i * 5 + 1 + 1 + 1 + 1 < xs.length)]
    rw [set_at _ _ _ _ _ hl]
    have e1 : ∀ (A R : List Value) (x y : Value), A ++ x :: y :: R = (A ++ [x]) ++ y :: R := by simp
    rw [e1, set_at _ _ _ _ _ (by simp [hl]), e1, set_at _ _ _ _ _ (by simp [hl]), e1, set_at _ _ _ _ _ (by simp [hl]), e1, set_at _ _ _ _ _ (by simp [hl])]
    rw [← repC_add, show (i + 1) * 5 = i * 5 + 1 + 1 + 1 + 1 + 1 by omega]
    simp [repC, enC]
  rw [← e]
  exact s4.1

/-- What the book's taking of a list leaves. -/
def Tooken (base base0 bk k n : Nat) (vl cv e0 e1 : Value) (cs : List Value) (w w' : World) : Prop :=
  (∃ cv' q, w'.heap[bk]? = some (.cells #[cv', e0, e1] 30 (0, 0)) ∧ w.heap.size ≤ q ∧ Quaden base k n vl q w' ∧ w'.ownsRow base0 81 1 cv' (k + 1) (cs ++ [.slice (some ⟨q, 0, none⟩) 4 4])) ∧
  (∀ b, b < w.heap.size → b ≠ bk → vl.ownBlock ≠ some b → cv.ownBlock ≠ some b → w'.heap[b]? = w.heap[b]?) ∧ w'.os = w.os ∧ w'.tape = w.tape ∧ w'.output = w.output ∧ w.heap.size ≤ w'.heap.size


theorem took_of {base base0 bk k n : Nat} {vl cv e0 e1 : Value} {cs : List Value} {w w1 wz : World} {listed : Array Bool}
    (hW : Wden base base0 bk w.heap.size k n vl cv e0 e1 cs w1 listed wz) (h29 : listed.getD 29 false = true)
    (h1 : ∀ b, b < w.heap.size → vl.ownBlock ≠ some b → w1.heap[b]? = w.heap[b]?) (h2 : w1.os = w.os) (h3 : w1.tape = w.tape) (h4 : w1.output = w.output) : Tooken base base0 bk k n vl cv e0 e1 cs w wz := by
  refine ⟨hW.fin h29, fun b hb hbk hv hc => (hW.old b hb hbk hv hc).trans (h1 b hb hv), hW.os.trans h2, hW.tape.trans h3, hW.output.trans h4, ?_⟩
  have := hW.lt
  omega

set_option maxHeartbeats 2000000 in
set_option maxRecDepth 100000 in
theorem bookEntry_nil (bk base base0 k : Nat) (cv e0 e1 : Value) (cs : List Value) (w : World) (hk : k ≤ 3000000) (hba : base ≤ w.heap.size) (hb0 : base0 ≤ w.heap.size)
    (hbk : w.heap[bk]? = some (.cells #[cv, e0, e1] 30 (0, 0))) (hcv : w.ownsRow base0 81 1 cv k cs) :
    Calls Tryz.prog 15 #[.pointer (some ⟨bk, 0, none⟩), .slice none 0 0] w fun e w' => e = .returned (.tuple #[]) ∧ Tooken base base0 bk k 0 (.slice none 0 0) cv e0 e1 cs w w' := by
  have hbl : bk < w.heap.size := (Array.getElem?_eq_some_iff.1 hbk).1
  have HCN : Hid (∀ b, cv.ownBlock = some b → b < w.heap.size) := fun b hb => (hcv.lt b hb).2
  have HW : Hid (∀ l, Wden base base0 bk w.heap.size k 0 (.slice none 0 0) cv e0 e1 cs (w.alloc (.cells #[.string ⟨#[]⟩, .bool false, .int .i64 (-7000 - (k : Int)), .int .i64 0, .int .i64 0] 75)) (Array.replicate l false) (w.alloc (.cells #[.string ⟨#[]⟩, .bool false, .int .i64 (-7000 - (k : Int)), .int .i64 0, .int .i64 0] 75)).drew) := fun l => by
    refine ⟨World.ownsRow_nil _ _ _ _, heap_alloc_new w _, fun _ => hcv.alloc _, fun _ => ((World.grownBy_alloc w _ none).block _ hbl (by simp)).trans hbk, fun h => ?_, fun b hb _ _ _ => rfl, rfl, rfl, rfl⟩
    unfold Array.getD at h
    split at h <;> simp at h
  have hb2 : w.cell? ⟨bk, 0, none⟩ = some cv := by rw [cell_of_row w bk 0 _ _ _ hbk]; rfl
  clear hbk
  obtain ⟨cp, cc, hcs⟩ := row_len hcv
  clear hcv
  rw [hcs] at hb2
  have HCS : Hid (cv = .slice cp k cc) := hcs
  clear hcs
  go_enter Tryz.func15, Tryz.ntmps15
  go_wp2_with (go_at_call 36; refine (mark_any _ _ (by omega) (by omega)).mono ?_; rintro e w' ⟨rfl, rfl⟩)
  refine wp_loop_rounds 1 ?_
  rw [rounds_succ]
  go_wp2
  refine wp_region_inv (Gen base base0 bk w'.heap.size k 0 (.slice none 0 0) cv cs) (Wden base base0 bk w'.heap.size k 0 (.slice none 0 0) cv e0 e1 cs (w'.alloc (.cells #[.string ⟨#[]⟩, .bool false, .int .i64 (-7000 - (k : Int)), .int .i64 0, .int .i64 0] 75))) (by kernel_rfl) (HW.out _) (by kernel_rfl) (by kernel_rfl) ?hstep ?hend
  case hstep =>
    intro listed a w i o hI hr ho
    exact en_ops ⟨⟨by kernel_rfl, by kernel_rfl, by kernel_rfl⟩, hI, hr, ho, rfl, rfl, rfl, hbl, by omega, hk, hba, hb0, fun b hb => by simp [Value.ownBlock] at hb, HCN.out⟩
  case hend =>
    intro listed a wz hI hall
    have hfin := took_of hI.world (hall 29 (by decide)) (fun b hb _ => (World.grownBy_alloc w' _ none).block b hb (by simp)) rfl rfl rfl
    have hdf := hI.defers
    clear HW HCN HCS hI hall
    (try simp only [Exit.inBlock, Exit.then])
    exact bodyPost_end (results_none rfl _ _ _) hdf ⟨rfl, hfin⟩

set_option maxHeartbeats 2000000 in
set_option maxRecDepth 100000 in
theorem bookEntry_some (bk base base0 k n g cap : Nat) (xs : List Value) (cv e0 e1 : Value) (cs : List Value) (w : World) (hk : k ≤ 3000000) (hn : n ≤ 3000000) (hba : base ≤ w.heap.size) (hb0 : base0 ≤ w.heap.size)
    (hbk : w.heap[bk]? = some (.cells #[cv, e0, e1] 30 (0, 0))) (hcv : w.ownsRow base0 81 1 cv k cs) (hl : w.ownsRow base 75 5 (.slice (some ⟨g, 0, none⟩) n cap) n xs) :
    Calls Tryz.prog 15 #[.pointer (some ⟨bk, 0, none⟩), .slice (some ⟨g, 0, none⟩) n cap] w fun e w' => e = .returned (.tuple #[]) ∧ Tooken base base0 bk k n (.slice (some ⟨g, 0, none⟩) n cap) cv e0 e1 cs w w' := by
  have hbl : bk < w.heap.size := (Array.getElem?_eq_some_iff.1 hbk).1
  have hgl : g < w.heap.size := (hl.lt g rfl).2
  have HCN : Hid (∀ b, cv.ownBlock = some b → b < w.heap.size) := fun b hb => (hcv.lt b hb).2
  have hxl : xs.length = n * 5 := hl.1
  have HW : Hid (∀ l u, (w.alloc (.cells #[.string ⟨#[]⟩, .bool false, .int .i64 (-7000 - (k : Int)), .int .i64 0, .int .i64 0] 75)).grownBy u (some g) → u.ownsRow base 75 5 (.slice (some ⟨g, 0, none⟩) n cap) n (repC (enC k) n) → Wden base base0 bk w.heap.size k n (.slice (some ⟨g, 0, none⟩) n cap) cv e0 e1 cs u (Array.replicate l false) u.drew) := fun l u hg hr => by
    have hk2 : u.ownsRow base0 81 1 cv k cs := (hcv.alloc (.cells #[.string ⟨#[]⟩, .bool false, .int .i64 (-7000 - (k : Int)), .int .i64 0, .int .i64 0] 75)).kept hg (row_apart hcv hl (by decide))
    have hgb : bk ≠ g := fun e => row_far hl hbk (by decide) (by rw [e]; rfl)
    refine ⟨hr, (hg.block _ (by simp) (by simp; omega)).trans (heap_alloc_new w _), fun _ => hk2, fun _ => (hg.block bk (by simp; omega) (by simpa using hgb)).trans (((World.grownBy_alloc w _ none).block _ hbl (by simp)).trans hbk), fun h => ?_, fun b hb _ _ _ => rfl, rfl, rfl, rfl⟩
    unfold Array.getD at h
    split at h <;> simp at h
  have HL : Hid ((w.alloc (.cells #[.string ⟨#[]⟩, .bool false, .int .i64 (-7000 - (k : Int)), .int .i64 0, .int .i64 0] 75)).ownsRow base 75 5 (.slice (some ⟨g, 0, none⟩) n cap) n (repC (enC k) 0 ++ xs.drop (0 * 5))) := by
    show (w.alloc _).ownsRow base 75 5 (.slice (some ⟨g, 0, none⟩) n cap) n (repC (enC k) 0 ++ xs.drop (0 * 5))
    have := hl.alloc (.cells #[.string ⟨#[]⟩, .bool false, .int .i64 (-7000 - (k : Int)), .int .i64 0, .int .i64 0] 75)
    simpa [repC] using this
  have hb2 : w.cell? ⟨bk, 0, none⟩ = some cv := by rw [cell_of_row w bk 0 _ _ _ hbk]; rfl
  clear hbk hl
  obtain ⟨cp, cc, hcs⟩ := row_len hcv
  clear hcv
  rw [hcs] at hb2
  have HCS : Hid (cv = .slice cp k cc) := hcs
  clear hcs
  go_enter Tryz.func15, Tryz.ntmps15
  go_wp2_with (go_at_call 36; refine (mark_any _ _ (by omega) (by omega)).mono ?_; rintro e w' ⟨rfl, rfl⟩)
  go_loopw [5] (fun i wr => ∃ j : Nat, j ≤ n ∧ i = .int .i64 j ∧ (w'.alloc (.cells #[.string ⟨#[]⟩, .bool false, .int .i64 (-7000 - (k : Int)), .int .i64 0, .int .i64 0] 75)).grownBy wr (some g) ∧ wr.ownsRow base 75 5 (.slice (some ⟨g, 0, none⟩) n cap) n (repC (enC k) j ++ xs.drop (j * 5))) (fun i _ => n - (intOf i).toNat)
  case atStart => exact ⟨0, Nat.zero_le _, rfl, World.grownBy.refl _ _, HL.out⟩
  case round =>
    obtain ⟨j, hj, rfl, hgr, hrow⟩ := hrel
    by_cases hlt : j < n
    · have hnew : ∀ t, wr.cell? ⟨w'.heap.size, t, none⟩ = (w'.alloc (.cells #[.string ⟨#[]⟩, .bool false, .int .i64 (-7000 - (k : Int)), .int .i64 0, .int .i64 0] 75)).cell? ⟨w'.heap.size, t, none⟩ := fun t => World.cell?_of_block (hgr.block _ (by simp) (by simp; omega))
      have d0 : wr.cell? ⟨w'.heap.size, 0, none⟩ = some (.string ⟨#[]⟩) := by rw [hnew]; simp
      have d1 : wr.cell? ⟨w'.heap.size, 1, none⟩ = some (.bool false) := by rw [hnew]; simp
      have d2 : wr.cell? ⟨w'.heap.size, 2, none⟩ = some (.int .i64 (-7000 - (k : Int))) := by rw [hnew]; simp
      have d3 : wr.cell? ⟨w'.heap.size, 3, none⟩ = some (.int .i64 0) := by rw [hnew]; simp
      have d4 : wr.cell? ⟨w'.heap.size, 4, none⟩ = some (.int .i64 0) := by rw [hnew]; simp
      have hlen : (repC (enC k) j ++ xs.drop (j * 5)).length = n * 5 := hrow.1
      obtain ⟨x0, c0⟩ : ∃ x, wr.cell? ⟨g, j * 5, none⟩ = some x := ⟨_, (hrow.cellAt (j * 5) (by omega)).trans (List.getElem?_eq_getElem (by omega))⟩
      obtain ⟨x1, c1⟩ : ∃ x, wr.cell? ⟨g, j * 5 + 1, none⟩ = some x := ⟨_, (hrow.cellAt (j * 5 + 1) (by omega)).trans (List.getElem?_eq_getElem (by omega))⟩
      obtain ⟨x2, c2⟩ : ∃ x, wr.cell? ⟨g, j * 5 + 2, none⟩ = some x := ⟨_, (hrow.cellAt (j * 5 + 2) (by omega)).trans (List.getElem?_eq_getElem (by omega))⟩
      obtain ⟨x3, c3⟩ : ∃ x, wr.cell? ⟨g, j * 5 + 3, none⟩ = some x := ⟨_, (hrow.cellAt (j * 5 + 3) (by omega)).trans (List.getElem?_eq_getElem (by omega))⟩
      obtain ⟨x4, c4⟩ : ∃ x, wr.cell? ⟨g, j * 5 + 4, none⟩ = some x := ⟨_, (hrow.cellAt (j * 5 + 4) (by omega)).trans (List.getElem?_eq_getElem (by omega))⟩
      have f3 := hrow.frozenAt (j * 5 + 3)
      have f4 := hrow.frozenAt (j * 5 + 4)
      have f0 := hrow.frozenAt (j * 5)
      have f1 := hrow.frozenAt (j * 5 + 1)
      have f2 := hrow.frozenAt (j * 5 + 2)
      have HM := hid (en_marked hxl hrow hlt)
      have HG := hid hgr
      clear hrow hgr hnew hlen
      go_wp2
      exact ⟨⟨j + 1, by omega, by go_num, HG.out.trans HM.out.2, HM.out.1⟩, by simp [intOf]; omega⟩
    · have hj' : j = n := by omega
      subst hj'
      have HR : Hid (wr.ownsRow base 75 5 (.slice (some ⟨g, 0, none⟩) j cap) j (repC (enC k) j)) := by
        show wr.ownsRow base 75 5 (.slice (some ⟨g, 0, none⟩) j cap) j (repC (enC k) j)
        rwa [List.drop_of_length_le (by omega), List.append_nil] at hrow
      have HG := hid hgr
      clear hrow hgr
      go_wp2
      refine wp_region_inv (Gen base base0 bk w'.heap.size k j (.slice (some ⟨g, 0, none⟩) j cap) cv cs) (Wden base base0 bk w'.heap.size k j (.slice (some ⟨g, 0, none⟩) j cap) cv e0 e1 cs wr) (by kernel_rfl) (HW.out _ wr HG.out HR.out) (by kernel_rfl) (by kernel_rfl) ?hstep ?hend
      case hstep =>
        intro listed a w i o hI hr ho
        exact en_ops ⟨⟨by kernel_rfl, by kernel_rfl, by kernel_rfl⟩, hI, hr, ho, rfl, rfl, rfl, hbl, hn, hk, hba, hb0, fun b hb => by simp [Value.ownBlock] at hb; omega, HCN.out⟩
      case hend =>
        intro listed a wz hI hall
        have hg := HG.out
        have hfin := took_of hI.world (hall 29 (by decide)) (fun b hb hv => (hg.block b (by simp; omega) (fun e => hv (by simp [Value.ownBlock]; simp at e; exact e.symm))).trans ((World.grownBy_alloc w' _ none).block b hb (by simp))) hg.os hg.tape hg.output
        have hdf := hI.defers
        clear HW HCN HCS hI hall HR HG HL hg
        (try simp only [Exit.inBlock, Exit.then])
        exact bodyPost_end (results_none rfl _ _ _) hdf ⟨rfl, hfin⟩
end Go.Proofs.YtehkdjdflgknnaaGreatDoor

