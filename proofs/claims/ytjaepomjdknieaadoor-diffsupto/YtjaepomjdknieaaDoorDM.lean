/- The law itself: the call of Diffs answers true. -/
import Derived.Test.YtjaepomjdknieaaDoorDL
namespace Go.Proofs.YtjaepomjdknieaaDoor
open Go.RowKit
set_option linter.unusedVariables false
set_option linter.unusedSimpArgs false

def dirD : EntD := ⟨⟨#[100]⟩, true, 0, 0, 7⟩
def fileD : EntD := ⟨⟨#[100, 47, 102]⟩, false, 5, 0, 0⟩
theorem dirD_small : ∀ o ∈ [dirD], o.small := by
  intro o ho
  simp only [List.mem_singleton] at ho
  subst ho
  unfold EntD.small
  decide
theorem fileD_small : ∀ o ∈ [fileD], o.small := by
  intro o ho
  simp only [List.mem_singleton] at ho
  subst ho
  unfold EntD.small
  decide
theorem chk_dir : chkP [dirD] = (0, 0) := by kernel_rfl
theorem chk_file : chkP [fileD] = (2, 0) := by kernel_rfl
theorem one_at (w : World) (o : EntD) : EntsAt (w.alloc (.cells #[.string o.path, .bool o.dir, .int .i64 o.id, .int .i64 o.size, .int .i64 o.mode] 61)) w.heap.size 0 [o] := by
  intro k hk j v hv
  have hk0 : k = 0 := by simpa using hk
  subst hk0
  have e := Lib.cell_of_heap (heap_alloc_new w (.cells #[.string o.path, .bool o.dir, .int .i64 o.id, .int .i64 o.size, .int .i64 o.mode] 61)) (0 + 0 * 5 + j)
  rw [e]
  simpa [EntD.cells] using hv

set_option maxHeartbeats 1000000 in
theorem alive_any (w : World) : Calls Tryd.prog 7 #[] w fun e w' => e = .returned (.bool true) ∧ Below w.heap.size w w' := by
  have H1 := hidD (convoyCheck_any w.heap.size 0 1 [dirD] (w.alloc (.cells #[.string ⟨#[100]⟩, .bool true, .int .i64 0, .int .i64 0, .int .i64 7] 61)) (by simp) (by simp) dirD_small (by simp) (one_at w dirD))
  have H2 := hidD (fun u : World => convoyCheck_any u.heap.size 0 1 [fileD] (u.alloc (.cells #[.string ⟨#[100, 47, 102]⟩, .bool false, .int .i64 5, .int .i64 0, .int .i64 0] 61)) (by simp) (by simp) fileD_small (by simp) (one_at u fileD))
  rw [chk_dir] at H1
  rw [chk_file] at H2
  go_enter Tryd.func7, Tryd.ntmps7
  go_wp2_with fail
  refine H1.out.mono ?_
  rintro e w1 ⟨rfl, hb1⟩
  have B1 := hidD (((Below.refl w.heap.size w).alloc (Nat.le_refl _) _).trans (hb1.mono (by simp)))
  clear hb1 H1
  go_wp2_with fail
  refine (H2.out w1).mono ?_
  rintro e w2 ⟨rfl, hb2⟩
  have B2 := hidD ((B1.out.alloc B1.out.size _).trans (hb2.mono (by have := B1.out.size; simp; omega)))
  clear hb2 H2 B1
  go_wp2
  go_ret
  exact ⟨rfl, B2.out⟩

/-- The argument, and what stands for it with spare room. -/
inductive ArgAt (w : World) : Value → List EntD → Prop
  | nil : ArgAt w (.slice none 0 0) []
  | empty (a : Addr) : ArgAt w (.slice (some a) 0 0) []
  | row (b off cap : Nat) (l : List EntD) (hb : b < w.heap.size) (h : EntsAt w b off l) : ArgAt w (.slice (some ⟨b, off, none⟩) l.length cap) l
theorem ArgAt.below {w w' : World} {v : Value} {l : List EntD} (h : ArgAt w v l) {B : Nat} (hb : Below B w w') (hB : w.heap.size ≤ B) : ArgAt w' v l := by
  cases h with
  | nil => exact .nil
  | empty a => exact .empty a
  | row b off cap l hlt h => exact .row b off cap l (by have := hb.size; omega) (h.below hb (by omega))
theorem ArgAt.lst {w : World} {v : Value} {l : List EntD} (h : ArgAt w v l) : LstAt w v l := by
  cases h with
  | nil => exact .none _ _
  | empty a => exact .none _ _
  | row b off cap l hlt h => exact .row b off cap l hlt h
inductive PairAt (w : World) : Value → Value → List EntD → Prop
  | nil : PairAt w (.slice none 0 0) (.slice none 0 0) []
  | empty (a : Addr) (B g cap : Nat) (h : RoomyE w B g cap []) : PairAt w (.slice (some a) 0 0) (.slice (some ⟨g, 0, none⟩) 0 cap) []
  | row (b off c B g cap : Nat) (l : List EntD) (hb : b < w.heap.size) (he : EntsAt w b off l) (h : RoomyE w B g cap l) : PairAt w (.slice (some ⟨b, off, none⟩) l.length c) (.slice (some ⟨g, 0, none⟩) l.length cap) l
theorem PairAt.below {w w' : World} {v v' : Value} {l : List EntD} (h : PairAt w v v' l) (hb : Below w.heap.size w w') : PairAt w' v v' l := by
  cases h with
  | nil => exact .nil
  | empty a B g cap h => exact .empty a B g cap (h.below hb)
  | row b off c B g cap l hlt he h => exact .row b off c B g cap l (by have := hb.size; omega) (he.below hb hlt) (h.below hb)
theorem PairAt.rm {w : World} {v v' : Value} {l : List EntD} (h : PairAt w v v' l) : RmAt w v' l := by
  cases h with
  | nil => exact .nil
  | empty a B g cap h => exact .row B g cap [] h
  | row b off c B g cap l hlt he h => exact .row B g cap l h
theorem roomy_u {w : World} {v : Value} {l : List EntD} (h : ArgAt w v l) (hl : l.length ≤ 2000000) : Calls Tryd.prog 8 #[v] w fun e w' => ∃ v', e = .returned v' ∧ PairAt w' v v' l ∧ Below w.heap.size w w' := by
  cases h with
  | nil => exact (roomy_nil w).mono (fun e w' he => ⟨_, he.1, .nil, by rw [he.2]; exact Below.refl _ _⟩)
  | empty a =>
    refine (roomy_empty a w).mono ?_
    rintro e w' ⟨g, cap, rfl, hr, hb⟩
    exact ⟨_, rfl, .empty a _ g cap hr, hb⟩
  | row b off cap l hlt h =>
    refine (roomy_any b off cap l w hl hlt h).mono ?_
    rintro e w' ⟨g, cap', rfl, hr, hb⟩
    exact ⟨_, rfl, .row b off cap _ g cap' l (by have := hb.size; omega) (h.below hb hlt) hr, hb⟩
theorem kept_u {w : World} {v v' : Value} {l : List EntD} (h : PairAt w v v' l) (hl : l.length ≤ 2000000) : Calls Tryd.prog 11 #[v', v] w fun e w' => e = .returned (.bool true) ∧ Below w.heap.size w w' := by
  cases h with
  | nil => exact (keptE_nil w).mono (fun e w' he => ⟨he.1, by rw [he.2]; exact Below.refl _ _⟩)
  | empty a B g cap h => exact (keptE_empty g cap a w B h).mono (fun e w' he => ⟨he.1, by rw [he.2]; exact Below.refl _ _⟩)
  | row b off c B g cap l hlt he h => exact keptE_any g cap b off c l w B hl h he

/-- What both Diffs leave, in one form. -/
def lstL (S T : List EntD) : List ChD := if treeB S = true ∧ treeB T = true then diffL S S T else []
def errL (S T : List EntD) : Int := if treeB S = true ∧ treeB T = true then 0 else 4
theorem post_one {S T : List EntD} {w : World} {e : Ending} {w' : World} (h : DiffPost S T w e w') : ∃ v, e = .returned (.tuple #[v, .int .i64 (errL S T)]) ∧ w'.ownsRow w.heap.size 64 3 v (lstL S T).length (flatC (lstL S T)) ∧ Below w.heap.size w w' := by
  obtain ⟨hb, hx⟩ := h
  unfold errL lstL
  by_cases g : treeB S = true ∧ treeB T = true
  · rw [if_pos g] at hx
    rw [if_pos g, if_pos g]
    obtain ⟨v, rfl, ho⟩ := hx
    exact ⟨v, rfl, ho, hb⟩
  · rw [if_neg g] at hx
    rw [if_neg g, if_neg g]
    exact ⟨_, hx, World.ownsRow_nil _ _ _ _, hb⟩
theorem lstL_len (S T : List EntD) : (lstL S T).length ≤ 120 := by
  unfold lstL
  split
  · next g =>
    have h1 := (tree_ok S g.1).few
    have h2 := (tree_ok T g.2).few
    have := diffL_len S _ S T (Nat.le_refl _)
    omega
  · simp

/-- The book between the rounds. -/
def Qs (w : World) (cs : List Value) : Prop := ∀ (i : Nat) (h : i < cs.length), ∃ q n base vl, cs[i] = .slice (some ⟨q, 0, none⟩) 4 4 ∧ Quadch base i n vl q w ∧ n ≤ 3000000
structure LawInv (w0 : World) (bk kk : Nat) (w : World) : Prop where
  bel : Below w0.heap.size w0 w
  lt : w0.heap.size ≤ bk
  ex : ∃ cv cs, w.heap[bk]? = some (.cells #[.slice none 0 0, .slice none 0 0, cv] 38 (0, 0)) ∧ w.ownsRow w0.heap.size 67 1 cv kk cs ∧ cs.length = kk ∧ Qs w cs
theorem row_same {w w' : World} {base e size n : Nat} {v : Value} {xs : List Value} (h : w.ownsRow base e size v n xs) (hk : ∀ b, v.ownBlock = some b → w'.heap[b]? = w.heap[b]?) : w'.ownsRow base e size v n xs := by
  refine ⟨h.1, ?_⟩
  rcases h.2 with hn | ⟨g, cap, cur, rfl, hb, hg, rest⟩
  · exact .inl hn
  · exact .inr ⟨g, cap, cur, rfl, hb, (hk g rfl).trans hg, rest⟩
theorem Quadch.same {w w' : World} {base k n q : Nat} {vl : Value} (h : Quadch base k n vl q w) (hq : ∀ c : Array Value, w.heap[q]? = some (Obj.cells c 39 (0, 0)) → w'.heap[q]? = w.heap[q]?) (hr : ∀ b u p xs, w.ownsRow b 64 3 u p xs → w'.ownsRow b 64 3 u p xs) : Quadch base k n vl q w' := by
  obtain ⟨u1, u2, u6, h0, h1, h2, h3, h4⟩ := h
  exact ⟨u1, u2, u6, (hq _ h0).trans h0, hr _ _ _ _ h1, hr _ _ _ _ h2, hr _ _ _ _ h3, hr _ _ _ _ h4⟩
theorem Qs.same {w w' : World} {cs : List Value} (h : Qs w cs) (hq : ∀ (q : Nat) (c : Array Value), w.heap[q]? = some (Obj.cells c 39 (0, 0)) → w'.heap[q]? = w.heap[q]?) (hr : ∀ b u p xs, w.ownsRow b 64 3 u p xs → w'.ownsRow b 64 3 u p xs) : Qs w' cs := by
  intro i hi
  obtain ⟨q, n, base, vl, e, hQ, hn⟩ := h i hi
  exact ⟨q, n, base, vl, e, hQ.same (hq q) hr, hn⟩
theorem LawInv.below {w0 w w' : World} {bk kk : Nat} (h : LawInv w0 bk kk w) (hb : Below w.heap.size w w') : LawInv w0 bk kk w' := by
  obtain ⟨hbel, hlt, cv, cs, h1, h2, h3, h4⟩ := h
  refine ⟨hbel.trans (hb.mono hbel.size), hlt, cv, cs, (hb.block bk (Array.getElem?_eq_some_iff.1 h1).1).trans h1, own_below hb h2, h3, h4.same (fun q c hc => hb.block q (Array.getElem?_eq_some_iff.1 hc).1) (fun b u p xs hx => own_below hb hx)⟩
theorem LawInv.start (w0 w : World) (hb : Below w0.heap.size w0 w) : LawInv w0 w.heap.size 0 (w.alloc (.cells #[.slice none 0 0, .slice none 0 0, .slice none 0 0] 38)) :=
  ⟨hb.alloc hb.size _, hb.size, _, [], heap_alloc_new w _, World.ownsRow_nil _ _ _ _, rfl, fun i hi => by simp at hi⟩

/-- A list is taken. -/
theorem book_u {w0 wr w : World} {bk kk B n : Nat} {v : Value} {xs : List Value} (h0 : LawInv w0 bk kk wr) (hb : Below wr.heap.size wr w) (hB : wr.heap.size ≤ B) (hBw : B ≤ w.heap.size) (hk : kk ≤ 3000000) (hn : n ≤ 3000000) (hv : w.ownsRow B 64 3 v n xs) :
    Calls Tryd.prog 16 #[.pointer (some ⟨bk, 0, none⟩), v] w fun e w' => e = .returned (.tuple #[]) ∧ LawInv w0 bk (kk + 1) w' ∧ w.heap.size ≤ w'.heap.size := by
  obtain ⟨hbel0, hlt, cv, cs, i1, i2, i3, i4⟩ := h0
  have hsz := hb.size
  have hs00 := hbel0.size
  have hbel := hbel0.trans (hb.mono hs00)
  have h1 := (hb.block bk (Array.getElem?_eq_some_iff.1 i1).1).trans i1
  have h2 := own_below hb i2
  have hs0 := hbel.size
  have key : Calls Tryd.prog 16 #[.pointer (some ⟨bk, 0, none⟩), v] w fun e w' => e = .returned (.tuple #[]) ∧ Tookch B w0.heap.size bk kk n v cv (.slice none 0 0) (.slice none 0 0) cs w w' := by
    rcases hv.2 with ⟨rfl, rfl⟩ | ⟨g, cap, cur, rfl, hrest⟩
    · exact bookChange_nil bk B w0.heap.size kk cv _ _ cs w hk hBw hs0 h1 h2
    · exact bookChange_some bk B w0.heap.size kk n g cap xs cv _ _ cs w hk hn hBw hs0 h1 h2 hv
  refine key.mono ?_
  rintro e w' ⟨rfl, ⟨cv', q, t1, t2, t3, t4⟩, told, tos, ttp, tout, tsz⟩
  refine ⟨rfl, ?_, tsz⟩
  have hvB : ∀ b, v.ownBlock = some b → B ≤ b := fun b e => (hv.lt b e).1
  have hcB : ∀ b, cv.ownBlock = some b → w0.heap.size ≤ b := fun b e => (h2.lt b e).1
  have hbel2 : Below w0.heap.size w0 w' := by
    refine ⟨tos.trans hbel.os, ttp.trans hbel.tape, tout.trans hbel.output, by omega, fun b hb0 => ?_⟩
    refine (told b (by omega) (by omega) (fun e => ?_) (fun e => ?_)).trans (hbel.block b hb0)
    · have := hvB b e; omega
    · have := hcB b e; omega
  have oldB : ∀ b, b < wr.heap.size → b ≠ bk → cv.ownBlock ≠ some b → w'.heap[b]? = wr.heap[b]? := fun b hb0 hne hc =>
    (told b (by omega) hne (fun e => by have := hvB b e; omega) hc).trans (hb.block b hb0)
  have hQ : Qs w' cs := by
    refine i4.same (fun q c hc => ?_) (fun b u p xs hx => ?_)
    · refine oldB q (Array.getElem?_eq_some_iff.1 hc).1 (fun e => ?_) (row_far i2 hc (by decide))
      rw [e, i1] at hc
      simp at hc
    · refine row_same hx (fun b' e => oldB b' (hx.lt b' e).2 (fun e2 => row_far hx i1 (by decide) (by rw [e, e2])) (fun e2 => ?_))
      rcases row_apart hx i2 (by decide) with h | h
      · rw [e] at h; cases h
      · exact h (by rw [e, e2])
  refine ⟨hbel2, hlt, cv', cs ++ [.slice (some ⟨q, 0, none⟩) 4 4], t1, t4, by simp [i3], fun i hi => ?_⟩
  by_cases he : i < cs.length
  · obtain ⟨q', n', base', vl', e, hQ', hn'⟩ := hQ i he
    exact ⟨q', n', base', vl', by rw [List.getElem_append_left he]; exact e, hQ', hn'⟩
  · have hi' : i = kk := by simp at hi; omega
    subst hi'
    exact ⟨q, n, B, v, by rw [List.getElem_append_right (by omega)]; simp [i3], t3, hn⟩
theorem Qs.book {w : World} {cs : List Value} (h : Qs w cs) : Bookch w cs := by
  intro i hi
  obtain ⟨q, n, base, vl, e, hQ, hn⟩ := h i hi
  exact ⟨q, e, quad_marked hQ hn⟩

set_option maxHeartbeats 4000000 in
set_option maxRecDepth 100000 in
theorem diffs_any (v1 v2 : Value) (S T : List EntD) (w : World) (h1 : ArgAt w v1 S) (h2 : ArgAt w v2 T) (l1 : S.length ≤ 2000000) (l2 : T.length ≤ 2000000) (s1 : ∀ o ∈ S, o.small) (s2 : ∀ o ∈ T, o.small) :
    Calls Tryd.prog 4 #[v1, v2] w fun e w' => e = .returned (.bool true) ∧ Below w.heap.size w w' := by
  have H1 := hidD h1
  have H2 := hidD h2
  have HS1 := hidD s1
  have HS2 := hidD s2
  have hLL := lstL_len S T
  clear h1 h2 s1 s2
  go_enter Tryd.func4, Tryd.ntmps4
  go_wp2_with fail
  refine (alive_any w).mono ?_
  rintro e w1 ⟨rfl, hb1⟩
  have I0 := hidD (LawInv.start w w1 hb1)
  clear hb1
  go_wp2
  go_loopw [7, 8, 9, 10, 11, 12, 13, 14, 15, 16] (fun k a b c d e f g h i wr => ∃ kk : Nat, kk ≤ 2 ∧ k = .int .i64 kk ∧ LawInv w w1.heap.size kk wr) (fun k _ _ _ _ _ _ _ _ _ _ => 2 - (intOf k).toNat)
  case atStart => exact ⟨0, by omega, rfl, I0.out⟩
  case round =>
    obtain ⟨kk, hkk, rfl, hinv⟩ := hrel
    have HI := hidD hinv
    clear hinv I0
    by_cases hlt : kk < 2
    · go_wp2_with fail
      refine (roomy_u (H1.out.below HI.out.bel (Nat.le_refl _)) l1).mono ?_
      rintro e w2 ⟨x, rfl, px, hb2⟩
      have PX2 := hidD px
      have B2 := hidD hb2
      clear px hb2
      go_wp2_with fail
      refine (roomy_u (H2.out.below (HI.out.bel.trans (B2.out.mono HI.out.bel.size)) (Nat.le_refl _)) l2).mono ?_
      rintro e w3 ⟨y, rfl, py, hb3⟩
      have PX3 := hidD (PX2.out.below hb3)
      have PY3 := hidD py
      have B3 := hidD (B2.out.trans (hb3.mono B2.out.size))
      clear py hb3 PX2 B2
      go_wp2_with fail
      refine (faceDiff (pdiff PX3.out.rm PY3.out.rm l1 l2 HS1.out HS2.out)).mono ?_
      intro e w4 hpost
      obtain ⟨vl, rfl, ho, hb4⟩ := post_one hpost
      clear hpost
      have PX4 := hidD (PX3.out.below hb4)
      have PY4 := hidD (PY3.out.below hb4)
      have O4 := hidD ho
      have hz34 := hb4.size
      have B4 := hidD (B3.out.trans (hb4.mono B3.out.size))
      have hz3 := B3.out.size
      clear ho hb4 PX3 PY3 B3
      go_wp2_with fail
      refine (rdiff (H1.out.below (HI.out.bel.trans (B4.out.mono HI.out.bel.size)) (Nat.le_refl _)).lst (H2.out.below (HI.out.bel.trans (B4.out.mono HI.out.bel.size)) (Nat.le_refl _)).lst l1 l2 HS1.out HS2.out).mono ?_
      intro e w5 hpost
      obtain ⟨vm, rfl, hm, hb5⟩ := post_one hpost
      clear hpost
      have PX5 := hidD (PX4.out.below hb5)
      have PY5 := hidD (PY4.out.below hb5)
      have O5 := hidD (own_below hb5 O4.out)
      have M5 := hidD hm
      have hz45 := hb5.size
      have B5 := hidD (B4.out.trans (hb5.mono B4.out.size))
      clear hm hb5 PX4 PY4 O4 B4
      go_wp2_with fail
      refine (sameCh O5.out M5.out (by omega)).mono ?_
      rintro e w6 ⟨rfl, nn, rfl⟩
      have bd : Below w5.heap.size w5 (w5.drewN nn) := ⟨rfl, rfl, rfl, Nat.le_refl _, fun _ _ => rfl⟩
      have PX6 := hidD (PX5.out.below bd)
      have PY6 := hidD (PY5.out.below bd)
      have O6 := hidD (own_below bd O5.out)
      have B6 := hidD (B5.out.trans (bd.mono B5.out.size))
      have hz56 := bd.size
      generalize w5.drewN nn = w6 at *
      clear bd PX5 PY5 O5 M5 B5
      go_wp2_with fail
      refine (kept_u PX6.out l1).mono ?_
      rintro e w7 ⟨rfl, hb7⟩
      have PY7 := hidD (PY6.out.below hb7)
      have O7 := hidD (own_below hb7 O6.out)
      have B7 := hidD (B6.out.trans (hb7.mono B6.out.size))
      have hz67 := hb7.size
      clear hb7 PX6 PY6 O6 B6
      go_wp2_with fail
      refine (kept_u PY7.out l2).mono ?_
      rintro e w8 ⟨rfl, hb8⟩
      have O8 := hidD (own_below hb8 O7.out)
      have B8 := hidD (B7.out.trans (hb8.mono B7.out.size))
      have hz78 := hb8.size
      clear hb8 PY7 O7 B7
      have hee : (errL S T == errL S T) = true := by simp
      have HBU := hidD (book_u HI.out B8.out hz3 (by omega) (by omega) (by omega) O8.out)
      go_wp2_with (go_at_call 12; refine (num_any _ _).mono ?_; rintro e w' ⟨rfl, rfl⟩)
      refine HBU.out.mono ?_
      rintro e w9 ⟨rfl, hi9, _⟩
      have HI9 := hidD hi9
      clear hi9 HBU HI O8 B8
      go_wp2
      exact ⟨⟨kk + 1, by omega, by go_num, HI9.out⟩, by simp [intOf]; omega⟩
    · have hk2 : kk = 2 := by omega
      subst hk2
      obtain ⟨hbel, hlt2, cv, cs, i1, i2, i3, i4⟩ := HI.out
      obtain ⟨g, cap, hcv, _⟩ := row_some i2 (by omega)
      rw [hcv, ← i3] at i1 i2
      have HK := hidD (looks_ch w1.heap.size w.heap.size g cap cs wr (by omega) i1 i2 i4.book)
      clear i1 i2 i4 hcv
      have HBL := hidD hbel
      clear hbel
      go_wp2_with fail
      refine HK.out.mono ?_
      rintro e w9 ⟨rfl, nn, rfl⟩
      go_wp2
      go_ret
      exact ⟨rfl, HBL.out.trans ⟨rfl, rfl, rfl, Nat.le_refl _, fun _ _ => rfl⟩⟩
end Go.Proofs.YtjaepomjdknieaaDoor
