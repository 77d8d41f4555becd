/- E0, E, F: in one text. -/
import Derived.RangeFuncKeeps
import Derived.RangeFuncCalls
import Derived.RangeFuncLeaves
import Derived.RangeFuncBox
import Derived.Shelf.Abstract
import Derived.Shelf.RegionOpen
import Derived.WalkKit
import Derived.OwnWalkIn
import Derived.TacticsInMore
import Derived.LoopNIn
import Derived.LoopIn
import Derived.Test.YtpjjagalekolaaaGreatDoorP02S
import Derived.Test.YtpjjagalekolaaaGreatDoorP00
import Derived.Test.YtpjjagalekolaaaGreatDoorP03D
import Derived.Test.YtpjjagalekolaaaGreatDoorP04Shelf
/- The program's test of a path: a loop over strings.SplitSeq, whose iterator keeps what is left in a variable of its own. -/
namespace Go.Proofs.YtpjjagalekolaaaGreatDoor
open Go.RowKit Go.Shelf
attribute [local go_sem] Oper.semAt_some

def strSize (w : World) (b : Nat) : Nat := match w.cell? ⟨b, 0, none⟩ with
  | some (.string s) => s.size
  | _ => 0

/-- What a round that goes on leaves to the iterator: its three variables. -/
structure Held (Bp Bs Bv : Nat) (rest : ByteArray) (W : World) : Prop where
  sep : W.cell? ⟨Bp, 0, none⟩ = some (.string ⟨#[47]⟩)
  str : W.cell? ⟨Bs, 0, none⟩ = some (.string rest)
  soft : W.frozen? ⟨Bs, 0, none⟩ = false
  zero : W.cell? ⟨Bv, 0, none⟩ = some (.int .i64 0)

set_option maxRecDepth 100000 in
set_option maxHeartbeats 2000000 in
theorem seq_in (n l Bp Bs Bv : Nat) (hps : Bp ≠ Bs) (hvs : Bv ≠ Bs) (s : ByteArray) (hs : s.size ≤ 1500000) (J Jx : List ByteArray → World → Prop)
    (hJ : ∀ pre W v, J pre W → J pre (W.setCell ⟨Bs, 0, none⟩ v))
    (hY : ∀ pre x W rest, J pre W → Held Bp Bs Bv rest W → x.size ≤ s.size → YieldAt Fence.wide (n - 1) Tryz.prog l #[.string x] W fun e W' =>
      (e = .returned (.bool true) ∧ J (pre ++ [x]) W' ∧ Held Bp Bs Bv rest W') ∨ (e = .returned (.bool false) ∧ Jx (pre ++ [x]) W'))
    (W : World) (hH : Held Bp Bs Bv s W) (h0 : J [] W) :
    CallsIn Fence.wide n Tryz.prog 220 #[.func (.yield l) #[] #[], .pointer (some ⟨Bp, 0, none⟩), .pointer (some ⟨Bs, 0, none⟩), .pointer (some ⟨Bv, 0, none⟩)] W fun e W' => (∃ v, e = .returned v) ∧
      ((∃ out : List ByteArray, out.map (·.data.toList) = spl s.data.toList ∧ J out W') ∨ (∃ pre more : List ByteArray, (pre ++ more).map (·.data.toList) = spl s.data.toList ∧ Jx pre W')) := by
  refine callsIn_of_wp Tryz.func220 rfl trivial ?_ rfl
  simp only [Tryz.ntmps220, List.size_toArray, List.length_cons, List.length_nil, Nat.reduceAdd, Nat.reduceSub, Array.replicate_succ, Array.replicate_zero, List.push_toArray, List.append_toArray, List.nil_append, List.cons_append]
  obtain ⟨hc1, hc2, hc3, hc4⟩ := hH
  gi_wp2
  gi_loopw [7] (fun _ wr => ∃ (pre : List ByteArray) (rest : ByteArray), pre.map (·.data.toList) ++ spl rest.data.toList = spl s.data.toList ∧ rest.size ≤ s.size ∧ J pre wr ∧ Held Bp Bs Bv rest wr) (fun _ wr => strSize wr Bs)
  case atStart => exact ⟨[], s, rfl, Nat.le_refl _, h0, hc1, hc2, hc3, hc4⟩
  case round =>
    clear hc1 hc2 hc3 hc4 h0
    obtain ⟨pre, rest, hsp, hsz, hj, hh⟩ := hrel
    have hh' := hh
    obtain ⟨hc1, hc2, hc3, hc4⟩ := hh
    rcases indexByte_split rest.data.toList 47 with ⟨hi, hn⟩ | ⟨i, hi, hlt, hl, hn⟩
    · obtain ⟨fn, tmps, assign, body, hy, hR⟩ := hY pre rest wr rest hj hh' hsz
      have HS : Hid (pre.map (·.data.toList) ++ [rest.data.toList] = spl s.data.toList) := by rw [← hsp, spl_none _ hn]; exact rfl
      clear hsp hn
      gi_wp2_with (refine ⟨trivial, fun h => absurd h (by decide), ?_⟩; gi_at_call 222; refine (callsIn_wide.2 (Tryz.strings_Index_one rest 47 _)).mono ?_; rintro e w' ⟨rfl, rfl⟩)
      refine ⟨fun h => absurd h (by decide), hR.mono ?_⟩
      rintro e W3 (⟨rfl, hJ3, _⟩ | ⟨rfl, hJx3⟩)
      · gi_wp2
        go_end0
        exact ⟨⟨_, rfl⟩, .inl ⟨pre ++ [rest], by simpa using HS.out, hJ3⟩⟩
      · gi_wp2
        go_end0
        exact ⟨⟨_, rfl⟩, .inr ⟨pre ++ [rest], [], by simpa using HS.out, hJx3⟩⟩
    · have hxl : (rest.extract 0 i).data.toList = rest.data.toList.take i := by simp
      have hrl : (rest.extract (i + 1) rest.size).data.toList = rest.data.toList.drop (i + 1) := by simp; exact List.take_of_length_le (by simp)
      have hlt' : i < rest.size := by simpa using hlt
      obtain ⟨fn, tmps, assign, body, hy, hR⟩ := hY pre (rest.extract 0 i) wr rest hj hh' (by simp; omega)
      have HS : Hid (pre.map (·.data.toList) ++ ((rest.extract 0 i).data.toList :: spl (rest.extract (i + 1) rest.size).data.toList) = spl s.data.toList) := by
        rw [← hsp, hxl, hrl, ← spl_cut _ _ hn, ← hl]; exact rfl
      have hz : (rest.extract (i + 1) rest.size).size < rest.size := by simp; omega
      clear hsp hn hl hxl hrl hlt
      gi_wp2_with (refine ⟨trivial, fun h => absurd h (by decide), ?_⟩; gi_at_call 222; refine (callsIn_wide.2 (Tryz.strings_Index_one rest 47 _)).mono ?_; rintro e w' ⟨rfl, rfl⟩)
      refine ⟨fun h => absurd h (by decide), hR.mono ?_⟩
      rintro e W3 (⟨rfl, hJ3, hH3⟩ | ⟨rfl, hJx3⟩)
      · clear hc1 hc2 hc3 hc4 hy hR
        obtain ⟨hc1, hc2, hc3, hc4⟩ := hH3
        gi_wp2
        go_roundw
        case rel =>
          refine ⟨pre ++ [rest.extract 0 i], rest.extract (i + 1) rest.size, ?_, by omega, hJ _ _ _ hJ3, ?_, ?_, ?_, ?_⟩
          · have := HS.out; simpa using this
          · exact (World.cell?_setCell_other _ _ _ _ (by simp)).trans hc1
          · exact World.cell?_setCell_same' _ _ _ (by rw [hc2]; rfl)
          · rw [World.frozen?_setCell]; exact hc3
          · exact (World.cell?_setCell_other _ _ _ _ (by simp)).trans hc4
        case measure =>
          have e1 : strSize (W3.setCell ⟨Bs, 0, none⟩ (.string (rest.extract (i + 1) rest.size))) Bs = (rest.extract (i + 1) rest.size).size := by
            unfold strSize; rw [World.cell?_setCell_same' _ _ _ (by rw [hc2]; rfl)]
          have e2 : strSize w' Bs = rest.size := by
            unfold strSize; rw [hh'.str]
          rw [e1, e2]; exact hz
      · gi_wp2
        refine bodyPost_ret (results_none rfl _ _ _) rfl ?_
        refine ⟨⟨_, rfl⟩, .inr ⟨pre ++ [rest.extract 0 i], ?_, ?_, hJx3⟩⟩
        · exact (spl (rest.extract (i + 1) rest.size).data.toList).map (fun x => ⟨x.toArray⟩)
        · rw [← HS.out]; simp [Function.comp_def]

def boxes (w : World) (s sep : ByteArray) (k : Int) : World := ((w.alloc (.cells #[.string s] 9)).alloc (.cells #[.string sep] 9)).alloc (.cells #[.int .i64 k] 3)
def seqOf (n : Nat) : Value := .func (.func 220) #[] #[.pointer (some ⟨n + 1, 0, none⟩), .pointer (some ⟨n, 0, none⟩), .pointer (some ⟨n + 1 + 1, 0, none⟩)]

set_option maxHeartbeats 1000000 in
theorem splitSeq_in (s sep : ByteArray) (k : Int) (w : World) :
    Calls Tryz.prog 205 #[.string s, .string sep, .int .i64 k] w fun e w' => e = .returned (seqOf w.heap.size) ∧ w' = boxes w s sep k := by
  go_enter Tryz.func205, Tryz.ntmps205
  go_wp2
  go_ret
  exact ⟨rfl, rfl⟩

set_option maxHeartbeats 1000000 in
theorem SplitSeq_in (s sep : ByteArray) (w : World) :
    Calls Tryz.prog 179 #[.string s, .string sep] w fun e w' => e = .returned (seqOf w.heap.size) ∧ w' = boxes w s sep 0 := by
  go_enter Tryz.func179, Tryz.ntmps179
  go_wp2_with (go_at_call 205; refine (splitSeq_in _ _ _ _).mono ?_; rintro e w' ⟨rfl, rfl⟩)
  go_ret
  exact ⟨rfl, rfl⟩

def nmL (p : List UInt8) : Bool := isNm ⟨p.toArray⟩
def pathL (l : List UInt8) : Bool := decide ((spl l).length ≤ 6) && (spl l).all nmL
theorem all_nm (out : List ByteArray) (l : List UInt8) (h : out.map (·.data.toList) = spl l) : (spl l).all nmL = out.all isNm := by
  rw [← h, List.all_map]
  congr 1

/-- What lies behind the call's beginning: the result, the depth, the block of deferred calls, the loop's record. -/
structure At (w : World) (d : Int) (lo : Obj) (W : World) : Prop where
  bel : Below w.heap.size w W
  res : Boxed W w.heap.size 4 (.bool false)
  dep : Boxed W (w.heap.size + 1) 3 (.int .i64 d)
  dfr : W.heap[w.heap.size + 1 + 1 + 1 + 1 + 1]? = some (.deferred (some []))
  lop : W.heap[w.heap.size + 1 + 1 + 1 + 1 + 1 + 1]? = some lo

theorem At.other {w W W' : World} {d : Int} {lo : Obj} {r : Nat} (h : At w d lo W) (hg : W.grownBy W' (some r)) (h2 : w.heap.size + 2 ≤ r) (h4 : r ≤ w.heap.size + 4) : At w d lo W' where
  bel := h.bel.grown hg h.bel.size (fun k e => by cases e; omega)
  res := h.res.kept hg (by simp; omega)
  dep := h.dep.kept hg (by simp; omega)
  dfr := (hg.block _ (Array.getElem?_eq_some_iff.1 h.dfr).1 (by simp; omega)).trans h.dfr
  lop := (hg.block _ (Array.getElem?_eq_some_iff.1 h.lop).1 (by simp; omega)).trans h.lop
theorem At.loop {w W : World} {d : Int} {lo : Obj} (h : At w d lo W) (lo' : Obj) : At w d lo' (W.putObj (w.heap.size + 1 + 1 + 1 + 1 + 1 + 1) lo') where
  bel := h.bel.grown (grownBy_putObj' W _ lo') h.bel.size (fun k e => by cases e; omega)
  res := h.res.kept (grownBy_putObj' W _ lo') (by simp; omega)
  dep := h.dep.kept (grownBy_putObj' W _ lo') (by simp)
  dfr := ((grownBy_putObj' W _ lo').block _ (Array.getElem?_eq_some_iff.1 h.dfr).1 (by simp)).trans h.dfr
  lop := World.putObj_heap_same (Array.getElem?_eq_some_iff.1 h.lop).1
theorem At.depth {w W : World} {d : Int} {lo : Obj} (h : At w d lo W) (d' : Int) : At w d' lo (W.setCell ⟨w.heap.size + 1, 0, none⟩ (.int .i64 d')) where
  bel := h.bel.setCell (by simp) _
  res := h.res.kept (grownBy_setCell' W _ _) (by simp)
  dep := h.dep.set _
  dfr := ((grownBy_setCell' W _ _).block _ (Array.getElem?_eq_some_iff.1 h.dfr).1 (by simp; omega)).trans h.dfr
  lop := ((grownBy_setCell' W _ _).block _ (Array.getElem?_eq_some_iff.1 h.lop).1 (by simp; omega)).trans h.lop
theorem At.result {w W : World} {d : Int} {lo : Obj} (h : At w d lo W) : At w d lo (W.setCell ⟨w.heap.size, 0, none⟩ (.bool false)) where
  bel := h.bel.setCell (by simp) _
  res := h.res.set _
  dep := h.dep.kept (grownBy_setCell' W _ _) (by simp)
  dfr := ((grownBy_setCell' W _ _).block _ (Array.getElem?_eq_some_iff.1 h.dfr).1 (by simp; omega)).trans h.dfr
  lop := ((grownBy_setCell' W _ _).block _ (Array.getElem?_eq_some_iff.1 h.lop).1 (by simp; omega)).trans h.lop

theorem Held.kept {Bp Bs Bv : Nat} {rest : ByteArray} {W W' : World} {r : Nat} (h : Held Bp Bs Bv rest W) (hg : W.grownBy W' (some r)) (h1 : Bp ≠ r) (h2 : Bs ≠ r) (h3 : Bv ≠ r) : Held Bp Bs Bv rest W' := by
  have lt : ∀ {b : Nat} {v : Value}, W.cell? ⟨b, 0, none⟩ = some v → b < W.heap.size := fun h => by
    obtain ⟨o, ho, _⟩ := cells_of_cell h
    exact (Array.getElem?_eq_some_iff.1 ho).1
  have keep : ∀ {b : Nat} {v : Value}, W.cell? ⟨b, 0, none⟩ = some v → b ≠ r → W'.heap[b]? = W.heap[b]? := fun h hr => hg.block _ (lt h) (by simpa using hr)
  exact ⟨(World.cell?_of_block (keep h.sep h1)).trans h.sep, (World.cell?_of_block (keep h.str h2)).trans h.str, (World.frozen?_of_block (keep h.str h2)).trans h.soft, (World.cell?_of_block (keep h.zero h3)).trans h.zero⟩

/-- How a round of IsPath may end: the depth is counted up; or besides the answer is no. -/
def pathPost (w : World) (pre : List ByteArray) (x : ByteArray) (W : World) : Exit → Act → World → Prop
  | .normal, _, W' => W' = W.setCell ⟨w.heap.size + 1, 0, none⟩ (.int .i64 ((pre.length : Int) + 1)) ∧ (pre ++ [x]).length ≤ 6 ∧ (pre ++ [x]).all isNm = true
  | .ret, _, W' => W' = (W.setCell ⟨w.heap.size + 1, 0, none⟩ (.int .i64 ((pre.length : Int) + 1))).setCell ⟨w.heap.size, 0, none⟩ (.bool false) ∧ (6 < (pre ++ [x]).length ∨ (pre ++ [x]).all isNm = false)
  | _, _, _ => False

theorem range_path {assign body : Code} {Q : Exit → Act → World → Prop} {a : Act} (w w0 : World) (s : ByteArray) (hs : s.size ≤ 1500000) (hw0 : w0 = boxes ((w.alloc (.cells #[.bool false] 4)).alloc (.cells #[.int .i64 0] 3)) s ⟨#[47]⟩ 0)
    (hg : a.eval (.tmp 6) = seqOf (w.heap.size + 1 + 1)) (a₁ : ByteArray → Act)
    (hassign : ∀ (l : Nat) (x : ByteArray) (W : World) (K : Act → World → Prop), K (a₁ x) W → assign.wpIn (Fence.wide.inRound l) 1 Tryz.prog (Exit.then K (fun _ _ _ => False)) { tmps := (#[7].zip #[Value.string x]).foldl (fun t (p, v) => t.setIfInBounds p v) a.tmps, defers := [] } W)
    (hbody : ∀ (l : Nat) (pre : List ByteArray) (x : ByteArray) (lo : Obj) (W : World), At w pre.length lo W → pre.length ≤ 6 → pre.all isNm = true → x.size ≤ s.size → body.wpIn (Fence.wide.inRound l) 1 Tryz.prog (pathPost w pre x W) (a₁ x) W)
    (hdone : ∀ (d : Int) (lo : Obj) (W : World), pathL s.data.toList = true → At w d lo W → Q .normal { a with defers := { target := .collected (w.heap.size + 1 + 1 + 1 + 1 + 1), args := #[] } :: a.defers } W)
    (hstop : ∀ (d : Int) (lo : Obj) (W : World), pathL s.data.toList = false → At w d lo W → Code.ret.wpIn Fence.wide 3 Tryz.prog Q { a with defers := { target := .collected (w.heap.size + 1 + 1 + 1 + 1 + 1), args := #[] } :: a.defers } W) :
    (Code.rangeFunc (.tmp 6) #[7] assign body).wpIn Fence.wide 3 Tryz.prog Q a w0 := by
  refine wpIn_rangeFunc ?_
  intro fn hfn
  have hz : w0.heap.size = w.heap.size + 1 + 1 + 1 + 1 + 1 := by rw [hw0]; simp [boxes]
  obtain ⟨lp, hlp⟩ : ∃ lp : LoopState → Option Code → Loop, lp = fun st pe => { state := st, pending := pe, fn, tmps := a.tmps, params := #[7], assign, body, defers := w0.heap.size } := ⟨_, rfl⟩
  obtain ⟨W1, hW1⟩ : ∃ W1, (w0.alloc (.deferred (some []))).alloc (.loop (lp .ready none)) = W1 := ⟨_, rfl⟩
  have b0 : Boxed (w.alloc (.cells #[.bool false] 4)) w.heap.size 4 (.bool false) := Boxed.new w 4 _
  have b1 : Boxed ((w.alloc (.cells #[.bool false] 4)).alloc (.cells #[.int .i64 0] 3)) (w.heap.size + 1) 3 (.int .i64 0) := by
    have := Boxed.new (w.alloc (.cells #[.bool false] 4)) 3 (.int .i64 0); rwa [World.size_alloc] at this
  obtain ⟨u, hu⟩ : ∃ u, (w.alloc (.cells #[.bool false] 4)).alloc (.cells #[.int .i64 0] 3) = u := ⟨_, rfl⟩
  have hb : Below w.heap.size w u := by rw [← hu]; exact ((Below.refl _ w).alloc (Nat.le_refl _) _).alloc (by simp) _
  have c0 : Boxed u w.heap.size 4 (.bool false) := by rw [← hu]; exact b0.alloc _
  rw [hu] at b1 hw0
  have uz : u.heap.size = w.heap.size + 1 + 1 := by rw [← hu]; simp
  have b2 : Boxed (u.alloc (.cells #[.string s] 9)) (w.heap.size + 1 + 1) 9 (.string s) := by rw [← uz]; exact Boxed.new u 9 _
  have b3 : Boxed ((u.alloc (.cells #[.string s] 9)).alloc (.cells #[.string ⟨#[47]⟩] 9)) (w.heap.size + 1 + 1 + 1) 9 (.string ⟨#[47]⟩) := by
    have := Boxed.new (u.alloc (.cells #[.string s] 9)) 9 (.string ⟨#[47]⟩); rwa [World.size_alloc, uz] at this
  have b4 : Boxed w0 (w.heap.size + 1 + 1 + 1 + 1) 3 (.int .i64 0) := by
    rw [hw0]; have := Boxed.new ((u.alloc (.cells #[.string s] 9)).alloc (.cells #[.string ⟨#[47]⟩] 9)) 3 (.int .i64 0); rwa [World.size_alloc, World.size_alloc, uz] at this
  have d2 : Boxed w0 (w.heap.size + 1 + 1) 9 (.string s) := by rw [hw0]; exact (b2.alloc _).alloc _
  have d3 : Boxed w0 (w.heap.size + 1 + 1 + 1) 9 (.string ⟨#[47]⟩) := by rw [hw0]; exact b3.alloc _
  have d0 : Boxed w0 w.heap.size 4 (.bool false) := by rw [hw0]; exact ((c0.alloc _).alloc _).alloc _
  have d1 : Boxed w0 (w.heap.size + 1) 3 (.int .i64 0) := by rw [hw0]; exact ((b1.alloc _).alloc _).alloc _
  have hb0 : Below w.heap.size w w0 := by rw [hw0]; exact ((hb.alloc (by omega) _).alloc (by simp; omega) _).alloc (by simp; omega) _
  have hHeld : Held (w.heap.size + 1 + 1 + 1) (w.heap.size + 1 + 1) (w.heap.size + 1 + 1 + 1 + 1) s W1 := by
    rw [← hW1]
    exact ⟨((d3.alloc _).alloc _).cell, ((d2.alloc _).alloc _).cell, ((d2.alloc _).alloc _).frozen, ((b4.alloc _).alloc _).cell⟩
  have hAt : At w 0 (.loop (lp .ready none)) W1 := by
    rw [← hW1]
    refine ⟨(hb0.alloc (by omega) _).alloc (by simp; omega) _, (d0.alloc _).alloc _, (d1.alloc _).alloc _, ?_, ?_⟩
    · rw [← hz]; exact (Below.heap_alloc _ _ _ (by simp)).trans (World.alloc_heap_new w0 _)
    · rw [← hz]; have := World.alloc_heap_new (w0.alloc (.deferred (some []))) (.loop (lp .ready none)); rwa [World.size_alloc] at this
  have hrun : ∀ st pe, (lp st pe).fn = fn ∧ (lp st pe).tmps = a.tmps ∧ (lp st pe).params = #[7] ∧ (lp st pe).assign = assign ∧ (lp st pe).body = body ∧ (lp st pe).state = st ∧ (lp st pe).pending = pe := by rw [hlp]; intros; exact ⟨rfl, rfl, rfl, rfl, rfl, rfl, rfl⟩
  refine ⟨w0.heap.size + 1, [{ target := .collected w0.heap.size, args := #[] }], W1, { target := .fn (.func 220) #[.pointer (some ⟨w.heap.size + 1 + 1 + 1, 0, none⟩), .pointer (some ⟨w.heap.size + 1 + 1, 0, none⟩), .pointer (some ⟨w.heap.size + 1 + 1 + 1 + 1, 0, none⟩)], args := #[.func (.yield (w0.heap.size + 1)) #[] #[]] }, W1, 220,
    #[.func (.yield (w0.heap.size + 1)) #[] #[], .pointer (some ⟨w.heap.size + 1 + 1 + 1, 0, none⟩), .pointer (some ⟨w.heap.size + 1 + 1, 0, none⟩), .pointer (some ⟨w.heap.size + 1 + 1 + 1 + 1, 0, none⟩)], W1, ?_, ?_, fun _ _ => trivial, ?_, fun _ => by omega, ?_⟩
  · rw [← hW1, hlp]; exact run_enterLoop_outer _ _ _ _ _
  · simp only [resolve, hg, seqOf]
    simp [go_sem]
  · simp [invoke, go_sem]
  · rw [hz]
    refine (seq_in 2 (w.heap.size + 1 + 1 + 1 + 1 + 1 + 1) (w.heap.size + 1 + 1 + 1) (w.heap.size + 1 + 1) (w.heap.size + 1 + 1 + 1 + 1) (by omega) (by omega) s hs
      (fun pre W => At w pre.length (.loop (lp .ready none)) W ∧ pre.length ≤ 6 ∧ pre.all isNm = true)
      (fun pre W => ∃ d, At w d (.loop (lp .done (some .ret))) W ∧ (6 < pre.length ∨ pre.all isNm = false))
      (fun pre W v h => ⟨h.1.other (grownBy_setCell' W _ v) (by omega) (by omega), h.2⟩) ?_ W1 hHeld ⟨hAt, by simp, rfl⟩).mono ?_
    · rintro pre x W rest ⟨hA, h6, hall⟩ hH hx
      have hy := run_yield (P := Tryz.prog) (args := #[.string x]) hA.lop (by rw [(hrun _ _).2.2.1]; rfl)
      rw [(hrun _ _).1, (hrun _ _).2.1, (hrun _ _).2.2.1, (hrun _ _).2.2.2.1, (hrun _ _).2.2.2.2.1] at hy
      refine ⟨fn, _, assign, body, hy, roundIn_of_wpIn hfn (hassign _ x W _ ?_)⟩
      refine ⟨_, run_beginRound hA.lop (hrun _ _).2.2.2.2.2.1, ?_⟩
      refine wpIn_mono (hbody _ pre x _ _ (hA.loop _) h6 hall hx) ?_
      have hA2 := hA.loop (.loop { lp .ready none with state := .busy })
      have hH2 := hH.kept (grownBy_putObj' W (w.heap.size + 1 + 1 + 1 + 1 + 1 + 1) (.loop { lp .ready none with state := .busy })) (by omega) (by omega) (by omega)
      rintro e a3 W3 hp
      subst hlp
      cases e with
      | normal =>
        obtain ⟨rfl, hg6, hgall⟩ := hp
        have hA3 := hA2.depth ((pre.length : Int) + 1)
        have hH3 := (hH2.kept (grownBy_setCell' _ (w.heap.size + 1) (.int .i64 ((pre.length : Int) + 1))) (by omega) (by omega) (by omega))
        refine ⟨_, _, run_endRound none hA3.lop, .inl ⟨rfl, ⟨?_, hg6, hgall⟩, ?_⟩⟩
        · have e : ((pre ++ [x]).length : Int) = (pre.length : Int) + 1 := by simp
          rw [e]; exact hA3.loop _
        · exact hH3.kept (grownBy_putObj' _ _ _) (by omega) (by omega) (by omega)
      | ret =>
        obtain ⟨rfl, hbad⟩ := hp
        have hA3 := (hA2.depth ((pre.length : Int) + 1)).result
        refine ⟨_, _, run_endRound (some .ret) hA3.lop, .inr ⟨rfl, (pre.length : Int) + 1, ?_, hbad⟩⟩
        exact hA3.loop _
      | exit id => exact hp.elim
      | goto t => exact hp.elim
      | panic ch => exact hp.elim
      | outgrown => exact hp.elim
    · rintro e W2 ⟨⟨v, rfl⟩, (⟨out, hmap, hA, h6, hall⟩ | ⟨pre, more, hmap, d, hA, hbad⟩)⟩
      · have hp : pathL s.data.toList = true := by
          rw [pathL, all_nm out _ hmap, hall, ← hmap, List.length_map]; simpa using h6
        have hend := run_endLoop (P := Tryz.prog) hA.lop (by rw [(hrun _ _).2.2.2.2.2.1]; simp)
        rw [(hrun _ _).2.2.2.2.2.2] at hend
        exact ⟨none, _, hend, hdone _ _ _ hp (hA.loop _)⟩
      · have hp : pathL s.data.toList = false := by
          rw [pathL, all_nm _ _ hmap, ← hmap, List.length_map]
          rcases hbad with hb | hb
          · simp; omega
          · simp only [List.all_append, hb]; simp
        have hend := run_endLoop (P := Tryz.prog) hA.lop (by rw [(hrun _ _).2.2.2.2.2.1]; simp)
        rw [(hrun _ _).2.2.2.2.2.2] at hend
        exact ⟨some .ret, _, hend, hstop _ _ _ hp (hA.loop _)⟩

set_option maxRecDepth 100000 in
set_option maxHeartbeats 2000000 in
theorem isPath_in (s : ByteArray) (w : World) (hs : s.size ≤ 1500000) :
    Calls Tryz.prog 138 #[.string s] w fun e w' => e = .returned (.bool (pathL s.data.toList)) ∧ Below w.heap.size w w' := by
  refine (callsIn_wide (n := 3)).1 ?_
  refine callsIn_of_wp_marks Tryz.func138 rfl trivial ?_ rfl
  simp only [Tryz.ntmps138, List.size_toArray, List.length_cons, List.length_nil, Nat.reduceAdd, Nat.reduceSub, Array.replicate_succ, Array.replicate_zero, List.push_toArray, List.append_toArray, List.nil_append, List.cons_append]
  gi_wp2_with (refine ⟨trivial, ?_⟩; gi_at_call 179; refine (callsIn_wide.2 (SplitSeq_in s ⟨#[47]⟩ _)).mono ?_; rintro e w' ⟨rfl, rfl⟩)
  refine range_path w _ s hs rfl rfl (fun x => { tmps := #[.string s, undef, .pointer (some ⟨w.heap.size, 0, none⟩), .pointer (some ⟨w.heap.size + 1, 0, none⟩), .string x, .string s, seqOf (w.heap.size + 1 + 1), .string x, undef, undef, undef, undef, undef, undef, undef, undef, undef], defers := [] }) ?assign ?body ?done ?stop
  case assign =>
    intro l x W K hK
    gi_wp2
    exact hK
  case body =>
    intro l pre x lo W hA h6 hall hx
    have hc1 := hA.dep.cell
    have hc2 := hA.dep.frozen
    have hc3 := hA.res.cell
    have hc4 := hA.res.frozen
    gi_wp2_with (refine ⟨trivial, ?_⟩; gi_at_call 180; refine (CallsIn.inRound l (callsIn_wide.2 (isName_any x _ (by omega)))).mono ?_; rintro e w' ⟨rfl, rfl⟩)
    · rename_i h1 h2
      refine ⟨rfl, .inr ?_⟩
      have : isNm x = false := by rcases h2 with h | h; · omega
                                  · simpa using h
      simp [this]
    · rename_i h1 h2
      refine ⟨rfl, by simp; omega, ?_⟩
      have : isNm x = true := by simpa using h2.2
      simp [this]; simpa using hall
    · rename_i h1
      refine ⟨trivial, ?_⟩
      gi_wp2
      exact ⟨rfl, .inl (by simp; omega)⟩
  case done =>
    intro d lo W hp hA
    have hc3 := hA.res.cell
    have hc4 := hA.res.frozen
    gi_wp2
    have hK : (W.setCell ⟨w.heap.size, 0, none⟩ (.bool true)).heap[w.heap.size + 1 + 1 + 1 + 1 + 1]? = some (.deferred (some [])) := ((grownBy_setCell' W _ _).block _ (Array.getElem?_eq_some_iff.1 hA.dfr).1 (by simp; omega)).trans hA.dfr
    refine ⟨by simp, .inl ⟨_, _, rfl, run_takeDeferred hK, ?_⟩⟩
    have hc5 := ((hA.res.set (.bool true)).kept (grownBy_putObj' _ (w.heap.size + 1 + 1 + 1 + 1 + 1) (.deferred none)) (by simp; omega)).cell
    refine ⟨.bool true, ?_, by rw [hp], ?_⟩
    · simp [results, Tryz.f138, go_sem, hc5]
    · exact (hA.bel.setCell (by simp) _).grown (grownBy_putObj' _ _ _) (by have := hA.bel.size; simp [World.setCell]; omega) (fun k e => by cases e; omega)
  case stop =>
    intro d lo W hp hA
    have hc3 := hA.res.cell
    have hc4 := hA.res.frozen
    gi_wp2
    refine ⟨by simp, .inl ⟨_, _, rfl, run_takeDeferred hA.dfr, ?_⟩⟩
    have hc5 := (hA.res.kept (grownBy_putObj' _ (w.heap.size + 1 + 1 + 1 + 1 + 1) (.deferred none)) (by simp; omega)).cell
    refine ⟨.bool false, ?_, by rw [hp], ?_⟩
    · simp [results, Tryz.f138, go_sem, hc5]
    · exact hA.bel.grown (grownBy_putObj' _ _ _) hA.bel.size (fun k e => by cases e; omega)
end Go.Proofs.YtpjjagalekolaaaGreatDoor

/- Paths: the program's and the reference's tests of a path. -/
namespace Go.Proofs.YtpjjagalekolaaaGreatDoor
open Go.RowKit

theorem eta (s : ByteArray) : (⟨s.data.toList.toArray⟩ : ByteArray) = s := by simp
/-- A row of strings that the call has made, written out. -/
def StrRow (w : World) (B g : Nat) (out : List ByteArray) : Prop := B ≤ g ∧ g < w.heap.size ∧ ∀ (j : Nat) (h : j < out.length), w.cell? ⟨g, j, none⟩ = some (.string out[j])

theorem names_row (s : ByteArray) (w : World) (hs : s.size ≤ 2000000) :
    Calls Tryz.prog 114 #[.string s] w fun e w' => ∃ g cap out, e = .returned (.slice (some ⟨g, 0, none⟩) (out : List ByteArray).length cap) ∧ StrRow w' w.heap.size g out ∧ out.map (·.data.toList) = spl s.data.toList ∧ Below w.heap.size w w' := by
  refine (names_any s w hs).mono ?_
  rintro e w' ⟨v, out, rfl, hown, hmap, hb⟩
  have hpos : 1 ≤ out.length := by have := spl_pos s.data.toList; rw [← hmap] at this; simpa using this
  obtain ⟨hlen, h2⟩ := hown
  rcases h2 with ⟨rfl, h0⟩ | ⟨g, cap, cur, rfl, hbg, hg, hn, hm, hsz, htake⟩
  · omega
  · refine ⟨g, cap, out, rfl, ⟨hbg, (Array.getElem?_eq_some_iff.1 hg).1, fun j hj => ?_⟩, hmap, hb⟩
    have e1 : (cur.toList.take (out.length * 1))[j]? = some (.string out[j]) := by rw [htake]; simp [hj]
    rw [List.getElem?_take, if_pos (by omega)] at e1
    simp only [World.cell?, hg]
    simpa using e1

theorem take_all_snoc (out : List ByteArray) (k : Nat) (h : k < out.length) : (out.take (k + 1)).all isNm = ((out.take k).all isNm && isNm out[k]) := by
  rw [List.take_succ_eq_append_getElem h, List.all_append, List.all_cons, List.all_nil, Bool.and_true]
theorem all_bad (out : List ByteArray) (k : Nat) (h : k < out.length) (hb : isNm out[k] = false) : out.all isNm = false := by
  cases hc : out.all isNm
  · rfl
  · rw [List.all_eq_true] at hc
    have := hc out[k] (List.getElem_mem h)
    rw [hb] at this; cases this

theorem pieces_small (out : List ByteArray) (l : List UInt8) (h : out.map (·.data.toList) = spl l) (hl : l.length ≤ 2000000) : ∀ (k : Nat) (hk : k < out.length), out[k].size ≤ 2000000 := by
  intro k hk
  have hsum : ∀ (l : List UInt8) (st : List (List UInt8) × List UInt8) (n : Nat), (∀ p ∈ st.1, p.length ≤ n) → st.2.length ≤ n → (∀ p ∈ (l.foldl splStep st).1, p.length ≤ n + l.length) ∧ (l.foldl splStep st).2.length ≤ n + l.length := by
    intro l
    induction l with
    | nil => intro st n h1 h2; exact ⟨by simpa using h1, by simpa using h2⟩
    | cons c l ih =>
      intro st n h1 h2
      have := ih (splStep st c) (n + 1) (by
        intro p hp
        unfold splStep at hp
        split at hp
        · simp at hp; rcases hp with hp | rfl
          · have := h1 p hp; omega
          · omega
        · have := h1 p hp; omega) (by unfold splStep; split <;> simp; omega)
      simp only [List.foldl_cons, List.length_cons]
      refine ⟨fun p hp => by have := this.1 p hp; omega, by omega⟩
  have h1 := hsum l ([], []) 0 (by simp) (by simp)
  have hmem : out[k].data.toList ∈ spl l := by rw [← h]; exact List.mem_map.2 ⟨_, List.getElem_mem hk, rfl⟩
  unfold spl splSt at hmem
  simp only [List.mem_append, List.mem_singleton] at hmem
  have hsz := lenD out[k]
  rcases hmem with hm | hm
  · have := h1.1 _ hm; omega
  · rw [hm] at hsz; omega

set_option maxHeartbeats 1000000 in
theorem refPath_any (s : ByteArray) (w : World) (hs : s.size ≤ 1500000) :
    Calls Tryz.prog 107 #[.string s] w fun e w' => e = .returned (.bool (pathL s.data.toList)) ∧ Below w.heap.size w w' := by
  go_enter Tryz.func107, Tryz.ntmps107
  go_wp2_with (go_at_call 114; refine (names_row _ _ (by omega)).mono ?_; rintro e w1 ⟨g, cap, out, rfl, hrow, hmap, hb⟩)
  have hol : out.length ≤ 1500001 := by
    have h1 := spl_length_le s.data.toList
    rw [← hmap, List.length_map, lenD] at h1
    omega
  have HM : Hid (out.map (·.data.toList) = spl s.data.toList) := hmap
  have HR : Hid (StrRow w1 w.heap.size g out) := hrow
  clear hmap hrow
  go_loop [4] (fun i => ∃ k : Nat, k ≤ out.length ∧ i = .int .i64 k ∧ (out.take k).all isNm = true) (fun i => out.length - (intOf i).toNat)
  case atStart => exact ⟨0, Nat.zero_le _, rfl, rfl⟩
  case round =>
    obtain ⟨k, hk, rfl, hd⟩ := hrel
    have HD : Hid ((out.take k).all isNm = true) := hd
    clear hd
    by_cases hlt : k < out.length
    · have hcell := HR.out.2.2 k hlt
      have hsz := pieces_small out _ HM.out (by rw [lenD]; omega) k hlt
      have HSN : Hid ((out.take (k + 1)).all isNm = ((out.take k).all isNm && isNm out[k])) := take_all_snoc out k hlt
      have HBD : Hid (isNm out[k] = false → out.all isNm = false) := fun h => all_bad out k hlt h
      generalize out[k] = nm at *
      by_cases hn : isNm nm = true
      · go_wp2_with (go_at_call 159; refine (refName_any _ _ hsz).mono ?_; rintro e w' ⟨rfl, rfl⟩)
        go_round
        case rel => exact ⟨k + 1, by omega, by go_num, by rw [HSN.out, HD.out, hn]; rfl⟩
        case measure => simp [intOf]; omega
      · simp only [Bool.not_eq_true] at hn
        go_wp2_with (go_at_call 159; refine (refName_any _ _ hsz).mono ?_; rintro e w' ⟨rfl, rfl⟩)
        go_ret
        refine ⟨ret_bool ?_, hb⟩
        rw [pathL, all_nm out _ HM.out, HBD.out hn]; simp
    · go_wp2
      go_ret
      refine ⟨ret_bool ?_, hb⟩
      have h := HD.out
      rw [List.take_of_length_le (by omega)] at h
      rw [pathL, all_nm out _ HM.out, h, ← HM.out, List.length_map]
      simp; omega

/-! The program's. -/
end Go.Proofs.YtpjjagalekolaaaGreatDoor

/- Places, and operations of a script: the program's test. -/
namespace Go.Proofs.YtpjjagalekolaaaGreatDoor
open Go.RowKit

def placeB (l : List UInt8) (spare : Bool) : Bool := pathL l || spare && spareL l
def toB (l : List UInt8) (need : Bool) : Bool := if need then placeB l true else l.isEmpty

theorem cell_kept {B : Nat} {w w' : World} {b o : Nat} {v : Value} (hb : Below B w w') (hB : b < B) (h : w.cell? ⟨b, o, none⟩ = some v) : w'.cell? ⟨b, o, none⟩ = some v :=
  (hb.cell (p := ⟨b, o, none⟩) hB).trans h

structure OpD where
  kind : Int
  path : ByteArray
  dest : ByteArray
  id : Int
  size : Int
  mode : Int
def OpD.cells (o : OpD) : List Value := [.int .i64 o.kind, .string o.path, .string o.dest, .int .i64 o.id, .int .i64 o.size, .int .i64 o.mode]

/-- What a kind needs: its word; may the path be a spare name; To; Id and Size; Mode. -/
structure Need where
  word : ByteArray
  sp : Bool
  td : Bool
  fi : Bool
  mo : Bool
def Need.cells (n : Need) : List Value := [.string n.word, .bool n.sp, .bool n.td, .bool n.fi, .bool n.mo]

def opFits (o : OpD) (n : Need) : Bool := placeB o.path.data.toList n.sp && toB o.dest.data.toList n.td && fitsB o.id n.fi 1 9999 && fitsB o.size n.fi 0 100 && fitsB o.mode n.mo 0 511

theorem bcell {W w1 : World} (hb : Below W.heap.size W w1) : (∀ b o, b < W.heap.size → w1.cell? ⟨b, o, none⟩ = W.cell? ⟨b, o, none⟩) ∧ (∀ b o, b < W.heap.size → w1.frozen? ⟨b, o, none⟩ = W.frozen? ⟨b, o, none⟩) :=
  ⟨fun b o h => hb.cell (p := ⟨b, o, none⟩) h, fun b o h => hb.frozen (p := ⟨b, o, none⟩) h⟩
theorem past1 {w : World} {b o : Nat} {v : Value} (hb : b < w.heap.size) (h : w.cell? ⟨b, o, none⟩ = some v) : ∀ o1, (w.alloc o1).cell? ⟨b, o, none⟩ = some v := fun o1 => by
  rw [World.cell?_alloc_past _ _ _ hb]; exact h
end Go.Proofs.YtpjjagalekolaaaGreatDoor

