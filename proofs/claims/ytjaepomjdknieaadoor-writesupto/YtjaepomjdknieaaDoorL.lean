/- The program's Encode. -/
import Derived.Test.YtjaepomjdknieaaDoorS2
import Derived.Laws.IdiomStrings
namespace Go.Proofs.YtjaepomjdknieaaDoor
open Go.RowKit
set_option linter.unusedVariables false

def parts8 (l : List OpD) (k : Nat) : List UInt8 := ((l.take k).map op8).flatten
theorem parts8_succ (l : List OpD) (k : Nat) (h : k < l.length) : parts8 l (k + 1) = parts8 l k ++ op8 l[k] := by
  unfold parts8; rw [List.take_succ_eq_append_getElem h]; simp only [List.map_append, List.map_cons, List.map_nil, List.flatten_append, List.flatten_cons, List.flatten_nil, List.append_nil]
theorem tail8_length (o : OpD) (n : Need) (h : o.fit) : (tail8 o n).length ≤ 600 := by
  have a1 := h.path
  have a2 := h.dest
  have l1 := lenD o.path
  have l2 := lenD o.dest
  unfold tail8 text8 two8
  split <;> split <;> split <;> simp <;> omega
theorem parts8_length (l : List OpD) (h : ∀ o ∈ l, o.fit) : ∀ k, k ≤ l.length → (parts8 l k).length ≤ 601 * k := by
  intro k
  induction k with
  | zero => intro _; simp [parts8]
  | succ k ih =>
    intro hk
    have h1 := ih (by omega)
    rw [parts8_succ l k (by omega), List.length_append]
    have h2 := tail8_length l[k] (needOf (l[k]).kind.toNat) (h _ (List.getElem_mem _))
    simp only [op8, List.length_cons]
    omega

def encS (l : List OpD) : ByteArray := if scriptB l then ⟨(enc8 l).toArray⟩ else ⟨#[]⟩
def encE (l : List OpD) : Int := if scriptB l then 0 else 18

theorem script_ops (l : List OpD) (h : scriptB l = true) : l.length ≤ 400 ∧ ∀ o ∈ l, okOp o = true := by
  simpa [scriptB] using h

theorem BwAt.fresh (w : World) : BwAt w.heap.size w.heap.size [] (w.alloc (.cells #[.slice none 0 0] 98)) :=
  ⟨Nat.le_refl _, .slice none 0 0, heap_alloc_new w _, World.ownsRow_nil _ _ _ _, by simp [Value.ownBlock]⟩

/-- The writer's bytes, as one string. -/
theorem BwAt.text {B b : Nat} {l : List UInt8} {w : World} (h : BwAt B b (Lib.byteCells l) w) (h0 : l ≠ []) : ∃ v, w.cell? ⟨b, 0, none⟩ = some v ∧ (convert 96 9 v).run Tryd.prog w = .ok (.string ⟨l.toArray⟩) w := by
  obtain ⟨hB, v, hbk, hown, hne⟩ := h
  refine ⟨v, by rw [Lib.cell_of_heap hbk]; rfl, ?_⟩
  have hown2 := hown
  rcases hown.2 with ⟨rfl, hz⟩ | ⟨g, cap, cur, rfl, _⟩
  · rw [Lib.byteCells_length] at hz
    exact absurd (List.eq_nil_of_length_eq_zero hz) h0
  · rw [Lib.byteCells_length]
    refine run_convert_bytes_back w 96 9 5 ⟨g, 0, none⟩ cap l Tryd.underlying96 Tryd.underlying5 Tryd.underlying9 (fun j hj => ?_)
    exact hown2.cells (g := g) rfl j _ (by simp [Lib.byteCells, hj])

theorem enc8_ne (l : List OpD) : enc8 l ≠ [] := by simp [enc8, two8]

set_option maxHeartbeats 2000000 in
set_option maxRecDepth 100000 in
theorem encode_yes (ba off cap : Nat) (l : List OpD) (w : World) (hg : Gd w) (hs : ∀ o ∈ l, o.small) (hb : ba < w.heap.size) (hc : OpsAt w ba off l) (hy : scriptB l = true) :
    Calls Tryd.prog 37 #[.slice (some ⟨ba, off, none⟩) l.length cap] w fun e w' => e = .returned (.tuple #[.string ⟨(enc8 l).toArray⟩, .int .i64 0]) ∧ Below w.heap.size w w' := by
  obtain ⟨h400, hok⟩ := script_ops l hy
  have hfit : ∀ o ∈ l, o.fit := fun o ho => (okOp_fit o (hok o ho)).1
  have HY : Hid (scriptB l = true) := hy
  clear hy
  go_enter Tryd.func37, Tryd.ntmps37
  go_wp2_with fail
  refine (isScript_any ba off cap l w hg (by omega) hs hb hc).mono ?_
  rintro e w1 ⟨rfl, hb1⟩
  rw [HY.out]
  have hz1 := hb1.size
  go_wp2_with fail
  refine (number2_any w1.heap.size w1.heap.size [] l.length 400 _ (BwAt.fresh w1) (by simp) (by simp only [World.size_alloc]; omega) (by decide) (by omega) (by omega)).mono ?_
  rintro e w2 ⟨rfl, hbw2, hbl2, hke2⟩
  have HW2 : Hid (BwAt w1.heap.size w1.heap.size (Lib.byteCells (two8 l.length ++ parts8 l 0)) w2) := by
    have e1 := two8_cells l.length (by omega) (by omega)
    simp only [List.nil_append] at hbw2
    show BwAt _ _ _ _
    rw [show parts8 l 0 = [] from rfl, List.append_nil, ← e1]
    exact hbw2
  have HB2 : Hid (Below w.heap.size w w2) := (hb1.alloc hz1 _).trans (hbl2.mono hz1)
  have hz2 := hbl2.size
  simp only [World.size_alloc] at hz2
  clear hbw2 hbl2 hke2
  go_wp2_with fail
  go_loopw [18] (fun i wr => ∃ k : Nat, k ≤ l.length ∧ i = .int .i64 k ∧ BwAt w1.heap.size w1.heap.size (Lib.byteCells (two8 l.length ++ parts8 l k)) wr ∧ Below w.heap.size w wr ∧ w1.heap.size < wr.heap.size) (fun i _ => l.length - (intOf i).toNat)
  case atStart => exact ⟨0, Nat.zero_le _, rfl, HW2.out, HB2.out, by omega⟩
  case round =>
    obtain ⟨k, hk, rfl, hbw, hbl, hzr⟩ := hrel
    clear HW2 HB2 hz2
    by_cases hlt : k < l.length
    · have hcw := (hc.below hbl hb) k hlt
      have HS : Hid (parts8 l (k + 1) = parts8 l k ++ op8 l[k]) := parts8_succ l k hlt
      have hlen : (Lib.byteCells (two8 l.length ++ parts8 l k)).length ≤ 9000000 := by
        have := parts8_length l hfit k hk
        rw [Lib.byteCells_length, List.length_append]
        simp only [two8, List.length_cons, List.length_nil]
        omega
      obtain ⟨hf, k1, k7⟩ := okOp_fit _ (hok _ (List.getElem_mem hlt))
      generalize l[k] = o at *
      obtain ⟨K, hK⟩ := Int.eq_ofNat_of_zero_le (by omega : 0 ≤ o.kind)
      have HK : Hid (o.kind = (K : Int)) := hK
      clear hK
      have c0 := hcw 0 _ rfl
      have c1 := hcw 1 _ rfl
      have c2 := hcw 2 _ rfl
      have c3 := hcw 3 _ rfl
      have c4 := hcw 4 _ rfl
      have c5 := hcw 5 _ rfl
      simp only [Nat.add_zero] at c0
      clear hcw
      go_wp2_with fail
      refine (number1_any w1.heap.size w1.heap.size (Lib.byteCells (two8 l.length ++ parts8 l k)) o.kind 7 _ (hbw.alloc _) (by omega) (by simp only [World.size_alloc]; omega) (by decide) (by omega) (by omega)).mono ?_
      rintro e w3 ⟨rfl, hbw3, hbl3, hke3⟩
      have hbox := hke3 wr.heap.size _ _ _ (by omega) (by decide) (heap_alloc_new wr _)
      have hx := fun j => Lib.cell_of_heap hbox j
      have hz3 := hbl3.size
      simp only [World.size_alloc] at hz3
      have hB3 : Below w.heap.size w w3 := (hbl.alloc (by omega) _).trans (hbl3.mono hz1)
      have HB3 : Hid (Below w.heap.size w w3) := hB3
      have HG3 : Hid (Gd w3) := hg.below hB3
      have HW3 : Hid (BwAt w1.heap.size w1.heap.size (Lib.byteCells (two8 l.length ++ parts8 l k) ++ [Value.int .u8 o.kind]) w3) := hbw3
      clear hbw3 hbl3 hke3 hbox hB3 c0 c1 c2 c3 c4 c5
      go_wp2_with fail
      refine (writeOpB_any o hf K HK.out (by have := HK.out; omega) (by have := HK.out; omega) (needOf K).word (needOf K).sp (needOf K).td (needOf K).fi (needOf K).mo w1.heap.size w1.heap.size _ w3 HW3.out (by simp only [List.length_append, List.length_cons, List.length_nil]; omega) (by omega) (by have := hg.big; omega) (HG3.out.need K (by have := HK.out; omega))).mono ?_
      rintro e w4 ⟨rfl, hbw4, hbl4, hke4⟩
      have hz4 := hbl4.size
      have HW4 : Hid (BwAt w1.heap.size w1.heap.size (Lib.byteCells (two8 l.length ++ parts8 l (k + 1))) w4) := by
        show BwAt _ _ _ _
        have e2 : o.kind.toNat = K := by have := HK.out; omega
        have e3 : Lib.byteCells (op8 o) = [Value.int .u8 o.kind] ++ encTail o (needOf K) := by
          rw [op8, e2, tail8_cells o _ hf, b8_cell o.kind (by omega) (by omega)]; rfl
        rw [HS.out, ← List.append_assoc, byteCells_append, e3, ← List.append_assoc]
        exact hbw4
      clear hbw4
      go_wp2
      exact ⟨⟨k + 1, by omega, by go_num, HW4.out, HB3.out.trans (hbl4.mono hz1), by omega⟩, by simp [intOf]; omega⟩
    · have hke : k = l.length := by omega
      subst hke
      have e1 : parts8 l l.length = (l.map op8).flatten := by simp [parts8]
      rw [e1] at hbw
      obtain ⟨v, hv, hconv⟩ := BwAt.text hbw (enc8_ne l)
      have HB : Hid (Below w.heap.size w wr) := hbl
      clear hbw hbl
      go_wp2
      go_ret2
      exact ⟨rfl, HB.out⟩

set_option maxHeartbeats 1000000 in
theorem encode_no (ba off cap : Nat) (l : List OpD) (w : World) (hg : Gd w) (hl : l.length ≤ 2000000) (hs : ∀ o ∈ l, o.small) (hb : ba < w.heap.size) (hc : OpsAt w ba off l) (hn : scriptB l = false) :
    Calls Tryd.prog 37 #[.slice (some ⟨ba, off, none⟩) l.length cap] w fun e w' => e = .returned (.tuple #[.string ⟨#[]⟩, .int .i64 18]) ∧ Below w.heap.size w w' := by
  have HN : Hid (scriptB l = false) := hn
  clear hn
  go_enter Tryd.func37, Tryd.ntmps37
  go_wp2_with fail
  refine (isScript_any ba off cap l w hg hl hs hb hc).mono ?_
  rintro e w1 ⟨rfl, hb1⟩
  rw [HN.out]
  go_wp2
  go_ret2
  exact ⟨rfl, hb1⟩

theorem encode_any (ba off cap : Nat) (l : List OpD) (w : World) (hg : Gd w) (hl : l.length ≤ 2000000) (hs : ∀ o ∈ l, o.small) (hb : ba < w.heap.size) (hc : OpsAt w ba off l) :
    Calls Tryd.prog 37 #[.slice (some ⟨ba, off, none⟩) l.length cap] w fun e w' => e = .returned (.tuple #[.string (encS l), .int .i64 (encE l)]) ∧ Below w.heap.size w w' := by
  unfold encS encE
  by_cases h : scriptB l = true
  · rw [if_pos h, if_pos h]
    exact encode_yes ba off cap l w hg hs hb hc h
  · rw [if_neg h, if_neg h]
    exact encode_no ba off cap l w hg hl hs hb hc (by simpa using h)

set_option maxHeartbeats 1000000 in
set_option maxRecDepth 100000 in
theorem encode_nil (w : World) :
    Calls Tryd.prog 37 #[.slice none 0 0] w fun e w' => e = .returned (.tuple #[.string (encS []), .int .i64 (encE [])]) ∧ Below w.heap.size w w' := by
  have e0 : encS [] = ⟨(enc8 []).toArray⟩ := by simp [encS, scriptB]
  have e1 : encE [] = 0 := by simp [encE, scriptB]
  rw [e0, e1]
  clear e0 e1
  go_enter Tryd.func37, Tryd.ntmps37
  go_wp2_with fail
  refine (isScript_nil w).mono ?_
  rintro e w ⟨rfl, rfl⟩
  go_wp2_with fail
  refine (number2_any w.heap.size w.heap.size [] 0 400 _ (BwAt.fresh w) (by simp) (by simp only [World.size_alloc]; omega) (by decide) (by omega) (by omega)).mono ?_
  rintro e w2 ⟨rfl, hbw2, hbl2, hke2⟩
  have e2 : enc8 [] = two8 0 := rfl
  have hbw3 : BwAt w.heap.size w.heap.size (Lib.byteCells (enc8 [])) w2 := by
    rw [e2, ← two8_cells 0 (by omega) (by omega)]; exact hbw2
  obtain ⟨v, hv, hconv⟩ := BwAt.text hbw3 (enc8_ne [])
  have HB : Hid (Below w.heap.size w w2) := ((Below.refl _ _).alloc (Nat.le_refl _) _).trans hbl2
  clear hbw2 hbw3 hbl2 hke2 e2
  go_wp2_with fail
  refine wp_loop_rounds 1 ?_
  rw [rounds_succ]
  go_wp2
  go_ret2
  exact ⟨rfl, HB.out⟩

set_option maxHeartbeats 1000000 in
theorem faceEncode_any (v : Value) (S : ByteArray) (E : Int) (w : World) (h : Calls Tryd.prog 37 #[v] w fun e w' => e = .returned (.tuple #[.string S, .int .i64 E]) ∧ Below w.heap.size w w') :
    Calls Tryd.prog 19 #[v] w fun e w' => e = .returned (.tuple #[.string S, .int .i64 E]) ∧ Below w.heap.size w w' := by
  have H : Hid (Calls Tryd.prog 37 #[v] w fun e w' => e = .returned (.tuple #[.string S, .int .i64 E]) ∧ Below w.heap.size w w') := h
  clear h
  go_enter Tryd.func19, Tryd.ntmps19
  go_wp2_with fail
  refine H.out.mono ?_
  rintro e w1 ⟨rfl, hb⟩
  go_wp2
  go_ret2
  exact ⟨rfl, hb⟩
end Go.Proofs.YtjaepomjdknieaaDoor
