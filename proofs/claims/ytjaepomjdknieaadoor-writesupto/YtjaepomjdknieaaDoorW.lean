/- The reference's Print. -/
import Derived.Test.YtjaepomjdknieaaDoorV4
import Derived.Test.YtjaepomjdknieaaDoorN
import Derived.Test.YtjaepomjdknieaaDoorU
namespace Go.Proofs.YtjaepomjdknieaaDoor
open Go.RowKit
set_option linter.unusedVariables false

theorem line_any (o : OpD) (hf : o.fit) (w : World) (hg : Gd w) (k1 : 1 ≤ o.kind) (k7 : o.kind ≤ 7) :
    Calls Tryd.prog 42 #[.agg #[.int .i64 o.kind, .string o.path, .string o.dest, .int .i64 o.id, .int .i64 o.size, .int .i64 o.mode]] w fun e w' => e = .returned (.string ⟨(lineBody o o.kind.toNat).toArray⟩) ∧ Below w.heap.size w w' := by
  rcases (by omega : o.kind = 1 ∨ o.kind = 2 ∨ o.kind = 3 ∨ o.kind = 4 ∨ o.kind = 5 ∨ o.kind = 6 ∨ o.kind = 7) with h | h | h | h | h | h | h
  · rw [h]; exact line_1 o hf w hg
  · rw [h]; exact line_2 o hf w hg
  · rw [h]; exact line_3 o hf w hg
  · rw [h]; exact line_4 o hf w hg
  · rw [h]; exact line_5 o hf w hg
  · rw [h]; exact line_6 o hf w hg
  · rw [h]; exact line_7 o hf w hg

theorem lineBody_line (o : OpD) : lineBody o o.kind.toNat ++ [10] = line8 o := rfl
theorem lineBody_length (o : OpD) (h : o.fit) : (lineBody o o.kind.toNat).length ≤ 710 := by
  have := line8_length o h
  rw [← lineBody_line, List.length_append] at this
  omega

set_option maxHeartbeats 2000000 in
set_option maxRecDepth 100000 in
theorem refPrint_yes (ba off cap : Nat) (l : List OpD) (w : World) (hg : Gd w) (hs : ∀ o ∈ l, o.small) (hb : ba < w.heap.size) (hc : OpsAt w ba off l) (hy : scriptB l = true) :
    Calls Tryd.prog 22 #[.slice (some ⟨ba, off, none⟩) l.length cap] w fun e w' => e = .returned (.tuple #[.string ⟨(prt8 l).toArray⟩, .int .i64 0]) ∧ Below w.heap.size w w' := by
  obtain ⟨h400, hok⟩ := script_ops l hy
  have hfit : ∀ o ∈ l, o.fit := fun o ho => (okOp_fit o (hok o ho)).1
  have HG : Hid (Gd w) := hg
  clear hg
  go_enter Tryd.func22, Tryd.ntmps22
  go_wp2_with fail
  refine (wrong_any ba off cap l w (by omega) hs hb hc).mono ?_
  rintro e w1 ⟨n, rfl, hn1, hn2, hb1⟩
  obtain rfl := hn1 hy
  clear hn1 hn2
  go_wp2_with fail
  go_loopw [4, 5] (fun s i wr => ∃ k : Nat, k ≤ l.length ∧ i = .int .i64 k ∧ s = .string ⟨(lines8 l k).toArray⟩ ∧ Below w.heap.size w wr) (fun _ i _ => l.length - (intOf i).toNat)
  case atStart => exact ⟨0, Nat.zero_le _, rfl, by simp [lines8], hb1⟩
  case round =>
    obtain ⟨k, hk, rfl, rfl, hbl⟩ := hrel
    have hbs := hbl.size
    by_cases hlt : k < l.length
    · have hcw := (hc.below hbl hb) k hlt
      have HS : Hid (lines8 l (k + 1) = lines8 l k ++ line8 l[k]) := lines8_succ l k hlt
      have hpl := lines8_length l hfit k hk
      obtain ⟨hf, k1, k7⟩ := okOp_fit _ (hok _ (List.getElem_mem hlt))
      generalize l[k] = o at *
      have hol := lineBody_length o hf
      have c0 := hcw 0 _ rfl
      have c1 := hcw 1 _ rfl
      have c2 := hcw 2 _ rfl
      have c3 := hcw 3 _ rfl
      have c4 := hcw 4 _ rfl
      have c5 := hcw 5 _ rfl
      simp only [Nat.add_zero] at c0
      clear hcw
      go_wp2_with fail
      refine (line_any o hf wr (HG.out.below hbl) k1 k7).mono ?_
      rintro e w3 ⟨rfl, hb3⟩
      go_wp2
      exact ⟨⟨k + 1, by omega, by go_num, by rw [HS.out, ← lineBody_line, show ({ data := #[10] } : ByteArray) = ⟨[10].toArray⟩ from rfl, ba_app, ba_app, List.append_assoc], hbl.trans (hb3.mono hbs)⟩, by simp [intOf]; omega⟩
    · have hke : k = l.length := by omega
      subst hke
      have HE : Hid (lines8 l l.length = prt8 l) := by show _ = _; simp [lines8, prt8]
      go_wp2
      go_ret2
      exact ⟨by rw [HE.out]; rfl, hbl⟩

set_option maxHeartbeats 1000000 in
theorem refPrint_no (ba off cap : Nat) (l : List OpD) (w : World) (hl : l.length ≤ 2000000) (hs : ∀ o ∈ l, o.small) (hb : ba < w.heap.size) (hc : OpsAt w ba off l) (hn : scriptB l = false) :
    Calls Tryd.prog 22 #[.slice (some ⟨ba, off, none⟩) l.length cap] w fun e w' => e = .returned (.tuple #[.string ⟨#[]⟩, .int .i64 18]) ∧ Below w.heap.size w w' := by
  go_enter Tryd.func22, Tryd.ntmps22
  go_wp2_with fail
  refine (wrong_any ba off cap l w hl hs hb hc).mono ?_
  rintro e w1 ⟨n, rfl, hn1, hn2, hb1⟩
  have h0 := hn2 hn
  clear hn1 hn2 hn
  go_wp2
  go_ret2
  exact ⟨rfl, hb1⟩

theorem refPrint_any (ba off cap : Nat) (l : List OpD) (w : World) (hg : Gd w) (hl : l.length ≤ 2000000) (hs : ∀ o ∈ l, o.small) (hb : ba < w.heap.size) (hc : OpsAt w ba off l) :
    Calls Tryd.prog 22 #[.slice (some ⟨ba, off, none⟩) l.length cap] w fun e w' => e = .returned (.tuple #[.string (prtS l), .int .i64 (encE l)]) ∧ Below w.heap.size w w' := by
  unfold prtS encE
  by_cases h : scriptB l = true
  · rw [if_pos h, if_pos h]
    exact refPrint_yes ba off cap l w hg hs hb hc h
  · rw [if_neg h, if_neg h]
    exact refPrint_no ba off cap l w hl hs hb hc (by simpa using h)

set_option maxHeartbeats 1000000 in
set_option maxRecDepth 100000 in
theorem refPrint_nil (w : World) :
    Calls Tryd.prog 22 #[.slice none 0 0] w fun e w' => e = .returned (.tuple #[.string (prtS []), .int .i64 (encE [])]) ∧ w' = w := by
  have e0 : prtS [] = ⟨#[]⟩ := by simp [prtS, scriptB, prt8]
  have e1 : encE [] = 0 := by simp [encE, scriptB]
  rw [e0, e1]
  clear e0 e1
  go_enter Tryd.func22, Tryd.ntmps22
  go_wp2_with fail
  refine (wrong_nil w).mono ?_
  rintro e w ⟨rfl, rfl⟩
  go_wp2_with fail
  refine wp_loop_rounds 1 ?_
  rw [rounds_succ]
  go_wp2
  go_ret2
  exact ⟨rfl, rfl⟩
end Go.Proofs.YtjaepomjdknieaaDoor
