/- The reference's Encode. -/
import Derived.Test.YtjaepomjdknieaaDoorM
import Derived.Test.YtjaepomjdknieaaDoorN
namespace Go.Proofs.YtjaepomjdknieaaDoor
open Go.RowKit
set_option linter.unusedVariables false

theorem op8_length (o : OpD) (h : o.fit) : (op8 o).length ≤ 601 := by
  have := tail8_length o (needOf o.kind.toNat) h
  simp only [op8, List.length_cons]; omega

set_option maxHeartbeats 2000000 in
set_option maxRecDepth 100000 in
theorem refEncode_yes (ba off cap : Nat) (l : List OpD) (w : World) (hs : ∀ o ∈ l, o.small) (hb : ba < w.heap.size) (hc : OpsAt w ba off l) (hy : scriptB l = true) :
    Calls Tryd.prog 20 #[.slice (some ⟨ba, off, none⟩) l.length cap] w fun e w' => e = .returned (.tuple #[.string ⟨(enc8 l).toArray⟩, .int .i64 0]) ∧ Below w.heap.size w w' := by
  obtain ⟨h400, hok⟩ := script_ops l hy
  have hfit : ∀ o ∈ l, o.fit := fun o ho => (okOp_fit o (hok o ho)).1
  go_enter Tryd.func20, Tryd.ntmps20
  go_wp2_with fail
  refine (wrong_any ba off cap l w (by omega) hs hb hc).mono ?_
  rintro e w1 ⟨n, rfl, hn1, hn2, hb1⟩
  obtain rfl := hn1 hy
  clear hn1 hn2
  have hz1 := hb1.size
  go_wp2_with fail
  refine (two_any l.length w1 (by omega) (by omega)).mono ?_
  rintro e w2 ⟨rfl, rfl⟩
  have HB2 : Hid (Below w.heap.size w (w1.alloc (.cells #[.int .u8 ((l.length : Int) / 256), .int .u8 ((l.length : Int) % 256)] 5))) := hb1.alloc hz1 _
  go_wp2_with fail
  go_loopw [4, 5] (fun s i wr => ∃ k : Nat, k ≤ l.length ∧ i = .int .i64 k ∧ s = .string ⟨(two8 l.length ++ parts8 l k).toArray⟩ ∧ Below w.heap.size w wr) (fun _ i _ => l.length - (intOf i).toNat)
  case atStart => exact ⟨0, Nat.zero_le _, rfl, by simp [parts8], HB2.out⟩
  case round =>
    obtain ⟨k, hk, rfl, rfl, hbl⟩ := hrel
    clear HB2
    have hbs := hbl.size
    by_cases hlt : k < l.length
    · have hcw := (hc.below hbl hb) k hlt
      have HS : Hid (parts8 l (k + 1) = parts8 l k ++ op8 l[k]) := parts8_succ l k hlt
      have hpl := parts8_length l hfit k hk
      obtain ⟨hf, k1, k7⟩ := okOp_fit _ (hok _ (List.getElem_mem hlt))
      generalize l[k] = o at *
      have hol := op8_length o hf
      have ht2 := two8_len l.length
      have c0 := hcw 0 _ rfl
      have c1 := hcw 1 _ rfl
      have c2 := hcw 2 _ rfl
      have c3 := hcw 3 _ rfl
      have c4 := hcw 4 _ rfl
      have c5 := hcw 5 _ rfl
      simp only [Nat.add_zero] at c0
      clear hcw
      have HO : Hid (b8 o.kind :: tail8 o (needOf o.kind.toNat) = op8 o) := rfl
      go_wp2_with fail
      refine (bytes_any o hf wr o.kind k1 k7).mono ?_
      rintro e w3 ⟨rfl, hb3⟩
      rw [HO.out]
      go_wp2
      exact ⟨⟨k + 1, by omega, by go_num, by rw [HS.out, ba_app, List.append_assoc], hbl.trans (hb3.mono hbs)⟩, by simp [intOf]; omega⟩
    · have hke : k = l.length := by omega
      subst hke
      have HE : Hid (two8 l.length ++ parts8 l l.length = enc8 l) := by show _ = _; simp [parts8, enc8]
      go_wp2
      go_ret2
      exact ⟨by rw [HE.out]; rfl, hbl⟩

set_option maxHeartbeats 1000000 in
theorem refEncode_no (ba off cap : Nat) (l : List OpD) (w : World) (hl : l.length ≤ 2000000) (hs : ∀ o ∈ l, o.small) (hb : ba < w.heap.size) (hc : OpsAt w ba off l) (hn : scriptB l = false) :
    Calls Tryd.prog 20 #[.slice (some ⟨ba, off, none⟩) l.length cap] w fun e w' => e = .returned (.tuple #[.string ⟨#[]⟩, .int .i64 18]) ∧ Below w.heap.size w w' := by
  go_enter Tryd.func20, Tryd.ntmps20
  go_wp2_with fail
  refine (wrong_any ba off cap l w hl hs hb hc).mono ?_
  rintro e w1 ⟨n, rfl, hn1, hn2, hb1⟩
  have h0 := hn2 hn
  clear hn1 hn2 hn
  go_wp2
  go_ret2
  exact ⟨rfl, hb1⟩

theorem refEncode_any (ba off cap : Nat) (l : List OpD) (w : World) (hl : l.length ≤ 2000000) (hs : ∀ o ∈ l, o.small) (hb : ba < w.heap.size) (hc : OpsAt w ba off l) :
    Calls Tryd.prog 20 #[.slice (some ⟨ba, off, none⟩) l.length cap] w fun e w' => e = .returned (.tuple #[.string (encS l), .int .i64 (encE l)]) ∧ Below w.heap.size w w' := by
  unfold encS encE
  by_cases h : scriptB l = true
  · rw [if_pos h, if_pos h]
    exact refEncode_yes ba off cap l w hs hb hc h
  · rw [if_neg h, if_neg h]
    exact refEncode_no ba off cap l w hl hs hb hc (by simpa using h)

set_option maxHeartbeats 1000000 in
set_option maxRecDepth 100000 in
theorem refEncode_nil (w : World) :
    Calls Tryd.prog 20 #[.slice none 0 0] w fun e w' => e = .returned (.tuple #[.string (encS []), .int .i64 (encE [])]) ∧ Below w.heap.size w w' := by
  have e0 : encS [] = ⟨(two8 0).toArray⟩ := by simp [encS, scriptB, enc8]
  have e1 : encE [] = 0 := by simp [encE, scriptB]
  rw [e0, e1]
  clear e0 e1
  go_enter Tryd.func20, Tryd.ntmps20
  go_wp2_with fail
  refine (wrong_nil w).mono ?_
  rintro e w ⟨rfl, rfl⟩
  go_wp2_with fail
  refine (two_any 0 w (by omega) (by omega)).mono ?_
  rintro e w2 ⟨rfl, rfl⟩
  go_wp2_with fail
  refine wp_loop_rounds 1 ?_
  rw [rounds_succ]
  go_wp2
  go_ret2
  exact ⟨rfl, (Below.refl _ _).alloc (Nat.le_refl _) _⟩
end Go.Proofs.YtjaepomjdknieaaDoor
