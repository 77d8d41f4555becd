/- Paths: the program's and the reference's tests of a path. -/
import Derived.Test.YtjaepomjdknieaaDoorB
import Derived.Test.YtjaepomjdknieaaDoorC
import Derived.Test.YtjaepomjdknieaaDoorD
import Derived.Test.YtjaepomjdknieaaDoorE0
import Derived.Test.YtjaepomjdknieaaDoorShelf
namespace Go.Proofs.YtjaepomjdknieaaDoor
open Go.RowKit

theorem eta (s : ByteArray) : (⟨s.data.toList.toArray⟩ : ByteArray) = s := by simp
/-- A row of strings that the call has made, written out. -/
def StrRow (w : World) (B g : Nat) (out : List ByteArray) : Prop := B ≤ g ∧ g < w.heap.size ∧ ∀ (j : Nat) (h : j < out.length), w.cell? ⟨g, j, none⟩ = some (.string out[j])

theorem names_row (s : ByteArray) (w : World) (hs : s.size ≤ 2000000) :
    Calls Tryd.prog 59 #[.string s] w fun e w' => ∃ g cap out, e = .returned (.slice (some ⟨g, 0, none⟩) (out : List ByteArray).length cap) ∧ StrRow w' w.heap.size g out ∧ out.map (·.data.toList) = spl s.data.toList ∧ Below w.heap.size w w' := by
  refine (names_any s w hs).mono ?_
  rintro e w' ⟨v, out, rfl, hown, hmap, hb⟩
  have hpos : 1 ≤ out.length := by have := spl_pos s.data.toList; rw [← hmap] at this; simpa using this
  obtain ⟨hlen, h2⟩ := hown
  rcases h2 with ⟨rfl, h0⟩ | ⟨g, cap, cur, rfl, hbg, hg, hn, hm, hsz, htake⟩
  · omega
  · refine ⟨g, cap, out, rfl, ⟨hbg, (Array.getElem?_eq_some_iff.1 hg).1, fun j hj => ?_⟩, hmap, hb⟩
    have e1 : (cur.toList.take (out.length * 1))[j]? = some (.string out[j]) := by rw [htake]; simp [hj]
    rw [List.getElem?_take, if_pos (by omega)] at e1
    simp only [World.cell?, hg]
    simpa using e1

theorem take_all_snoc (out : List ByteArray) (k : Nat) (h : k < out.length) : (out.take (k + 1)).all isNm = ((out.take k).all isNm && isNm out[k]) := by
  rw [List.take_succ_eq_append_getElem h, List.all_append, List.all_cons, List.all_nil, Bool.and_true]
theorem all_bad (out : List ByteArray) (k : Nat) (h : k < out.length) (hb : isNm out[k] = false) : out.all isNm = false := by
  cases hc : out.all isNm
  · rfl
  · rw [List.all_eq_true] at hc
    have := hc out[k] (List.getElem_mem h)
    rw [hb] at this; cases this

theorem pieces_small (out : List ByteArray) (l : List UInt8) (h : out.map (·.data.toList) = spl l) (hl : l.length ≤ 2000000) : ∀ (k : Nat) (hk : k < out.length), out[k].size ≤ 2000000 := by
  intro k hk
  have hsum : ∀ (l : List UInt8) (st : List (List UInt8) × List UInt8) (n : Nat), (∀ p ∈ st.1, p.length ≤ n) → st.2.length ≤ n → (∀ p ∈ (l.foldl splStep st).1, p.length ≤ n + l.length) ∧ (l.foldl splStep st).2.length ≤ n + l.length := by
    intro l
    induction l with
    | nil => intro st n h1 h2; exact ⟨by simpa using h1, by simpa using h2⟩
    | cons c l ih =>
      intro st n h1 h2
      have := ih (splStep st c) (n + 1) (by
        intro p hp
        unfold splStep at hp
        split at hp
        · simp at hp; rcases hp with hp | rfl
          · have := h1 p hp; omega
          · omega
        · have := h1 p hp; omega) (by unfold splStep; split <;> simp; omega)
      simp only [List.foldl_cons, List.length_cons]
      refine ⟨fun p hp => by have := this.1 p hp; omega, by omega⟩
  have h1 := hsum l ([], []) 0 (by simp) (by simp)
  have hmem : out[k].data.toList ∈ spl l := by rw [← h]; exact List.mem_map.2 ⟨_, List.getElem_mem hk, rfl⟩
  unfold spl splSt at hmem
  simp only [List.mem_append, List.mem_singleton] at hmem
  have hsz := lenD out[k]
  rcases hmem with hm | hm
  · have := h1.1 _ hm; omega
  · rw [hm] at hsz; omega

set_option maxHeartbeats 1000000 in
theorem refPath_any (s : ByteArray) (w : World) (hs : s.size ≤ 1500000) :
    Calls Tryd.prog 73 #[.string s] w fun e w' => e = .returned (.bool (pathL s.data.toList)) ∧ Below w.heap.size w w' := by
  go_enter Tryd.func73, Tryd.ntmps73
  go_wp2_with (go_at_call 59; refine (names_row _ _ (by omega)).mono ?_; rintro e w1 ⟨g, cap, out, rfl, hrow, hmap, hb⟩)
  have hol : out.length ≤ 1500001 := by
    have h1 := spl_length_le s.data.toList
    rw [← hmap, List.length_map, lenD] at h1
    omega
  have HM : Hid (out.map (·.data.toList) = spl s.data.toList) := hmap
  have HR : Hid (StrRow w1 w.heap.size g out) := hrow
  clear hmap hrow
  go_loop [4] (fun i => ∃ k : Nat, k ≤ out.length ∧ i = .int .i64 k ∧ (out.take k).all isNm = true) (fun i => out.length - (intOf i).toNat)
  case atStart => exact ⟨0, Nat.zero_le _, rfl, rfl⟩
  case round =>
    obtain ⟨k, hk, rfl, hd⟩ := hrel
    have HD : Hid ((out.take k).all isNm = true) := hd
    clear hd
    by_cases hlt : k < out.length
    · have hcell := HR.out.2.2 k hlt
      have hsz := pieces_small out _ HM.out (by rw [lenD]; omega) k hlt
      have HSN : Hid ((out.take (k + 1)).all isNm = ((out.take k).all isNm && isNm out[k])) := take_all_snoc out k hlt
      have HBD : Hid (isNm out[k] = false → out.all isNm = false) := fun h => all_bad out k hlt h
      generalize out[k] = nm at *
      by_cases hn : isNm nm = true
      · go_wp2_with (go_at_call 93; refine (refName_any _ _ hsz).mono ?_; rintro e w' ⟨rfl, rfl⟩)
        go_round
        case rel => exact ⟨k + 1, by omega, by go_num, by rw [HSN.out, HD.out, hn]; rfl⟩
        case measure => simp [intOf]; omega
      · simp only [Bool.not_eq_true] at hn
        go_wp2_with (go_at_call 93; refine (refName_any _ _ hsz).mono ?_; rintro e w' ⟨rfl, rfl⟩)
        go_ret
        refine ⟨ret_bool ?_, hb⟩
        rw [pathL, all_nm out _ HM.out, HBD.out hn]; simp
    · go_wp2
      go_ret
      refine ⟨ret_bool ?_, hb⟩
      have h := HD.out
      rw [List.take_of_length_le (by omega)] at h
      rw [pathL, all_nm out _ HM.out, h, ← HM.out, List.length_map]
      simp; omega

/-! The program's. -/
theorem isPath_any (s : ByteArray) (m : Int) (w : World) (hs : s.size ≤ 1500000) (_hm : w.cell? ⟨1, 0, none⟩ = some (.int .i64 m)) :
    Calls Tryd.prog 80 #[.string s] w fun e w' => e = .returned (.bool (pathL s.data.toList)) ∧ Below w.heap.size w w' := isPath_in s w hs
end Go.Proofs.YtjaepomjdknieaaDoor
